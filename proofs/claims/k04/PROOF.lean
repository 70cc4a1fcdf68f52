import PyProof.Rows.All
import Wide.All
import OpenK.AllK
import Wide.FinOn
import PyProof.EqAt
import PyProof.EqKinds
import PyProof.TupleCall
import KE.KIsAll
import HandS.Base
import HandS.Call
import HandS.List
import HandS.Ends
import HandS.Exc
import HandS.ExcInit
import HandS.ForExc
import HandS.IsInst
import HandS.Defaults
import HandS.MakeKwOnly
import KE.KIsNot
import OpenK.KDescr
import HandS.ExcIs
import HandS.ForMost
import HandS.More
import HandS.DictComp
import HandS.DeepEq
import HandS.Evl
import PyProof.NeKinds
import HandS.DictTup
import HandS.Conv
import HandS.DictEq
import HandS.SortKw
import KE.SortKeyHeap
import PyProof.ReprRoads
import HandS.Property
import HandS.Codes
import HandS.Iter
import HandS.Steps
import HandS.Walk
import HandS.TryMany
import HandS.WordsExc
import HandS.OwnEq
import PyProof.InstNe
import KE.KRevSl
import HandS.Deep
import HandS.RaiseMore
import HandS.Lambda
import HandS.WordsDict
import HandS.ExcField
import HandS.EndTab
import KE.KDictPairs
import PySem.Challenge.RW_answeredsettings_k04_pacts_made_and_read
set_option Elab.async false
set_option linter.all false
set_option maxRecDepth 100000
set_option maxHeartbeats 4000000
/-! Own errors over Exception: made by position or by name, kept as values. -/
namespace Err
open PySem PySem.W PySem.Calls PyProof.Rows PySem.HandSPX PySem.Builtin PySem.Builtin.ObjectAttr
/-- the chain above an own error: own classes, then the three built-in ones -/
inductive OwnMro : List Value → Prop
  | base : OwnMro [.type "Exception", .type "BaseException", .type "object"]
  | cons (c : Addr) {r : List Value} : OwnMro r → OwnMro (.ref c :: r)
theorem OwnMro.has {l : List Value} (m : OwnMro l) (X : String) : l.contains (.type X) = ([.type "Exception", .type "BaseException", .type "object"] : List Value).contains (.type X) := by
  induction m with
  | base => rfl
  | cons c _ ih => rw [List.contains_cons, ih]; rfl
theorem OwnMro.goes {l : List Value} (m : OwnMro l) (self : Value) : refuseLoop self "__setattr__" l = pure () := by
  induction m with
  | base => exact F.store_Exception.passes self
  | cons c _ ih => rw [refuseLoop_ref]; exact ih
theorem OwnMro.some {l : List Value} (m : OwnMro l) : l.isEmpty = false := by cases m <;> rfl
/-- the object of an error that is being made: t its arguments -/
abbrev raw (C t : Addr) (d : Option Addr) : Obj := { cls := .ref C, dict := d, data := .fields #[.ref t, .none, .none, .none, .bool false, .none] }
section
variable {prog : Program} {w : World} {A : Around} {E : Value → Shared → Prop} {R : Result → Shared → Prop} {hp : Heap} {g : Array GenState} {dr : Drawn} {tk : Nat} {os : OsState}
variable {nm q : Str} {C N : Addr} {bs bm bmB : List Value} {hdct : Bool} {sn : List Str} {sub : List Value} {ab : Bool} {col : Option Bool} {dd : Option Addr} {k0 k1 k2 k3 k5 : Option Value} {B newId initId : String}
/-- the maker is asked whether it may be called: with names, too -/
theorem may_new {M : Model} (FB : ExcBaseFacts B newId initId bmB) (hT : ∀ X : String, bm.contains (.type X) = bmB.contains (.type X)) {us : List Value} {kw : List (Str × Value)} {Q : Unit → Shared → Prop}
    (hC : hp.get? C = Option.some (excClassObj nm q C N bs bm hdct sn sub ab col dd k0 k1 k2 k3 k5 newId)) (hq : Q () ⟨hp, g, dr, tk, os⟩) :
    wpAny M A (checkBuiltinCall newId ⟨.ref C :: us, kw⟩) Q E ⟨hp, g, dr, tk, os⟩ := by
  have has : (Value.ref C :: bm).contains (.type B) = true := by rw [List.contains_cons, hT, FB.hasB, Bool.or_true]
  have st := FB.noStar
  simp only [checkBuiltinCall, FB.newKind, FB.newSplit, FB.newRow]
  repeat (first
    | refine wpAny_loadPart_at hC ?_
    | (refine wpAny_isSubtype_exc hC ?_
       rw [has])
    | refine wpAny_staticBase_exc hC ?_
    | refine wpAny_madeBy_exc hC ?_
    | simp only [bne_self_eq_false, Bool.false_eq_true, if_false]
    | wp_step)
  exact hq
theorem new_any (FB : ExcBaseFacts B newId initId bmB) (hT : ∀ X : String, bm.contains (.type X) = bmB.contains (.type X)) {us : List Value} {kw : List (Str × Value)}
    (hC : hp.get? C = Option.some (excClassObj nm q C N bs bm hdct sn sub ab col dd k0 k1 k2 k3 k5 newId))
    (hq : R (.ok (.ret (.ref (hp.objs.size + 1)))) ⟨(hp.push (kdv_tup us)).push (raw C hp.objs.size none), g, dr, tk, os⟩) (hl : us.length ≤ sizeLine) :
    codeAny (model prog w) A (.builtin newId ⟨.ref C :: us, kw⟩) R ⟨hp, g, dr, tk, os⟩ := by
  have he := FB.ends
  have b1 : (Value.ref C :: bm).contains (.type B) = true := by rw [List.contains_cons, hT, FB.hasB, Bool.or_true]
  have b2 : (Value.ref C :: bm).contains (.type "AttributeError") = false := by rw [List.contains_cons, hT, FB.noAttr]; rfl
  have b3 : (Value.ref C :: bm).contains (.type "NameError") = false := by rw [List.contains_cons, hT, FB.noName]; rfl
  refine codeAny_builtinAt FB.entry ?_
  unfold Builtin.«BaseException.__new__»
  refine PySem.wpAt_bind ?_
  show PySem.wpAt _ _ _ (stack >>= _) _ _ _
  refine PySem.wpAt_bind (PySem.wpAt_stack fun p below => PySem.wpAt_of_wpAny ?_)
  wp_walk
  refine wpAt_of_wpAny ?_
  rw [FB.owner]
  repeat (first
    | with_reducible refine wpAny_madeHere_exc FB.canon hC ?_
    | with_reducible refine wpAny_loadPart_at hC ?_
    | (with_reducible refine wpAny_isSubtype_exc hC ?_
       first | rw [b1] | rw [b2] | rw [b3])
    | wp_step)
  show R _ _
  rw [Heap.size_push]
  exact hq
theorem type_call_any (FB : ExcBaseFacts B newId initId bmB) (hT : ∀ X : String, bm.contains (.type X) = bmB.contains (.type X)) {us : List Value} {kw : List (Str × Value)} {fI : Addr} {Q : Fin → Shared → Prop}
    (hC : hp.get? C = Option.some (excClassObj nm q C N bs bm hdct sn sub ab col dd k0 k1 k2 k3 k5 newId)) (hi : Looks (model prog w) hp (typeLookup (.ref C) "__init__") (Option.some (.ref fI)))
    (hb : ∀ self, Looks (model prog w) hp (bindSpecial (.ref fI) self) (.ref fI, [self])) (hl : us.length ≤ sizeLine)
    (hq : codeAny (model prog w) A (.call (.ref fI) ⟨.ref (hp.objs.size + 1) :: us, kw⟩)
      (fun r s' => match r with | .ok (.ret v) => v = .none ∧ Q (.done (.ret (.ref (hp.objs.size + 1)))) s' | .ok _ => False | .error e => E e s') ⟨(hp.push (kdv_tup us)).push (raw C hp.objs.size none), g, dr, tk, os⟩) :
    wpAny (model prog w) A (Builtin.«type.__call__» ⟨.ref C :: us, kw⟩) Q E ⟨hp, g, dr, tk, os⟩ := by
  repeat (first
    | with_reducible refine wpAny_loadPart_at hC ?_
    | with_reducible refine wpAny_madeBy_exc hC ?_
    | wp_step)
  refine codeAny_call_builtin_code (Code.quiet_builtin _ FB.quiet) (may_new FB hT hC ?_)
  refine new_any FB hT hC ?_ hl
  show wpAny _ _ _ _ _ _
  have keep : ∀ b o, hp.get? b = Option.some o → ((hp.push (kdv_tup us)).push (raw C hp.objs.size none)).get? b = Option.some o := fun b o e => Heap.get?_push_of_some _ (Heap.get?_push_of_some _ e)
  have hC1 := keep _ _ hC
  have here : ((hp.push (kdv_tup us)).push (raw C hp.objs.size none)).get? (hp.objs.size + 1) = Option.some (raw C hp.objs.size none) := by heap_get
  have self : (Value.ref C :: bm).contains (.ref C) = true := by simp
  have i1 := hi.keeps keep
  have b1 := (hb (.ref (hp.objs.size + 1))).keeps keep
  unfold isInstance
  repeat (first
    | with_reducible refine wpAny_loadPart_at here ?_
    | (with_reducible refine wpAny_isSubtype_exc hC1 ?_
       rw [self])
    | wp_step)
  show wpAny _ _ (typeLookup (.ref C) _) _ _ _
  refine i1.at (wpAny_holding (wpAny_bind (b1.at ?_)))
  refine wpAny_bind (wpAny_call (codeAny_mono hq fun r s' z => ?_))
  rcases r with e | (v | _ | _ | _) <;> first | exact z | exact z.elim | skip
  obtain ⟨rfl, z⟩ := z
  first
    | exact wpAny_pure (wpAny_pure z)
    | (wp_walk
       exact z)
theorem call_any (FB : ExcBaseFacts B newId initId bmB) (hT : ∀ X : String, bm.contains (.type X) = bmB.contains (.type X)) {us : List Value} {kw : List (Str × Value)} {fI : Addr}
    (hC : hp.get? C = Option.some (excClassObj nm q C N bs bm hdct sn sub ab col dd k0 k1 k2 k3 k5 newId)) (hi : Looks (model prog w) hp (typeLookup (.ref C) "__init__") (Option.some (.ref fI)))
    (hb : ∀ self, Looks (model prog w) hp (bindSpecial (.ref fI) self) (.ref fI, [self])) (hl : us.length ≤ sizeLine)
    (hq : codeAny (model prog w) (A.under (.builtin "type.__call__" ⟨.ref C :: us, kw⟩)) (.call (.ref fI) ⟨.ref (hp.objs.size + 1) :: us, kw⟩) (InitBack (hp.objs.size + 1) R) ⟨(hp.push (kdv_tup us)).push (raw C hp.objs.size none), g, dr, tk, os⟩) :
    codeAny (model prog w) A (.call (.ref C) ⟨us, kw⟩) R ⟨hp, g, dr, tk, os⟩ := by
  have l1 := tc_lookup
  have l2 := tc_bind (.ref C)
  have ty : (⟨hp, g, dr, tk, os⟩ : Shared).TypeIs (.ref C) "type" := ⟨_, hC, rfl⟩
  have l3 := tc_sub
  refine codeAny_of_tree ?_
  show wpAny _ _ (callAny (.ref C) _) _ _ _
  repeat (any_goals (first
    | assumption
    | with_reducible refine wpAny_loadPart_at hC ?_
    | wp_step))
  refine ⟨rfl, ?_⟩
  have chk : ∀ {M : Model} {Q : Unit → Shared → Prop} {E : Value → Shared → Prop} {A : Around}, Q () ⟨hp, g, dr, tk, os⟩ → wpAny M A (checkBuiltinCall "type.__call__" ⟨.ref C :: us, kw⟩) Q E ⟨hp, g, dr, tk, os⟩ := by
    intro M Q E A hq
    simp only [checkBuiltinCall, tc_kind, tc_split]
    repeat (any_goals (first
      | assumption
      | with_reducible refine wpAny_loadPart_at hC ?_
      | with_reducible refine wpAny_onRaise ?_
      | with_reducible refine wpAny_map ?_
      | wp_step))
  refine codeAny_call_builtin_at (Code.quiet_builtin _ (by decide +kernel)) entry_typeCall (chk (type_call_any FB hT hC hi hb hl ?_))
  refine codeAny_mono hq fun r s' z => ?_
  rcases r with e | (v | _ | _ | _) <;> exact z
end
/-! ### self.f = v on a bare error -/
section
variable {prog : Program} {w : World} {A : Around} {E : Value → Shared → Prop} {R : Result → Shared → Prop} {hp : Heap} {g : Array GenState} {dr : Drawn} {tk : Nat} {os : OsState}
theorem put_first {M : Model} {dx : Addr} {f : Str} {t : Tok} {v : Value} {Q : Fin → Shared → Prop} (he : hp.Ns dx (fun _ => none))
    (hq : ∀ h' tk', h'.Ns1 dx (fun y => if y = f then Option.some v else none) → Heap.SameBut dx hp h' → Q (.done (.ret .none)) ⟨h', g, dr, tk', os⟩) : wpAny M A (storeInDict dx (.str f t) f v) Q E ⟨hp, g, dr, tk, os⟩ := by
  unfold storeInDict newKeyGuard
  refine wpAny_bind (wpAny_pure (wpAny_bind (wpAny_nsSet1 (Heap.Ns1.of_empty he) fun h' n1 sb => ?_)))
  obtain ⟨o, es, ep, ho, hd, hc⟩ := n1.count (Within.cons f v Within.nil)
  have small : es.size ≤ sizeLine + 1 := Nat.le_trans hc (by rw [List.length_cons, List.length_nil, sizeLine_eq]; omega)
  refine wpAny_bind (wpAny_lookBehind ho (by rw [hd]; exact pastItsLine_dict small) ?_)
  wp_walk
  exact hq h' _ n1 sb
theorem set_first {K : Frag} {f : Str} {t : Tok} {v : Value} {x C : Addr} {fv : Array Value} {cd : ClassData} (X : K.In hp) (hx : hp.get? x = Option.some { cls := .ref C, data := .fields fv }) (hcd : clsIn K C = Option.some cd) (hm : OwnMro cd.mro) (hh : cd.hasDict = true)
    (hn : findIn K (.ref C) f = Option.some none)
    (hq : ∀ h' tk' dx, (∀ b o, b ≠ x → hp.get? b = Option.some o → h'.get? b = Option.some o) → hp.objs.size ≤ dx → dx ≠ x → h'.get? x = Option.some { cls := .ref C, dict := Option.some dx, data := .fields fv } →
      h'.Ns1 dx (fun y => if y = f then Option.some v else none) → R (.ok (.ret .none)) ⟨h', g, dr, tk', os⟩) :
    codeAny (model prog w) A (.call (.builtin "object.__setattr__") ⟨[.ref x, .str f t, v], []⟩) R ⟨hp, g, dr, tk, os⟩ := by
  have I : InstAt hp x { cls := .ref C, data := .fields fv } C none := ⟨hx, rfl, rfl, trivial⟩
  have S := F.store_object
  have some_ := hm.some
  have top : cd.mro.contains (.type "object") = true := (hm.has "object").trans (by decide +kernel)
  have xs : x ≠ hp.objs.size := Nat.ne_of_lt (Heap.lt_size hx)
  have isObj : Looks (model prog w) hp (isInstance (.ref x) (.type "object")) true :=
    I.type.andThen (looks_mroIn X (by unfold mroIn; rw [hcd, Option.bind_some, if_neg (by rw [some_]; decide), top]))
  refine codeAny_call_builtin S.slot.plain S.entry (@check_slot (model prog w) _ _ ⟨hp, g, dr, tk, os⟩ "object.__setattr__" "object" "__setattr__" (.ref x) [.str f t, v] [] _ S.kind S.split isObj (S.args (.ref x) (.str f t) v) ?_)
  have mro_ : Looks (model prog w) hp (mroOf (.ref C)) cd.mro := (looks_clsIn X hcd).andThen .now
  have taker : Looks (model prog w) hp (storeTaker? none) none := .now
  have data_ : Looks (model prog w) hp (classData C) cd := looks_clsIn X hcd
  rw [osa_eq, refuse_eq]
  refine wpAny_bind (wpAny_bind (I.type.at (wpAny_bind (mro_.at ?_))))
  rw [hm.goes]
  refine wpAny_pure (wpAny_bind (I.type.at (wpAny_bind ((looks_findIn X hn).at (wpAny_bind (taker.at ?_))))))
  show wpAny _ _ (storeInOwnDict (.ref x) (.ref C) (.str f t) f v false) _ _ _
  obtain ⟨nm, bs, mro, ns, qn, hd, sn, sb, ab, col, del⟩ := cd
  dsimp only at hh
  subst hh
  unfold storeInOwnDict ownDictForStores
  repeat (first
    | with_reducible refine put_first ?_ ?_
    | with_reducible refine wpAny_loadPart_at hx ?_
    | with_reducible refine data_.at ?_
    | wp_step)
  · exact ⟨_, #[], _, (Heap.get?_update_ne _ _ _ _ xs.symm).trans (Heap.get?_push_at rfl rfl), rfl, fun e he => absurd he (by simp), fun _ => rfl⟩
  · intro h' tk' n1 sb
    have x1 : (hp.push { cls := .type "dict", data := .dict #[] }).get? x = Option.some { cls := .ref C, data := .fields fv } := Heap.get?_push_of_some _ hx
    refine hq h' tk' hp.objs.size (fun b o hb ho => ?_) (Nat.le_refl _) xs.symm ?_ n1
    · exact (sb.2 b (Nat.ne_of_lt (Heap.lt_size ho))).trans ((Heap.get?_update_ne _ _ _ _ hb).trans (Heap.get?_push_of_some _ ho))
    · exact (sb.2 x xs).trans (Heap.get?_update_self _ x1 rfl)
end
/-! ### what the top has written of an own error C with the field f; its __init__ at fI -/
def iA (f : Str) (p1 p2 : Pos) : Arguments := { posonlyargs := [], args := [{ arg := "self", annotation := none, pos := p1 }, { arg := f, annotation := none, pos := p2 }], vararg := none, kwonlyargs := [], kw_defaults := [], kwarg := none, defaults := [] }
def iB (f : Str) (q1 q2 q3 q4 : Pos) : List Stmt := [.Assign [.Attribute (.Name "self" q1) f q2] (.Name f q3) q4]
def iS (f : Str) : Scope := { kind := .function, names := [(PySem.Str.ofString "self", .local), (f, .local)], isGenerator := false, isCoroutine := false, more := [] }
structure ErrC (K : Frag) (C fI : Addr) (f : Str) : Prop where
  cls : ∃ nm q N bs bm sn sub ab col dd k0 k1 k2 k3 k5, K.lookup C = Option.some (excClassObj nm q C N bs bm true sn sub ab col dd k0 k1 k2 k3 k5 "Exception.__new__") ∧ OwnMro bm
  sa : findIn K (.ref C) "__setattr__" = Option.some (Option.some (.builtin "object.__setattr__"))
  ga : findIn K (.ref C) "__getattribute__" = Option.some (Option.some (.builtin "BaseException.__getattribute__"))
  gg : findIn K (.ref C) "__getattr__" = Option.some none
  noF : findIn K (.ref C) f = Option.some none
  iC : findIn K (.ref C) "__init__" = Option.some (Option.some (.ref fI))
  tC : typeIn K (.ref fI) = Option.some (.type "function")
  kC : keepIn K (.ref C) = true
  exC : subIn K (.ref C) (.type "BaseException") = Option.some true
  tyC : typeIn K (.ref C) = Option.some (.type "type")
  hdC : hasDictIn K C = true
  fn : ∃ (qn : Str) (oc : Value) (od : Option Addr) (doc pm : Value) (an : Option Addr) (cdv ct : Value) (osl : Array (Option Value)) (p1 p2 q1 q2 q3 q4 : Pos),
    K.lookup fI = Option.some ⟨oc, od, .func (fnOf "__init__" qn (iA f p1 p2) (iB f q1 q2 q3 q4) (iS f) .none .none doc pm an cdv ct), osl⟩ ∧ codeIn K cdv qn = true
/-- a made error -/
structure Made (h h' : Heap) (e C d : Addr) (f : Str) (v : Value) : Prop where
  keep : ∀ b o, h.get? b = Option.some o → h'.get? b = Option.some o
  new : h.objs.size ≤ e
  obj : ∃ t0, h'.get? e = Option.some (raw C t0 (Option.some d))
  dbig : h.objs.size ≤ d
  dne : d ≠ e
  ns : h'.Ns1 d (fun y => if y = f then Option.some v else none)
/-- a field's name that does not get in the way -/
structure Plain (f : Str) : Prop where
  ns : ¬ (f = "self")
  nd : (f == ("__debug__" : Str)) = false
section
variable {prog : Program} {w : World} {A : Around} {E : Value → Shared → Prop} {R : Result → Shared → Prop} {s : Shared} {K : Frag} {C fI : Addr} {f : Str}
theorem ld_own {M : Model} {sh : Shared} {name : Str} {scope : Scope} {L a : Addr} {cd : Value} {m : Str → Option Value} {x : Str} {pos : Pos} {v : Value} {Q : Value → Shared → Prop} (hn : sh.heap.Ns L m) (hk : scope.kind = .function) (hl : (envOfC name scope L a cd).kindOf x = Option.some .local)
    (hd : (x == ("__debug__" : Str)) = false) (hv : m x = Option.some v) (h : Q v sh) : wpAny M A (eval (.Name x pos) (envOfC name scope L a cd)) Q E sh := wpAny_Name (wpAny_loadName_local hk hl hn hv h) hd
theorem init_any (T : ErrC K C fI f) (pf : Plain f) {x t0 : Addr} {v : Value} {us : List Value} {kw : List (Str × Value)} (X : K.In s.heap) (lim : s.heap.NoLimit) (hx : s.heap.get? x = Option.some (raw C t0 none)) (deep : A.depth < recursionLimit)
    (hb : ∀ (qn : Str) (doc pm : Value) (an : Option Addr) (cdv ct : Value) (p1 p2 q1 q2 q3 q4 : Pos), bindArgs (fnOf "__init__" qn (iA f p1 p2) (iB f q1 q2 q3 q4) (iS f) .none .none doc pm an cdv ct) ⟨.ref x :: us, kw⟩ = pure [(("self" : Str), Value.ref x), (f, v)])
    (hq : ∀ h' t' dx, (∀ b o, b ≠ x → s.heap.get? b = Option.some o → h'.get? b = Option.some o) → h'.get? x = Option.some (raw C t0 (Option.some dx)) → s.heap.objs.size ≤ dx → dx ≠ x → h'.Ns1 dx (fun y => if y = f then Option.some v else none) →
      R (.ok (.ret .none)) { s with heap := h', toks := t' }) : codeAny (model prog w) A (.call (.ref fI) ⟨.ref x :: us, kw⟩) R s := by
  obtain ⟨qn, oc, od, doc, pm, an, cdv, ct, osl, p1, p2, q1, q2, q3, q4, ho, hcd⟩ := T.fn
  obtain ⟨nm, q, N, bs, bm, sn, sub, ab, col, dd, k0, k1, k2, k3, k5, hC, hbm⟩ := T.cls
  have hcl : clsIn K C = Option.some { name := nm, bases := bs, mro := .ref C :: bm, ns := N, qualname := q, hasDict := true, slotNames := sn, subclasses := sub, abstract := ab, collection := col, hasDel := false } := by unfold clsIn; rw [hC] <;> rfl
  have sf : (f == ("self" : Str)) = false := by simpa using pf.ns
  have fs : (("self" : Str) == f) = false := by simpa using fun e : ("self" : Str) = f => pf.ns e.symm
  have lkf : (iS f).names.lookup f = Option.some NameKind.local := by
    show List.lookup f [((PySem.Str.ofString "self" : Str), NameKind.local), (f, NameKind.local)] = _
    have sf' : (f == (PySem.Str.ofString "self")) = false := sf
    simp [List.lookup, sf']
  refine Att.call_fn (binds := [(("self" : Str), Value.ref x), (f, v)]) X lim ho hcd deep (BindsTo.of_eq (hb qn doc pm an cdv ct p1 p2 q1 q2 q3 q4)) ?bb (fun s1 IC => ?_) rfl rfl rfl
  case bb =>
    show (((iS f).names.lookup ("self" : Str) == Option.some .local || (iS f).names.lookup ("self" : Str) == Option.some .cell) && (((iS f).names.lookup f == Option.some .local || (iS f).names.lookup f == Option.some .cell) && true)) = true
    rw [lkf]
    rfl
  have kf : (envOfC qn (iS f) s.heap.objs.size fI cdv).kindOf f = Option.some .local := lkf
  have ks : (envOfC qn (iS f) s.heap.objs.size fI cdv).kindOf ("self" : Str) = Option.some .local := rfl
  obtain ⟨h1, t1, rfl⟩ := IC.toInCall.same
  have k : ∀ b o, s.heap.get? b = Option.some o → h1.get? b = Option.some o := IC.toInCall.keep
  have ns1 := IC.toInCall.ns
  have X1 : K.In h1 := X.keeps k
  have x1 := k _ _ hx
  show wpAny _ _ (execs _ _) _ _ _
  refine wpAny_execs_cons (plainObj_wpAny_Assign_Attribute ?_)
  refine ld_own (v := v) ns1 rfl ?l1 pf.nd ?v1 (ld_own (v := .ref x) ns1 rfl ?l2 (by decide) ?v2 ?_)
  case l1 => exact kf
  case l2 => exact ks
  case v1 => simp [bindL, kf, ks, fs, sf]
  case v2 =>
    simp [bindL, kf, ks, fs, sf]
    exact fun e => (pf.ns e.symm).elim
  refine set_plain X1 (ox := raw C t0 none) (od := none) ⟨x1, rfl, rfl, trivial⟩ T.sa ?_
  refine set_first X1 x1 hcl (show OwnMro (.ref C :: bm) from .cons C hbm) rfl T.noF (fun h3 t3 dx k3 dn dne x3 n3 => ?_)
  show wpAny _ _ (execs _ _) _ _ _
  have z : s.heap.objs.size < h1.objs.size := ns1.lt
  exact wpAny_execs_nil (hq h3 t3 dx (fun b o hb e => k3 b o hb (k b o e)) x3 (Nat.le_of_lt (Nat.lt_of_lt_of_le z dn)) dne n3)
theorem made_any (T : ErrC K C fI f) (pf : Plain f) {v : Value} {us : List Value} {kw : List (Str × Value)} (X : K.In s.heap) (lim : s.heap.NoLimit) (deep : A.depth + 1 < recursionLimit) (hl : us.length ≤ sizeLine)
    (hb : ∀ (x : Addr) (qn : Str) (doc pm : Value) (an : Option Addr) (cdv ct : Value) (p1 p2 q1 q2 q3 q4 : Pos), bindArgs (fnOf "__init__" qn (iA f p1 p2) (iB f q1 q2 q3 q4) (iS f) .none .none doc pm an cdv ct) ⟨.ref x :: us, kw⟩ = pure [(("self" : Str), Value.ref x), (f, v)])
    (hq : ∀ h' t' e d, Made s.heap h' e C d f v → R (.ok (.ret (.ref e))) { s with heap := h', toks := t' }) : codeAny (model prog w) A (.call (.ref C) ⟨us, kw⟩) R s := by
  obtain ⟨nm, q, N, bs, bm, sn, sub, ab, col, dd, k0, k1, k2, k3, k5, hC, hbm⟩ := T.cls
  obtain ⟨hp, g, dr, tk, os⟩ := s
  have k : ∀ b o, hp.get? b = Option.some o → ((hp.push (kdv_tup us)).push (raw C hp.objs.size none)).get? b = Option.some o := fun b o e => Heap.get?_push_of_some _ (Heap.get?_push_of_some _ e)
  have here : ((hp.push (kdv_tup us)).push (raw C hp.objs.size none)).get? (hp.objs.size + 1) = Option.some (raw C hp.objs.size none) := by heap_get
  refine call_any F.excBase_Exception hbm.has (X _ _ hC) (looks_findIn X T.iC) (fun self => bind_fn X self T.tC) hl ?_
  refine init_any (s := ⟨(hp.push (kdv_tup us)).push (raw C hp.objs.size none), g, dr, tk, os⟩) T pf (X.keeps k) (lim.keeps k) here deep (hb _) fun h' t' dx k' hx dn dne hns => ?_
  have old : ∀ b o, hp.get? b = Option.some o → h'.get? b = Option.some o := fun b o e => k' b o (Nat.ne_of_lt (Nat.lt_succ_of_lt (Heap.lt_size e))) (k b o e)
  have z : hp.objs.size + 1 + 1 ≤ dx := by
    have q := dn
    simp only [Heap.size_push] at q
    exact q
  exact ⟨rfl, hq h' t' (hp.objs.size + 1) dx ⟨old, Nat.le_succ _, ⟨_, hx⟩, Nat.le_trans (Nat.le_trans (Nat.le_succ _) (Nat.le_succ _)) z, dne, hns⟩⟩
end
end Err
set_option maxHeartbeats 4000000
namespace Err
open PySem PySem.Spec PyProof.Rows L2
/-- an error as a value at e: its class at C, its own dict at d -/
def errO (e C d : Addr) : HO := .ext fun h => ∃ t0, h.get? e = some (raw C t0 (some d))
structure ErrAt (H : Hp) (e C d : Addr) (f : Str) (v : V) : Prop where
  ob : H e = some (errO e C d)
  dc : H d = some (.xd [(f, v)])
theorem errO_ok {P : Program} {w : World} {H : Hp} {h : Heap} {e C d t0 : Addr} (he : h.get? e = some (raw C t0 (some d))) : ObjOk P w H h e (errO e C d) :=
  ⟨⟨t0, he⟩, ⟨_, he⟩, fun _ _ ⟨t, q⟩ k => ⟨t, k _ q⟩⟩
theorem errO_at {P : Program} {w : World} {H : Hp} {h : Heap} {e C d : Addr} (hok : HOk P w H h) (he : H e = some (errO e C d)) : ∃ t0, h.get? e = some (raw C t0 (some d)) := by
  have x : ObjOk P w H h e (.ext fun h => ∃ t0, h.get? e = some (raw C t0 (some d))) := hok e _ he
  exact x.1
theorem one_field {v : V} {v' : Value} (r : RelV v v') (f g : Str) : RelO (List.lookup g [(f, v)]) (if g = f then some v' else none) := by
  by_cases h : g = f
  · subst h
    simp [List.lookup, RelO, r]
  · have q : (g == f) = false := by simpa using h
    simp [List.lookup, q, h, RelO]
section
variable {X : Cx} {pins : List (Addr × Obj)} {σ : L2.St} {H : Hp} {s : Shared} {C fI : Addr} {f : Str}
/-- a made error is laid and tracked -/
theorem Made.inv {h' : Heap} {t' : Nat} {e d : Addr} {v : V} {u : Value} (I : Inv X pins σ H s) (M : Made s.heap h' e C d f u) (r : RelV v u) :
    Inv X pins σ (upd (upd H d (.xd [(f, v)])) e (errO e C d)) { s with heap := h', toks := t' } := by
  have ne : H e = none := I.hok.fresh M.new
  have nd : H d = none := I.hok.fresh M.dbig
  have ee : ∀ {b : Addr} {o : Obj}, s.heap.get? b = some o → b ≠ e := fun {b o} q => Nat.ne_of_lt (Nat.lt_of_lt_of_le (Heap.lt_size q) M.new)
  have ed : ∀ {b : Addr} {o : Obj}, s.heap.get? b = some o → b ≠ d := fun {b o} q => Nat.ne_of_lt (Nat.lt_of_lt_of_le (Heap.lt_size q) M.dbig)
  have stay : ∀ {b : Addr} {o : HO}, H b = some o → (upd (upd H d (.xd [(f, v)])) e (errO e C d)) b = some o := fun {b o} q => by
    rw [upd_ne (ne_of_none q ne), upd_ne (ne_of_none q nd)]; exact q
  obtain ⟨t0, hob⟩ := M.obj
  have free : ∀ {b : Addr} {o : Obj}, s.heap.get? b = some o → H b = none → (upd (upd H d (.xd [(f, v)])) e (errO e C d)) b = none := fun {b o} q n => by
    rw [upd_ne (ee q), upd_ne (ed q)]; exact n
  have U : Un X.fs [] H (upd (upd H d (.xd [(f, v)])) e (errO e C d)) s.heap h' :=
    { keep := fun b o q _ _ _ => M.keep b o q
      slot := fun b o q _ _ _ => ⟨o.slots, M.keep b o q⟩
      free := fun b o q n _ => free q n
      there := fun b o q _ => ⟨o, M.keep b o q⟩
      tups := fun b xs q => stay q
      frzs := fun b o u q => stay q
      tbls := fun b ps q => ⟨#[], by rw [stay q]; simp⟩ }
  refine I.un (t' := t') U fun b o q => ?_
  by_cases hb : b = e
  · subst hb
    rw [upd_same] at q
    cases q
    exact errO_ok hob
  · rw [upd_ne hb] at q
    by_cases hd : b = d
    · subst hd
      rw [upd_same] at q
      cases q
      exact ⟨_, M.ns, fun g => one_field r f g⟩
    · rw [upd_ne hd] at q
      exact (I.hok b o q).stay (fun c z _ y => M.keep c z y) (fun c y => stay y) fun c xs y => stay y
end
/-- the reading of a made error -/
def tErr (C : Addr) (f : Str) (te : TE) : TE := fun σ H Q => te σ H fun v H1 => ∀ e d, H1 e = none → H1 d = none → d ≠ e → Q (.ref e) (upd (upd H1 d (.xd [(f, v)])) e (errO e C d))
section
variable {X : Cx} {C fI : Addr} {f x : Str} {a : Expr} {te : TE} {p pos : Pos}
theorem run_err {pins : List (Addr × Obj)} {σ : L2.St} {H : Hp} {s : Shared} {Q : VK} {v : V} {u : Value} {us : List Value} {kw : List (Str × Value)} (T : ErrC X.K C fI f) (pf : Plain f) (hr : Room 1 X.A) (I : Inv X pins σ H s) (r : RelV v u) (hl : us.length ≤ sizeLine)
    (hb : ∀ (x : Addr) (qn : Str) (doc pm : Value) (an : Option Addr) (cdv ct : Value) (p1 p2 q1 q2 q3 q4 : Pos), bindArgs (PySem.W.fnOf "__init__" qn (iA f p1 p2) (iB f q1 q2 q3 q4) (iS f) .none .none doc pm an cdv ct) ⟨.ref x :: us, kw⟩ = pure [(("self" : Str), Value.ref x), (f, u)])
    (h : ∀ e d, H e = none → H d = none → d ≠ e → Q (.ref e) (upd (upd H d (.xd [(f, v)])) e (errO e C d))) : wpAny (model X.prog X.w) X.A (call (.ref C) us kw) (EP X pins σ Q) X.xe s := by
  have lim := I.nolimit
  have hd := hr.dp
  obtain ⟨hp, g, dr, tk, os⟩ := s
  refine wpAny_call (made_any T pf I.kIn lim (by omega) hl hb fun h' t' e d M => ?_)
  exact ⟨.ref e, _, M.inv I r, rfl, h e d (I.hok.fresh M.new) (I.hok.fresh M.dbig) M.dne⟩
theorem pe_err (T : ErrC X.K C fI f) (pf : Plain f) (hr : Room 1 X.A) (hm : X.mg x = some (.ref C)) (hg : Gl X x) (ha : PE X a te)
    (hb : ∀ (y : Addr) (u : Value) (qn : Str) (doc pm : Value) (an : Option Addr) (cdv ct : Value) (p1 p2 q1 q2 q3 q4 : Pos), bindArgs (PySem.W.fnOf "__init__" qn (iA f p1 p2) (iB f q1 q2 q3 q4) (iS f) .none .none doc pm an cdv ct) ⟨[.ref y, u], []⟩ = pure [(("self" : Str), Value.ref y), (f, u)])
    (hs : starEach [a] X.env = (false, eval a X.env) :: starEach [] X.env := by rfl) (hdb : (x == ("__debug__" : Str)) = false := by decide) (hpl : (backTo pos (starEach [] X.env)).any (·.1) = false := by rfl) :
    PE X (.Call (.Name x p) [a] [] pos) (tErr C f te) := by
  refine ⟨fun pins s σ H Q I h => ?_⟩
  refine wpAny_Call_Name_kw (ld_glob I hg hm ?_ hdb)
  refine PySem.W.callWith_K (h₀ := X.base) I.ok.mod.kin T.kC ?_ hs hpl
  rw [hs]
  show wpAny _ _ (spliced ((false, eval a X.env) :: backTo pos (starEach [] X.env))) _ _ s
  refine Calls.spliced_cons (thn (ha.run pins s σ H _ I h) fun u s1 ⟨v, H1, I1, r1, q1⟩ => ?_)
  refine Calls.spliced_nil ⟨I1.kIn, ?_⟩
  show wpAny _ _ (call (.ref C) [u]) _ _ _
  exact run_err T pf hr I1 r1 (by show 1 ≤ sizeLine; rw [sizeLine_eq]; omega) (fun y => hb y u) q1
theorem pe_errK {kws : List Keyword} {tk : TA} (T : ErrC X.K C fI f) (pf : Plain f) (hr : Room 1 X.A) (hm : X.mg x = some (.ref C)) (hg : Gl X x) (hkw : PK X kws tk)
    (hb : ∀ (y : Addr) (u : Value) (qn : Str) (doc pm : Value) (an : Option Addr) (cdv ct : Value) (p1 p2 q1 q2 q3 q4 : Pos), bindArgs (PySem.W.fnOf "__init__" qn (iA f p1 p2) (iB f q1 q2 q3 q4) (iS f) .none .none doc pm an cdv ct) ⟨[.ref y], [(f, u)]⟩ = pure [(("self" : Str), Value.ref y), (f, u)])
    (hall : (backToKw pos (keywordEach kws X.env)).all (·.1.isSome) = true := by rfl) (hks : (backToKw pos (keywordEach kws X.env)).filterMap (·.1) = [f] := by rfl) (hdb : (x == ("__debug__" : Str)) = false := by decide)
    (hpl : ((backTo pos (starEach [] X.env)).any (·.1) || (backToKw pos (keywordEach kws X.env)).any (·.1.isNone)) = false := by rfl) :
    PE X (.Call (.Name x p) [] kws pos) (fun σ H Q => tk σ H fun zs H1 => ∃ v, zs = [v] ∧ ∀ e d, H1 e = none → H1 d = none → d ≠ e → Q (.ref e) (upd (upd H1 d (.xd [(f, v)])) e (errO e C d))) := by
  refine ⟨fun pins s σ H Q I h => ?_⟩
  refine wpAny_Call_Name_kw (ld_glob I hg hm ?_ hdb)
  refine PySem.W.callWith_KW0 (h₀ := X.base) I.ok.mod.kin T.kC hall ?_ hpl
  refine thn (hkw.run pos pins s σ H _ I h) fun ws s2 ⟨zs, H2, I2, rz, v, ez, q2⟩ => ⟨I2.kIn, ?_⟩
  subst ez
  rw [hks]
  cases rz with
  | cons r1 rn =>
    cases rn
    show wpAny _ _ (call (.ref C) [] [(f, _)]) _ _ _
    exact run_err (us := []) T pf hr I2 r1 (Nat.zero_le _) (fun y => hb y _) q2
/-- error.f -/
def tErrF (K : PySem.W.Frag) (f : Str) (te : TE) : TE := fun σ H Q => te σ H fun x H1 => ∃ (e C fI d : Addr) (v : V), x = .ref e ∧ ErrC K C fI f ∧ ErrAt H1 e C d f v ∧ Q v H1
theorem pe_errF (he : PE X a te) (hb : attributeBase a f X.env (eval a X.env) = eval a X.env := by rfl) : PE X (.Attribute a f pos) (tErrF X.K f te) := by
  refine ⟨fun pins s σ H Q I h => ?_⟩
  refine attr_of hb (thn (he.run pins s σ H _ I h) fun u s1 hh => ?_)
  obtain ⟨y, H1, I1, rx, e, C, fI, d, v, ex, T, at_, q⟩ := hh
  subst ex
  obtain rfl : u = Value.ref e := rx
  obtain ⟨t0, ho⟩ := errO_at I1.hok at_.ob
  have hx : ObjOk X.prog X.w H1 s1.heap d (.xd [(f, v)]) := I1.hok d _ at_.dc
  obtain ⟨mA, hns, hrel⟩ := hx
  obtain ⟨od, hod, hl⟩ := lookIn_ns hns
  have l : List.lookup f [(f, v)] = some v := by simp [List.lookup]
  obtain ⟨u, hu, ru⟩ := RelO.some_of (v := v) (o := mA f) (by rw [← l]; exact hrel f)
  have J : PySem.W.InstAt s1.heap e (raw C t0 (some d)) C (some od) := ⟨ho, rfl, rfl, hod⟩
  exact HandSPX.exc_get I1.kIn J T.ga T.gg T.exC (PySem.W.findObj_own T.hdC T.noF rfl (by rw [hl, hu])) (handed_of ru) ⟨v, H1, I1.tok _, ru, q⟩
end
end Err
set_option maxHeartbeats 4000000
namespace Err
open PySem PySem.W PySem.Spec PySem.Calls PyProof.Rows
section
variable {prog : Program} {w : World} {A : Around} {E : Value → Shared → Prop} {s : Shared} {K : Frag} {x D : Addr}
/-- error.__class__, the error with a dict of its own -/
theorem class_of {ox od : Obj} {Q : Option Value → Shared → Prop} (T : L2.ExcC K D) (X : K.In s.heap) (I : InstAt s.heap x ox D (some od)) (h : Q (some (.ref D)) { s with toks := s.toks + 1 }) :
    wpAny (model prog w) A (getAttr? (.ref x) "__class__") Q E s := by
  have fo : findObj K D (some od) "__class__" = some (.bind (.builtin "getset_descriptor.__get__") (.builtin "object.__class__")) :=
    findObj_data (by obtain ⟨cd, hc, _⟩ := any_some T.hd; rw [hc]; rfl) T.ha T.hn T.ht
  obtain ⟨hp, g, d, t, os⟩ := s
  have ty := I.type (M := model prog w)
  have l1 := looks_findIn (M := model prog w) X T.hg
  have l2 := looks_findIn (M := model prog w) X T.hk
  have l3 := looks_find (M := model prog w) X I fo
  have sub : Looks (model prog w) hp (isInstance (.ref x) (.type "BaseException")) true := ty.andThen (looks_subIn X T.hs)
  have e0 : (false && onTheHeap (Value.builtin "BaseException.__getattribute__")) = false := rfl
  have e2 : (Value.builtin "BaseException.__getattribute__" == Value.builtin "object.__getattribute__") = false := by decide +kernel
  have e1 : (onTheHeap (Value.ref D) && Value.builtin "BaseException.__getattribute__" == Value.builtin "object.__getattribute__") = false := by rw [e2]; rfl
  unfold getAttr? getAttrBy? getAttrBy
  refine wpAny_bind (wpAny_mkText (wpAny_bind (wpAny_attempt (wpAny_holding (wpAny_bind (ty.at (wpAny_bind (l1.at ?_))))))))
  show wpAny _ _ (if (onTheHeap (Value.ref D) && Value.builtin "BaseException.__getattribute__" == Value.builtin "object.__getattribute__") = true then _ else _) _ _ _
  rw [e1, if_neg Bool.false_ne_true]
  unfold getAttrByItsOwn hookBefore
  refine wpAny_bind ?_
  rw [if_pos (show onTheHeap (Value.ref D) = true from rfl)]
  refine l2.at (wpAny_bind (wpAny_attempt (wpAny_holding ?_)))
  unfold callGetattribute
  rw [e0, if_neg Bool.false_ne_true]
  unfold boundAndCalled
  rw [PySem.F.excAttr_ValueError.ga.bind (.ref x)]
  refine wpAny_bind (wpAny_pure ?_)
  show wpAny _ _ (call (.builtin "BaseException.__getattribute__") [.ref x, .str "__class__" t]) _ _ _
  refine wpAny_call (codeAny_call_builtin PySem.F.excAttr_ValueError.ga.plain PySem.F.entry_bexc_ga ?_)
  refine @check_slot (model prog w) _ _ ⟨hp, g, d, t + 1, os⟩ "BaseException.__getattribute__" "BaseException" "__getattribute__" (.ref x) [.str "__class__" t] [] _ (by decide +kernel) (by decide +kernel) sub (PySem.F.args_bexc_ga (.ref x) (.str "__class__" t)) ?_
  unfold Builtin.«object.__getattribute__»
  refine wpAny_bind (wpAny_of_eq (a := ((Value.ref x : Value), [Value.str "__class__" t])) (by first | rfl | (simp only [slotArgs]; rfl)) ?_)
  refine wpAny_bind (wpAny_pure (wpAny_bind (ty.at (wpAny_bind (l3.at ?_)))))
  show wpAny _ _ (holding [Value.builtin "object.__class__"] (call (.builtin "getset_descriptor.__get__") [.builtin "object.__class__", .ref x, .ref D]) >>= ret) _ _ _
  refine wpAny_bind (wpAny_holding (wpAny_call (class_get (s := ⟨hp, g, d, t + 1, os⟩) (ox := ox) (od := some od) X I T.hm ?_)))
  refine wpAny_pure ?_
  show wpAny _ _ (handedOut (.ref D)) _ _ _
  rw [handedOut_of (v := .ref D) rfl]
  first
    | exact wpAny_pure (wpAny_pure h)
    | exact wpAny_pure h
    | exact wpAny_pure (wpAny_bind (wpAny_pure (wpAny_pure h)))
theorem kit_err (T : L2.ExcC K D) : KitX K (.ref x) (.ref D) (fun h => ∃ ox od, InstAt h x ox D (some od)) where
  ty := fun _ _ _ ⟨_, _, I⟩ => I.type
  it := fun _ _ X _ => by
    obtain ⟨cdD, hcD, _⟩ := any_some T.hd
    unfold clsIn at hcD
    split at hcD
    · rename_i c' d' cd' sl' ho
      intro A' Q' E' s' k q
      unfold isType loadHead
      exact wpAny_bind (wpAny_loadPart (k _ _ (X _ _ ho)) (wpAny_pure q))
    · cases hcD
  ne := fun h tp dd its n sl X htp => by
    obtain ⟨cdD, hcD, _⟩ := any_some T.hd
    refine Bool.eq_false_iff.mpr fun q => ?_
    have e : D = tp := Value.ref.inj (beq_iff_eq.mp q)
    subst e
    unfold clsIn at hcD
    split at hcD
    · rename_i c' d' cd' sl' ho
      have z := (X _ _ ho).symm.trans htp
      cases z
    · cases hcD
  ca := fun X ⟨_, _, I⟩ k => class_of T X I k
end
open L2
/-- isinstance(error, c), c a class -/
def rIsErr (K : Frag) : List V → Hp → VK → Prop := fun xs H Q => ∃ (e C d : Addr) (f : Str) (v c : V) (cv : Value) (b : Bool), xs = [.ref e, c] ∧ ErrAt H e C d f v ∧ ExcC K C ∧ (∀ u, RelV c u → u = cv) ∧ kitOne K (.ref C) cv = some b ∧ Q (.bl b) H
theorem call_isErr {X : Cx} : CallR X (.builtin "isinstance") (rIsErr X.K) := by
  intro pins s σ H xs us Q I r h
  obtain ⟨e, C, d, f, v, c, cv, b, rfl, at_, T, hcv, k1, q⟩ := h
  cases r with
  | cons rx rr =>
    cases rr with
    | cons rt rr =>
      cases rr
      cases rx
      have ec := hcv _ rt
      subst ec
      obtain ⟨t0, ho⟩ := errO_at I.hok at_.ob
      have hx : ObjOk X.prog X.w H s.heap d (.xd [(f, v)]) := I.hok d _ at_.dc
      obtain ⟨mA, hns, _⟩ := hx
      obtain ⟨od, hod, _⟩ := lookIn_ns hns
      exact kia_one (kit_err T) I.kIn ⟨raw C t0 (some d), od, ⟨ho, rfl, rfl, hod⟩⟩ k1 (fun z => nomatch z) fun tk => ⟨.bl b, H, I.kept (t' := tk) fun _ _ z => z, rfl, q⟩
end Err
set_option maxHeartbeats 4000000
/-! What a value is, kept by every later heap: P; what an expression gives: EvP. -/
namespace Pd
open PySem PySem.Spec PyProof.Rows L2 Evl
abbrev PV := V → Hp → Prop
/-- it stays so -/
def Mo (P : PV) : Prop := ∀ x H H', Ex H H' → P x H → P x H'
def Is (v : V) : PV := fun x _ => x = v
theorem mo_is {v : V} : Mo (Is v) := fun _ _ _ _ h => h
def AllP : List PV → List V → Hp → Prop
  | [], [], _ => True
  | P :: Ps, x :: xs, H => P x H ∧ AllP Ps xs H
  | _, _, _ => False
theorem AllP.len : ∀ {Ps : List PV} {xs : List V} {H : Hp}, AllP Ps xs H → xs.length = Ps.length
  | [], [], _, _ => rfl
  | _ :: _, _ :: _, _, h => congrArg Nat.succ h.2.len
theorem AllP.mono {Ps : List PV} (hm : ∀ P ∈ Ps, Mo P) : ∀ {xs : List V} {H H' : Hp}, Ex H H' → AllP Ps xs H → AllP Ps xs H' := by
  induction Ps with
  | nil =>
    intro xs H H' e h
    cases xs with
    | nil => trivial
    | cons => exact h.elim
  | cons P Ps ih =>
    intro xs H H' e h
    cases xs with
    | nil => exact h.elim
    | cons x xs => exact ⟨hm P List.mem_cons_self x H H' e h.1, ih (fun P hP => hm P (List.mem_cons_of_mem _ hP)) e h.2⟩
def Lst (Ps : List PV) : PV := fun x H => ∃ a xs, x = .ref a ∧ H a = some (.lst xs) ∧ AllP Ps xs H
def Tup (Ps : List PV) : PV := fun x H => ∃ a xs, x = .ref a ∧ H a = some (.tup xs) ∧ AllP Ps xs H
theorem mo_lst {Ps : List PV} (hm : ∀ P ∈ Ps, Mo P) : Mo (Lst Ps) := fun _ _ _ e ⟨a, xs, h1, h2, h3⟩ => ⟨a, xs, h1, e a _ h2, h3.mono hm e⟩
theorem mo_tup {Ps : List PV} (hm : ∀ P ∈ Ps, Mo P) : Mo (Tup Ps) := fun _ _ _ e ⟨a, xs, h1, h2, h3⟩ => ⟨a, xs, h1, e a _ h2, h3.mono hm e⟩
/-- a list of just these values -/
def LstV (vs : List V) : PV := fun x H => ∃ a, x = .ref a ∧ H a = some (.lst vs)
theorem mo_lstV {vs : List V} : Mo (LstV vs) := fun _ _ _ e ⟨a, h1, h2⟩ => ⟨a, h1, e a _ h2⟩
theorem allP_is : ∀ {vs xs : List V} {H : Hp}, AllP (vs.map Is) xs H → xs = vs
  | [], [], _, _ => rfl
  | v :: vs, x :: xs, H, h => by
    obtain ⟨h1, h2⟩ := h
    rw [show x = v from h1, allP_is h2]
theorem Lst.values {vs : List V} {x : V} {H : Hp} (h : Lst (vs.map Is) x H) : LstV vs x H := by
  obtain ⟨a, xs, h1, h2, h3⟩ := h
  rw [allP_is h3] at h2
  exact ⟨a, h1, h2⟩
theorem allP_app : ∀ {Ps Rs : List PV} {xs ys : List V} {H : Hp}, AllP Ps xs H → AllP Rs ys H → AllP (Ps ++ Rs) (xs ++ ys) H
  | [], _, [], _, _, _, h => h
  | _ :: _, _, _ :: _, _, _, h, k => ⟨h.1, allP_app h.2 k⟩
theorem allP_get : ∀ {Ps : List PV} {xs : List V} {H : Hp} {i : Nat} {P : PV}, AllP Ps xs H → Ps[i]? = some P → ∃ x, xs[i]? = some x ∧ P x H
  | P :: Ps, x :: xs, H, 0, R, h, e => by
    cases (show some P = some R from e)
    exact ⟨x, rfl, h.1⟩
  | P :: Ps, x :: xs, H, i + 1, R, h, e => by
    obtain ⟨y, h1, h2⟩ := allP_get h.2 (show Ps[i]? = some R from e)
    exact ⟨y, h1, h2⟩
theorem mo_nil : ∀ P ∈ ([] : List PV), Mo P := fun _ h => nomatch h
theorem mo_cons {P : PV} {Ps : List PV} (h : Mo P) (hs : ∀ P ∈ Ps, Mo P) : ∀ Q ∈ P :: Ps, Mo Q := fun Q hQ => by
  rcases List.mem_cons.mp hQ with rfl | q
  · exact h
  · exact hs Q q
/-- an expression gives a P, whatever stands beside -/
def EvP (te : TE) (σ : L2.St) (H : Hp) (P : PV) : Prop := ∀ H1, Ex H H1 → ∀ Q : VK, (∀ x H2, Ex H1 H2 → P x H2 → Q x H2) → te σ H1 Q
def EvPs (ta : TA) (σ : L2.St) (H : Hp) (Ps : List PV) : Prop := ∀ H1, Ex H H1 → ∀ Q : List V → Hp → Prop, (∀ xs H2, Ex H1 H2 → AllP Ps xs H2 → Q xs H2) → ta σ H1 Q
section
variable {σ : L2.St} {H H' : Hp} {te ta tb : TE} {P P' P1 P2 : PV} {v : V}
theorem EvP.up (e : Ex H H') (h : EvP te σ H P) : EvP te σ H' P := fun H1 a Q q => h H1 (e.trans a) Q q
theorem EvPs.up {tr : TA} {Ps : List PV} (e : Ex H H') (h : EvPs tr σ H Ps) : EvPs tr σ H' Ps := fun H1 a Q q => h H1 (e.trans a) Q q
theorem EvP.imp (h : EvP te σ H P) (k : ∀ x H1, Ex H H1 → P x H1 → P' x H1) : EvP te σ H P' := fun H1 a Q q => h H1 a Q fun x H2 e p => q x H2 e (k x H2 (a.trans e) p)
theorem EvP.of (h : Ev te σ H v) (hm : Mo P) (hp : P v H) : EvP te σ H P := fun H1 a Q q => h H1 a Q fun H2 e => q v H2 e (hm v H H2 (a.trans e) hp)
theorem EvP.ev (h : EvP te σ H (Is v)) : Ev te σ H v := fun H1 a Q q => h H1 a Q fun x H2 e p => by rw [p]; exact q H2 e
theorem p_var {i : Nat} (h : σ[i]? = some (some v)) (hm : Mo P) (hp : P v H) : EvP (tVar i) σ H P := .of (ev_var h) hm hp
theorem p_is {i : Nat} (h : σ[i]? = some (some v)) : EvP (tVar i) σ H (Is v) := .of (ev_var h) mo_is rfl
theorem p_c : EvP (tC v) σ H (Is v) := .of ev_c mo_is rfl
theorem ps_nil : EvPs tNil σ H [] := fun H1 _ Q q => q [] H1 (Ex.refl H1) trivial
theorem ps_cons {tr : TA} {Ps : List PV} (hm : Mo P) (h : EvP te σ H P) (hr : EvPs tr σ H Ps) : EvPs (tCons te tr) σ H (P :: Ps) := fun H1 a Q q =>
  h H1 a _ fun x H2 e p => hr H2 (a.trans e) _ fun xs H3 e2 ps => q (x :: xs) H3 (e.trans e2) ⟨hm x H2 H3 e2 p, ps⟩
theorem p_lst {tr : TA} {Ps : List PV} (hm : ∀ P ∈ Ps, Mo P) (h : EvPs tr σ H Ps) (hl : Ps.length ≤ 100000 := by first | decide | simp) : EvP (tLst tr) σ H (Lst Ps) := fun H1 a Q q =>
  h H1 a _ fun xs H2 e ps => ⟨by rw [ps.len]; exact sz_of hl, fun p hp => q (.ref p) _ (e.trans (Ex.new hp)) ⟨p, xs, rfl, upd_same, ps.mono hm (Ex.new hp)⟩⟩
theorem p_tup {tr : TA} {Ps : List PV} (hm : ∀ P ∈ Ps, Mo P) (h : EvPs tr σ H Ps) (hl : Ps.length ≤ 100000 := by first | decide | simp) : EvP (tTup tr) σ H (Tup Ps) := fun H1 a Q q =>
  h H1 a _ fun xs H2 e ps => ⟨by rw [ps.len]; exact sz_of hl, fun p hp => q (.ref p) _ (e.trans (Ex.new hp)) ⟨p, xs, rfl, upd_same, ps.mono hm (Ex.new hp)⟩⟩
/-- a list of values written out -/
theorem p_lstV {tr : TA} {vs : List V} (h : EvPs tr σ H (vs.map Is)) (hl : vs.length ≤ 100000 := by first | decide | simp) : EvP (tLst tr) σ H (LstV vs) :=
  (p_lst (fun P hP => by obtain ⟨v, _, rfl⟩ := List.mem_map.mp hP; exact mo_is) h (by rw [List.length_map]; exact hl)).imp fun _ _ _ p => p.values
/-- xs + ys -/
theorem p_cat {Ps Rs : List PV} (hm : ∀ P ∈ Ps, Mo P) (hn : ∀ P ∈ Rs, Mo P) (h1 : EvP ta σ H (Lst Ps)) (h2 : EvP tb σ H (Lst Rs)) (hl : Ps.length + Rs.length ≤ 100000 := by first | decide | simp) : EvP (tOp rCat ta tb) σ H (Lst (Ps ++ Rs)) := fun H1 a Q q =>
  h1 H1 a _ fun x H2 e ⟨p, xs, ex, hx, px⟩ => h2 H2 (a.trans e) _ fun y H3 e2 ⟨r, ys, ey, hy, py⟩ => by
    refine ⟨p, r, xs, ys, ex, ey, e2 p _ hx, hy, by rw [px.len, py.len]; exact sz_of hl, fun z hz => ?_⟩
    exact q (.ref z) _ (e.trans (e2.trans (Ex.new hz))) ⟨z, xs ++ ys, rfl, upd_same, allP_app (px.mono hm (e2.trans (Ex.new hz))) (py.mono hn (Ex.new hz))⟩
theorem p_catV {xs ys : List V} (h1 : EvP ta σ H (LstV xs)) (h2 : EvP tb σ H (LstV ys)) (hl : xs.length + ys.length ≤ 100000 := by first | decide | simp) : EvP (tOp rCat ta tb) σ H (LstV (xs ++ ys)) := fun H1 a Q q =>
  h1 H1 a _ fun x H2 e ⟨p, ex, hx⟩ => h2 H2 (a.trans e) _ fun y H3 e2 ⟨r, ey, hy⟩ =>
    ⟨p, r, xs, ys, ex, ey, e2 p _ hx, hy, sz_of hl, fun z hz => q (.ref z) _ (e.trans (e2.trans (Ex.new hz))) ⟨z, rfl, upd_same⟩⟩
/-- a field of an error -/
def ErrV (C : Addr) (f : Str) (v : V) : PV := fun x H => ∃ e d, x = .ref e ∧ Err.ErrAt H e C d f v
theorem mo_err {C : Addr} {f : Str} {v : V} : Mo (ErrV C f v) := fun _ _ _ ex ⟨e, d, h1, h2⟩ => ⟨e, d, h1, ex _ _ h2.ob, ex _ _ h2.dc⟩
theorem p_err {C : Addr} {f : Str} (h : Ev te σ H v) : EvP (Err.tErr C f te) σ H (ErrV C f v) := fun H1 a Q q =>
  h H1 a _ fun H2 e x d hx hd hne => by
    have nd : upd H2 d (.xd [(f, v)]) x = none := by rw [upd_ne (Ne.symm hne)]; exact hx
    exact q (.ref x) _ (e.trans ((Ex.new hd).trans (Ex.new nd))) ⟨x, d, rfl, upd_same, by rw [upd_ne hne]; exact upd_same⟩
theorem p_errK {C : Addr} {f : Str} {tk : TA} (h : EvA tk σ H [v]) : EvP (fun σ H Q => tk σ H fun zs H1 => ∃ v, zs = [v] ∧ ∀ e d, H1 e = none → H1 d = none → d ≠ e → Q (.ref e) (upd (upd H1 d (.xd [(f, v)])) e (Err.errO e C d))) σ H (ErrV C f v) := fun H1 a Q q =>
  h H1 a _ fun H2 e => ⟨v, rfl, fun x d hx hd hne => by
    have nd : upd H2 d (.xd [(f, v)]) x = none := by rw [upd_ne (Ne.symm hne)]; exact hx
    exact q (.ref x) _ (e.trans ((Ex.new hd).trans (Ex.new nd))) ⟨x, d, rfl, upd_same, by rw [upd_ne hne]; exact upd_same⟩⟩
theorem p_errF {K : PySem.W.Frag} {C fI : Addr} {f : Str} (T : Err.ErrC K C fI f) (h : EvP te σ H (ErrV C f v)) : Ev (Err.tErrF K f te) σ H v := fun H1 a Q q =>
  h H1 a _ fun x H2 e ⟨y, d, ex, at_⟩ => ⟨y, C, fI, d, v, ex, T, at_, q H2 e⟩
theorem p_isErr {K : PySem.W.Frag} {C D : Addr} {f : Str} {b : Bool} {w : V} (T : ExcC K C) (k : PySem.W.kitOne K (.ref C) (.ref D) = some b) (h : EvP te σ H (ErrV C f w)) (h2 : Ev tb σ H (.ref D)) : Ev (tCB (Err.rIsErr K) (tCons te (tCons tb tNil))) σ H (.bl b) := fun H1 a Q q =>
  h H1 a _ fun x H2 e ⟨y, d, ex, at_⟩ => h2 H2 (a.trans e) _ fun H3 e2 => by
    refine ⟨y, C, d, f, w, .ref D, .ref D, b, by rw [ex], ⟨e2 _ _ at_.ob, e2 _ _ at_.dc⟩, T, fun u hu => hu, k, q H3 (e.trans e2)⟩
theorem p_isErrT {K : PySem.W.Frag} {C : Addr} {f : Str} {b : Bool} {w : V} {n : String} (T : ExcC K C) (k : PySem.W.kitOne K (.ref C) (.type n) = some b) (h : EvP te σ H (ErrV C f w)) (h2 : Ev tb σ H (.ty n)) : Ev (tCB (Err.rIsErr K) (tCons te (tCons tb tNil))) σ H (.bl b) := fun H1 a Q q =>
  h H1 a _ fun x H2 e ⟨y, d, ex, at_⟩ => h2 H2 (a.trans e) _ fun H3 e2 => by
    refine ⟨y, C, d, f, w, .ty n, .type n, b, by rw [ex], ⟨e2 _ _ at_.ob, e2 _ _ at_.dc⟩, T, fun u hu => hu, k, q H3 (e.trans e2)⟩
/-- an operation of values that are so and so -/
theorem p_op {r : R2} (hm : Mo P1) (h1 : EvP ta σ H P1) (h2 : EvP tb σ H P2)
    (hr : ∀ x y H1, Ex H H1 → P1 x H1 → P2 y H1 → ∀ Q : VK, (∀ z H2, Ex H1 H2 → P z H2 → Q z H2) → r x y H1 Q) : EvP (tOp r ta tb) σ H P := fun H1 a Q q =>
  h1 H1 a _ fun x H2 e p1 => h2 H2 (a.trans e) _ fun y H3 e2 p2 => hr x y H3 (a.trans (e.trans e2)) (hm x H2 H3 e2 p1) p2 Q fun z H4 e3 p => q z H4 (e.trans (e2.trans e3)) p
theorem p_un {r : V → Hp → VK → Prop} (h1 : EvP ta σ H P1) (hr : ∀ x H1, Ex H H1 → P1 x H1 → ∀ Q : VK, (∀ z H2, Ex H1 H2 → P z H2 → Q z H2) → r x H1 Q) : EvP (tUn r ta) σ H P := fun H1 a Q q =>
  h1 H1 a _ fun x H2 e p1 => hr x H2 (a.trans e) p1 Q fun z H4 e3 p => q z H4 (e.trans e3) p
theorem p_cb {r : List V → Hp → VK → Prop} {tr : TA} {Ps : List PV} (h : EvPs tr σ H Ps) (hr : ∀ xs H1, Ex H H1 → AllP Ps xs H1 → ∀ Q : VK, (∀ z H2, Ex H1 H2 → P z H2 → Q z H2) → r xs H1 Q) : EvP (tCB r tr) σ H P := fun H1 a Q q =>
  h H1 a _ fun xs H2 e ps => hr xs H2 (a.trans e) ps Q fun z H3 e2 p => q z H3 (e.trans e2) p
theorem p_call {sp : Sp} {E : XK} {tr : TA} {Ps : List PV} (h : EvPs tr σ H Ps) (hr : ∀ xs H1, Ex H H1 → AllP Ps xs H1 → ∀ Q : VK, (∀ z H2, Ex H1 H2 → P z H2 → Q z H2) → sp xs H1 Q E) : EvP (tCall sp [] E tr) σ H P := fun H1 a Q q =>
  h H1 a _ fun xs H2 e ps => by
    rw [List.append_nil]
    exact hr xs H2 (a.trans e) ps Q fun z H3 e2 p => q z H3 (e.trans e2) p
theorem p_ife {t : TT} {b : Bool} (h : EvT t σ H b) (h1 : b = true → EvP ta σ H P) (h2 : b = false → EvP tb σ H P) : EvP (tIf t ta tb) σ H P := fun H1 e Q q => h H1 e _ fun H2 e2 => by
  cases b with
  | true => exact h1 rfl H2 (e.trans e2) Q fun x H3 e3 p => q x H3 (e2.trans e3) p
  | false => exact h2 rfl H2 (e.trans e2) Q fun x H3 e3 p => q x H3 (e2.trans e3) p
/-! statements -/
variable {D : Ends} {tz : TS}
theorem d_asg {i : Nat} (h : EvP te σ H P) (k : ∀ x H1, Ex H H1 → P x H1 → tz D (σ.set i (some x)) H1) : tSeq (tAsg te (gName i)) tz D σ H := h H (Ex.refl H) _ k
theorem d_asg1 {i : Nat} (h : EvP te σ H P) (k : ∀ x H1, Ex H H1 → P x H1 → D.nx (σ.set i (some x)) H1) : tAsg te (gName i) D σ H := h H (Ex.refl H) _ k
theorem d_ret (h : EvP te σ H P) (k : ∀ x H1, Ex H H1 → P x H1 → D.rt x H1) : tRet te D σ H := h H (Ex.refl H) _ k
end
/-- a promise: asked of the arguments, P of what comes back, nothing that stood is touched -/
def Pr (pre : List V → Hp → Prop) (P : List V → PV) : Sp := fun vs H Q _ => pre vs H ∧ ∀ x H', Ex H H' → P vs x H' → Q x H'
/-- the same value twice: none is told from itself -/
def noFlt : V → Bool
  | .flt _ => false
  | _ => true
theorem eq_self {A : Around} {s : Shared} {x : V} {v u : Value} (rx : RelV x v) (ru : RelV x u) (h : flatB x = true ∨ ∃ a, x = .ref a) : SeqAt.EqAt A s v u true := by
  rcases h with h | ⟨a, rfl⟩
  · exact eqAt_same rx ru h
  · cases (show v = Value.ref a from rx)
    cases (show u = Value.ref a from ru)
    exact SeqAt.EqAt.same _
def Solid (x : V) : Prop := flatB x = true ∨ ∃ a, x = .ref a
theorem items_self {A : Around} {s : Shared} {xs : List V} {us ws : List Value} (hs : ∀ x ∈ xs, Solid x) (r1 : Vals xs us) (r2 : Vals xs ws) : ∀ j (h1 : j < us.toArray.size) (h2 : j < ws.toArray.size), SeqAt.EqAt A s us.toArray[j] ws.toArray[j] true := by
  intro j h1 h2
  have l1 : j < us.length := by simpa using h1
  have l2 : j < ws.length := by simpa using h2
  have lx : j < xs.length := by rw [Vals.length r1]; exact l1
  obtain ⟨u, hu, ru⟩ := Vals.get r1 (List.getElem?_eq_getElem lx)
  obtain ⟨w', hw, rw'⟩ := Vals.get r2 (List.getElem?_eq_getElem lx)
  have e1 : us.toArray[j] = u := by
    have := (List.getElem?_eq_getElem l1).symm.trans hu
    simpa using this
  have e2 : ws.toArray[j] = w' := by
    have := (List.getElem?_eq_getElem l2).symm.trans hw
    simpa using this
  rw [e1, e2]
  exact eq_self ru rw' (hs _ (List.getElem_mem lx))
/-- two lists of the same values -/
def rLs (K : PySem.W.Frag) (b : Bool) : R2 := fun x y H Q => ∃ a c xs, x = .ref a ∧ y = .ref c ∧ SqL K H a xs ∧ SqL K H c xs ∧ (∀ z ∈ xs, Solid z) ∧ Q (.bl b) H
/-- a value beside itself -/
def rSelf (K : PySem.W.Frag) (b : Bool) : R2 := fun x y H Q => x = y ∧ (scal x x = true ∨ (∃ a xs, x = .ref a ∧ (SqL K H a xs ∨ SqT K H a xs) ∧ ∀ z ∈ xs, Solid z) ∨ ∃ a, x = .ref a ∧ H a = some (.dK [])) ∧ Q (.bl b) H
section
variable {X : Cx}
theorem op_neLs (hu : X.A.units < cLine) : OpR X (compareOp .NotEq) (rLs X.K false) := by
  intro pins s σ H x y v u Q I rx ry h
  obtain ⟨a, c, xs, rfl, rfl, h1, h2, hs, q⟩ := h
  obtain rfl : v = Value.ref a := rx
  obtain rfl : u = Value.ref c := ry
  obtain ⟨us, r1, p1, _⟩ := I.list h1
  obtain ⟨ws, r2, p2, _⟩ := I.list h2
  have sz : us.toArray.size = ws.toArray.size := by
    rw [List.size_toArray, List.size_toArray, ← Vals.length r1, ← Vals.length r2]
  show wpAny _ _ (richCompare .NotEq (.ref a) (.ref c)) _ _ _
  refine SeqAt.RcNeAt.lists (A := X.A) (e := fun _ => true) p1.isList p2.isList sz hu (items_self hs r1 r2) X.prog X.w X.xe _ ?_
  rw [show ((List.range us.toArray.size).all fun _ => true) = true from List.all_eq_true.mpr fun _ _ => rfl]
  exact ⟨.bl false, H, I, rfl, q⟩
theorem op_eqLs (hu : X.A.units < cLine) : OpR X (compareOp .Eq) (rLs X.K true) := by
  intro pins s σ H x y v u Q I rx ry h
  obtain ⟨a, c, xs, rfl, rfl, h1, h2, hs, q⟩ := h
  obtain rfl : v = Value.ref a := rx
  obtain rfl : u = Value.ref c := ry
  obtain ⟨us, r1, p1, _⟩ := I.list h1
  obtain ⟨ws, r2, p2, _⟩ := I.list h2
  have sz : us.toArray.size = ws.toArray.size := by
    rw [List.size_toArray, List.size_toArray, ← Vals.length r1, ← Vals.length r2]
  refine SeqAt.rcP_lists (e := fun _ => true) p1.isList p2.isList sz hu (fun j l1 l2 => (items_self hs r1 r2 j l1 l2).eqP) X.xe _ ?_
  rw [show ((List.range us.toArray.size).all fun _ => true) = true from List.all_eq_true.mpr fun _ _ => rfl]
  exact ⟨.bl true, H, I, rfl, q⟩
theorem op_neSelf (hu : X.A.units < cLine) : OpR X (compareOp .NotEq) (rSelf X.K false) := by
  intro pins s σ H x y v u Q I rx ry h
  obtain ⟨rfl, h, q⟩ := h
  rcases h with h | ⟨a, xs, rfl, h, hs⟩ | ⟨a, rfl, h⟩
  · refine op_ne pins s σ H x x v u Q I rx ry ⟨h, ?_⟩
    simpa using q
  · rcases h with h | h
    · exact op_neLs hu pins s σ H _ _ v u Q I rx ry ⟨a, a, xs, rfl, rfl, h, h, hs, q⟩
    · obtain rfl : v = Value.ref a := rx
      obtain rfl : u = Value.ref a := ry
      obtain ⟨us, r1, p1, _⟩ := I.tuple h
      have tp : s.heap.IsTuple a us.toArray := by
        obtain ⟨o, ho, hc, n, hd⟩ := p1
        exact ⟨o, ho, hc, n, hd⟩
      show wpAny _ _ (richCompare .NotEq (.ref a) (.ref a)) _ _ _
      refine SeqAt.RcNeAt.tuples (A := X.A) (e := fun _ => true) tp tp hu (items_self hs r1 r1) X.prog X.w X.xe _ ?_
      have ee : (!(((List.range (min us.toArray.size us.toArray.size)).all fun _ => true) && us.toArray.size == us.toArray.size)) = false := by simp
      rw [ee]
      exact ⟨.bl false, H, I, rfl, q⟩
  · exact op_ne_dictA hu pins s σ H _ _ v u Q I rx ry ⟨a, a, [], [], rfl, rfl, h, h, rfl, (fun _ h => nomatch h), q⟩
theorem pe_gref {x : Str} {C : Addr} {pos : Pos} (hg : Gl X x) (hm : X.mg x = some (.ref C)) (hd : (x == ("__debug__" : Str)) = false := by decide) : PE X (.Name x pos) (tC (.ref C)) := pe_glob hg hm (show RelV (.ref C) (.ref C) from rfl) hd
/-- a list beside []: are they unlike? -/
def rNil (K : PySem.W.Frag) : R2 := fun x y H Q => ∃ a c xs, x = .ref a ∧ y = .ref c ∧ SqL K H a xs ∧ SqL K H c [] ∧ (∀ z ∈ xs, Solid z) ∧ Q (.bl (!xs.isEmpty)) H
theorem op_neNil (hu : X.A.units < cLine) : OpR X (compareOp .NotEq) (rNil X.K) := by
  intro pins s σ H x y v u Q I rx ry h
  obtain ⟨a, c, xs, rfl, rfl, h1, h2, hs, q⟩ := h
  cases xs with
  | nil => exact op_neLs hu pins s σ H _ _ v u Q I rx ry ⟨a, c, [], rfl, rfl, h1, h2, hs, q⟩
  | cons z zs =>
    obtain rfl : v = Value.ref a := rx
    obtain rfl : u = Value.ref c := ry
    obtain ⟨us, r1, p1, _⟩ := I.list h1
    obtain ⟨ws, r2, p2, _⟩ := I.list h2
    have sz : (us.toArray.size != ws.toArray.size) = true := by
      rw [List.size_toArray, List.size_toArray, ← Vals.length r1, ← Vals.length r2]
      simp
    show wpAny _ _ (richCompare .NotEq (.ref a) (.ref c)) _ _ _
    refine SeqAt.RcNeAt.lists_lengths (A := X.A) p1.isList p2.isList sz hu X.prog X.w X.xe _ ?_
    exact ⟨.bl true, H, I, rfl, q⟩
end
section
variable {σ : L2.St} {H : Hp} {ta tb : TE}
theorem p_neLs {K : PySem.W.Frag} {vs : List V} {b : Bool} (hs : ∀ z ∈ vs, Solid z) (h1 : EvP ta σ H (LstV vs)) (h2 : EvP tb σ H (LstV vs)) : Ev (tOp (rLs K b) ta tb) σ H (.bl b) := fun H1 a Q q =>
  h1 H1 a _ fun x H2 e ⟨p, ex, hx⟩ => h2 H2 (a.trans e) _ fun y H3 e2 ⟨r, ey, hy⟩ =>
    ⟨p, r, vs, ex, ey, sq_of (e2 _ _ hx), sq_of hy, hs, q H3 (e.trans e2)⟩
end
end Pd
set_option maxHeartbeats 4000000
/-! Data as a tree, kept by growing heaps; a pool: a list [numbers, place] of which the place is not told. -/
namespace Pd
open PySem PySem.Spec PyProof.Rows L2 Evl
mutual
theorem dp_up {K : PySem.W.Frag} {H H' : Hp} (e : Ex H H') : ∀ {x : V} {d : PyData}, Dp K H x d → Dp K H' x d
  | _, _, .non => .non
  | _, _, .bl b => .bl b
  | _, _, .int i => .int i
  | _, _, .str x => .str x
  | _, _, .lst h a => .lst (ex_l e h) (dpAll_up e a)
  | _, _, .tup h a => .tup (ex_t e h) (dpAll_up e a)
theorem dpAll_up {K : PySem.W.Frag} {H H' : Hp} (e : Ex H H') : ∀ {xs : List V} {ds : List PyData}, DpAll K H xs ds → DpAll K H' xs ds
  | _, _, .nil => .nil
  | _, _, .cons h a => .cons (dp_up e h) (dpAll_up e a)
end
/-- the value is the data d -/
def De (K : PySem.W.Frag) (d : PyData) : PV := fun x H => Dp K H x d
theorem mo_de {K : PySem.W.Frag} {d : PyData} : Mo (De K d) := fun _ _ _ e h => dp_up e h
theorem allP_de {K : PySem.W.Frag} {H : Hp} : ∀ {ds : List PyData} {xs : List V}, AllP (ds.map (De K)) xs H → DpAll K H xs ds
  | [], [], _ => .nil
  | d :: ds, x :: xs, h => .cons h.1 (allP_de h.2)
theorem mo_des {K : PySem.W.Frag} {ds : List PyData} : ∀ P ∈ ds.map (De K), Mo P := fun P hP => by
  obtain ⟨d, _, rfl⟩ := List.mem_map.mp hP
  exact mo_de
section
variable {K : PySem.W.Frag} {σ : L2.St} {H : Hp} {te ta tb : TE} {tr : TA} {d e : PyData} {ds : List PyData}
theorem de_int {i : Int} : EvP (tC (.int i)) σ H (De K (.int i)) := p_c.imp fun x _ _ hx => by rw [show x = _ from hx]; exact .int i
theorem de_str {s : Str} : EvP (tC (.str s)) σ H (De K (.str s)) := p_c.imp fun x _ _ hx => by rw [show x = _ from hx]; exact .str s
theorem de_bl {b : Bool} : EvP (tC (.bl b)) σ H (De K (.bool b)) := p_c.imp fun x _ _ hx => by rw [show x = _ from hx]; exact .bl b
theorem de_non : EvP (tC .non) σ H (De K .none) := p_c.imp fun x _ _ hx => by rw [show x = _ from hx]; exact .non
theorem de_lst (h : EvPs tr σ H (ds.map (De K))) (hl : ds.length ≤ 100000 := by first | decide | simp) : EvP (tLst tr) σ H (De K (.list ds)) :=
  (p_lst mo_des h (by rw [List.length_map]; exact hl)).imp fun x H1 _ ⟨a, xs, h1, h2, h3⟩ => by rw [h1]; exact .lst (sq_of h2) (allP_de h3)
theorem de_tup (h : EvPs tr σ H (ds.map (De K))) (hl : ds.length ≤ 100000 := by first | decide | simp) : EvP (tTup tr) σ H (De K (.tuple ds)) :=
  (p_tup mo_des h (by rw [List.length_map]; exact hl)).imp fun x H1 _ ⟨a, xs, h1, h2, h3⟩ => by rw [h1]; exact .tup (st_of h2) (allP_de h3)
theorem de_eq (sd : SeqAt.shaped d = true) (se : SeqAt.shaped e = true) (h1 : EvP ta σ H (De K d)) (h2 : EvP tb σ H (De K e)) : Ev (tOp (rEqD K) ta tb) σ H (.bl (PyData.eqv d e)) := fun H1 a Q q =>
  h1 H1 a _ fun x H2 e1 p1 => h2 H2 (a.trans e1) _ fun y H3 e2 p2 => ⟨d, e, dp_up e2 p1, p2, sd, se, q H3 (e1.trans e2)⟩
theorem de_ne (sd : SeqAt.shaped d = true) (se : SeqAt.shaped e = true) (h1 : EvP ta σ H (De K d)) (h2 : EvP tb σ H (De K e)) : Ev (tOp (rNeD K) ta tb) σ H (.bl (!PyData.eqv d e)) := fun H1 a Q q =>
  h1 H1 a _ fun x H2 e1 p1 => h2 H2 (a.trans e1) _ fun y H3 e2 p2 => ⟨d, e, dp_up e2 p1, p2, sd, se, q H3 (e1.trans e2)⟩
/-- the class of a data -/
def tyD : PyData → String
  | .none => "NoneType" | .bool _ => "bool" | .int _ => "int" | .str _ => "str" | .list _ => "list" | .tuple _ => "tuple" | .dict _ => "dict"
theorem ty_list {a : Addr} {xs : List V} (h : SqL K H a xs) : TyX K H (.ref a) (.type "list") := by
  rcases h with (h | ⟨o, h⟩) | ⟨o, its, n, h1, h2, _⟩
  · exact .base (.lst h)
  · exact .base (.frz h)
  · exact .kList h1 h2
theorem ty_tup {a : Addr} {xs : List V} (h : SqT K H a xs) : TyX K H (.ref a) (.type "tuple") := by
  rcases h with (h | ⟨o, h⟩) | ⟨o, its, n, h1, h2, _⟩
  · exact .base (.tup h)
  · exact .fTuple h
  · exact .kTuple h1 h2
theorem ty_de {x : V} (h : Dp K H x d) : TyX K H x (.type (tyD d)) := by
  cases h with
  | non => exact .base .non
  | bl b => exact .base (.bl b)
  | int i => exact .base (.int i)
  | str s => exact .base (.str s)
  | lst h _ => exact ty_list h
  | tup h _ => exact ty_tup h
/-- isinstance(x, T) -/
theorem de_isi {n : String} {b : Bool} (k : kitB (tyD d) n = some b) (h1 : EvP ta σ H (De K d)) (h2 : Ev tb σ H (.ty n)) : Ev (tCB (rIsi K) (tCons ta (tCons tb tNil))) σ H (.bl b) := fun H1 a Q q =>
  h1 H1 a _ fun x H2 e1 p1 => h2 H2 (a.trans e1) _ fun H3 e2 => ⟨x, .ty n, _, .type n, b, rfl, .ty n, ty_de (dp_up e2 p1), kit_ty k, q H3 (e1.trans e2)⟩
end
/-! ### a pool -/
/-- at p: the list [the list at a, some place from 0 on] -/
def poolO (p a : Addr) : HO := .ext fun h => ∃ (i : Int) (t : Tok) (n : Nat), 0 ≤ i ∧ h.get? p = some { cls := .type "list", data := .seq #[.ref a, .int i t] n }
theorem pool_ok {P : Program} {w : World} {H : Hp} {h : Heap} {p a : Addr} {i : Int} {t : Tok} {n : Nat} (h0 : 0 ≤ i) (e : h.get? p = some { cls := .type "list", data := .seq #[.ref a, .int i t] n }) : ObjOk P w H h p (poolO p a) :=
  ⟨⟨i, t, n, h0, e⟩, ⟨_, e⟩, fun _ _ ⟨i, t, n, h0, q⟩ k => ⟨i, t, n, h0, k _ q⟩⟩
theorem pool_at {P : Program} {w : World} {H : Hp} {h : Heap} {p a : Addr} (hok : HOk P w H h) (e : H p = some (poolO p a)) : ∃ (i : Int) (t : Tok) (n : Nat), 0 ≤ i ∧ h.get? p = some { cls := .type "list", data := .seq #[.ref a, .int i t] n } := by
  have x : ObjOk P w H h p (.ext fun h => ∃ (i : Int) (t : Tok) (n : Nat), 0 ≤ i ∧ h.get? p = some { cls := .type "list", data := .seq #[.ref a, .int i t] n }) := hok p _ e
  exact x.1
/-- numbers from 0 on -/
def Nums (K : PySem.W.Frag) (a : Addr) (H : Hp) : Prop := ∃ ns : List Int, (∀ n ∈ ns, 0 ≤ n) ∧ ns.length ≤ 1000 ∧ H a = some (.lst (ns.map V.int))
def PoolV (K : PySem.W.Frag) : PV := fun x H => ∃ p a, x = .ref p ∧ H p = some (poolO p a) ∧ Nums K a H
theorem mo_pool {K : PySem.W.Frag} : Mo (PoolV K) := fun _ _ _ e ⟨p, a, h1, h2, ns, h3, h4, h5⟩ => ⟨p, a, h1, e _ _ h2, ns, h3, h4, e _ _ h5⟩
section
variable {X : Cx}
/-- [numbers, 0] is taken as a pool from here on -/
def tRecast (te : TE) : TE := fun σ H Q => te σ H fun x H1 => ∃ (p a : Addr) (i : Int), x = .ref p ∧ 0 ≤ i ∧ H1 p = some (.lst [.ref a, .int i]) ∧ Q x (upd H1 p (poolO p a))
theorem pe_recast {e : Expr} {te : TE} (h : PE X e te) : PE X e (tRecast te) := by
  refine ⟨fun pins s σ H Q I hw => thn (h.run pins s σ H _ I hw) fun u s1 ⟨x, H1, I1, r, p, a, i, ex, h0, hp, q⟩ => ?_⟩
  subst ex
  obtain ⟨hl, its, n, rv, ho⟩ := (show ObjOk X.prog X.w H1 s1.heap p (.lst [.ref a, .int i]) from I1.hok p _ hp)
  obtain ⟨u1, u2, rfl, r1, r2⟩ := vals2 rv
  cases (show u1 = Value.ref a from r1)
  obtain ⟨t, rfl⟩ := (show ∃ t, u2 = Value.int i t from r2)
  have J := I1.write (t' := s1.toks) (x := p) (e := p) (o := poolO p a) (by rw [hp]; exact True.intro) (.inl rfl) (fun b u _ z => z) ⟨_, ho⟩ (pool_ok h0 ho)
  exact ⟨.ref p, _, J, r, q⟩
/-- pool[0], pool[1] -/
def rIxPool : R2 := fun x y H Q => ∃ (p a : Addr), x = .ref p ∧ H p = some (poolO p a) ∧ ((y = .int 0 ∧ Q (.ref a) H) ∨ (y = .int 1 ∧ ∀ i : Int, 0 ≤ i → Q (.int i) H))
theorem ix_pool : IxR X rIxPool := by
  intro value slice pins s σ H x y v u Q I rx ry h hs
  obtain ⟨p, a, rfl, hp, h⟩ := h
  cases rx
  obtain ⟨i, t, n, h0, ho⟩ := pool_at I.hok hp
  have il : s.heap.IsList p #[.ref a, .int i t] := ⟨_, ho, rfl, n, rfl⟩
  rcases h with ⟨rfl, q⟩ | ⟨rfl, q⟩
  · obtain ⟨t2, rfl⟩ := ry
    exact item_listR il (by decide) (by decide) (x := .ref a) rfl ⟨.ref a, H, I, rfl, q⟩ hs
  · obtain ⟨t2, rfl⟩ := ry
    exact item_listR il (by decide) (by decide) (x := .int i t) rfl ⟨.int i, H, I, ⟨t, rfl⟩, q i h0⟩ hs
/-- pool[1] = i -/
def rSetPool : V → V → V → Hp → (Hp → Prop) → Prop := fun o i v H Q => ∃ (p a : Addr) (k : Int), o = .ref p ∧ i = .int 1 ∧ v = .int k ∧ 0 ≤ k ∧ H p = some (poolO p a) ∧ Q H
theorem set_pool : PSet X rSetPool := by
  intro pins s σ H o i v ov iv u Q I ro ri rv h
  obtain ⟨p, a, k, rfl, rfl, rfl, hk, hp, q⟩ := h
  cases ro
  obtain ⟨t, rfl⟩ := ri
  obtain ⟨tk, rfl⟩ := rv
  obtain ⟨i, t0, n, h0, ho⟩ := pool_at I.hok hp
  have e : (s.heap.update p (Obj.mapSeq (·.setIfInBounds 1 (.int k tk)))).get? p = some { cls := .type "list", data := .seq #[.ref a, .int k tk] n } := by
    rw [Heap.get?_update_self _ ho (by simp [Obj.mapSeq]; rfl)]
    simp [Obj.mapSeq]
  have J : Inv X pins σ (upd H p (poolO p a)) { s with heap := s.heap.update p (Obj.mapSeq (·.setIfInBounds 1 (.int k tk))) } :=
    I.write (t' := s.toks) (x := p) (e := p) (o := poolO p a) (by rw [hp]; exact True.intro) (.inl rfl) (fun b u hb z => (Heap.get?_update_other _ _ (Ne.symm hb)).trans z) ⟨_, e⟩ (pool_ok hk e)
  have same : upd H p (poolO p a) = H := by
    funext b
    by_cases hb : b = p
    · rw [hb, upd_same, hp]
    · rw [upd_ne hb]
  rw [same] at J
  exact PySem.W.ki_setAt ho (by decide) (by decide) (by show (1 : Int) < 2; decide) ⟨_, J, q⟩
end
end Pd
set_option maxHeartbeats 4000000
/-! {k: v for target in iter if ..}: the keys are tuples. -/
namespace Dct
open PySem PySem.Spec PyProof.Rows L2 Evl Pd
section
variable {X : Cx} {pins : List (Addr × Obj)} {σ : L2.St} {H H' : Hp} {s : Shared}
/-- what a comprehension stores -/
theorem store_dict {E : Value → Shared → Prop} {a : Addr} {y v : V} {u r : Value} {Q : Unit → Shared → Prop} (hu : X.A.units + 1 < cLine) (I : Inv X pins σ H s) (g : DPut H a y v H') (ry : RelV y u) (rv : RelV v r)
    (h : ∀ s', Inv X pins σ H' s' → Q () s') : wpAny (model X.prog X.w) X.A (dictSet a u r) Q E s := by
  rcases g with ⟨kvs, k, e, ey, l, eH⟩ | ⟨kvs, k, b, e, ey, eb, l, eH⟩
  · subst ey eH
    exact d_dictSet I e l ry rv h
  · subst ey eH
    cases (show u = Value.ref b from ry)
    obtain ⟨z, hd, xs, rel, dd⟩ := dt_of I.hok e
    have small : xs.length ≤ sizeLine := by rw [← Paired.length rel]; exact z
    have grown : (putK kvs k v).length ≤ sizeLine := by have := length_putK kvs k v; omega
    refine wpAny_dictSet_heap (hsz := small) (show (tupleKind (mixKind X.prog X.w)).room X.A from Nat.lt_of_succ_lt hu) (key_of I.hok eb) dd fun h' dd' hs => h _ ?_
    obtain ⟨q, es, ep, hq, h2, h3, h4, _, h5⟩ := dd'
    refine d_write I (by rw [e]; exact True.intro) hs ⟨q, hq⟩ ⟨grown, hd, _, (rel.put k eb rv).keeps fun c ys ec => ?_, q, es, ep, hq, h2, h3, h4, h5⟩
    rw [upd_ne (ne_of ec e (fun z => nomatch z))]
    exact ec
end
/-- the reading: D the new dict, of the kind mk -/
def tDct (mk : HO) (wi : TI) (g : TG) (tt : TT) (tk tv : TE) (vs : List Nat) : TE := fun σ H Q => wi σ H fun J H1 => ∀ D, H1 D = none → ∃ W : Nat → Nat → Hp → Prop, (∃ m, W 0 m (upd H1 D mk)) ∧ ∀ i m H2, W i m H2 →
  (J.stop i H2 ∧ Q (.ref D) H2) ∨ (J.go i H2 ∧ ∃ Nx : Hp → Prop, (∀ H3, Nx H3 → ∃ m', m' < m ∧ W (i + 1) m' H3) ∧ ∀ x H3, J.yld i H2 x H3 → g x (wipe σ vs) H3 fun σ2 H4 => wipe σ2 vs = wipe σ vs ∧ tt σ2 H4 fun b H5 =>
    if b = true then tk σ2 H5 fun y H6 => tv σ2 H6 fun z H7 => ∃ H8, DPut H7 D y z H8 ∧ Nx H8 else Nx H5)
section
variable {X : Cx}
theorem pe_dct {mk : HO} {kx vx tg iter : Expr} {ifs : List Expr} {scope : Scope} {own : List (Str × Nat)} {pos : Pos} {wi : TI} {g : TG} {tt : TT} {tk tv : TE} (hu : X.A.units + 1 < cLine)
    (new : ∀ (P : Program) (w : World) (H : Hp) (h : Heap), sysModules < h.objs.size → ObjOk P w H (h.push { cls := .type "dict", data := .dict #[] }) h.objs.size mk)
    (hc : X.calm = true) (hN : X.N.Nodup) (hi : PI X tg iter wi) (ok : BlkOk X.N X.env.scope scope own)
    (hg : ∀ (s : Shared) (H : Hp) (C : Addr) (cl : List (Str × Addr)) (fp : List Addr), PG (X.blk s H scope (compEnvC scope cl C X.env) fp) tg g)
    (ht : ∀ (s : Shared) (H : Hp) (C : Addr) (cl : List (Str × Addr)) (fp : List Addr), PTs (X.blk s H scope (compEnvC scope cl C X.env) fp) ifs tt)
    (hk : ∀ (s : Shared) (H : Hp) (C : Addr) (cl : List (Str × Addr)) (fp : List Addr), PE (X.blk s H scope (compEnvC scope cl C X.env) fp) kx tk)
    (he : ∀ (s : Shared) (H : Hp) (C : Addr) (cl : List (Str × Addr)) (fp : List Addr), PE (X.blk s H scope (compEnvC scope cl C X.env) fp) vx tv) (hs : ∀ x, foldedSetIterable iter X.env x = pure x := by intro _; rfl) :
    PE X (.DictComp kx vx [⟨tg, iter, ifs, 0⟩] scope pos) (tDct mk wi g tt tk tv (own.map (·.2))) := by
  refine ⟨fun pins s σ H Q I h => ?_⟩
  rw [arm_eval_DictComp]
  have clo : ∀ y ∈ scope.names, y.2 = .free → ∃ c, X.env.cells.lookup y.1 = some c := fun y hy e => (ok.free y hy e).elim (fun k => I.ok.has _ (.inl k)) fun k => I.ok.has _ (.inr k)
  refine wpAny_comprehension_free rfl hs (closure_ok clo) ok.kind (fun y hy e => by rw [ok.uniq y hy, e]) (thn (hi.run pins s σ H _ I h) fun _ s1 hx => thn hx fun _ s2 ⟨it, fp, tn, J, Ha, e, I2, T, st2, f2, q⟩ => ?_)
  subst e
  refine wpAny_newObj_type (newEnv_comp ?_)
  -- D: the dict, laid at the heap's end; CL: the block's frame behind it
  obtain ⟨D, hD⟩ : ∃ D, D = s2.heap.objs.size := ⟨_, rfl⟩
  obtain ⟨s3, hs3⟩ : ∃ s3 : Shared, s3 = { s2 with heap := s2.heap.push { cls := .type "dict", data := .dict #[] } } := ⟨_, rfl⟩
  rw [← hs3, ← hD]
  have nD : Ha D = none := I2.hok.fresh (Nat.le_of_eq hD.symm)
  obtain ⟨W, ⟨m0, w0⟩, turn⟩ := q D nD
  have hp3 : s3.heap = s2.heap.push { cls := .type "dict", data := .dict #[] } := by rw [hs3]
  have kept3 : ∀ b o, s2.heap.get? b = some o → s3.heap.get? b = some o := fun b o z => by rw [hp3]; exact Heap.get?_push_of_some _ z
  have I3 : Inv X pins σ (upd Ha D mk) s3 := by
    have z := I2.laid (a := D) (o := mk) (t' := s2.toks) (h' := s2.heap.push { cls := .type "dict", data := .dict #[] }) (fun b o z => Heap.get?_push_of_some _ z) (Nat.le_of_eq hD.symm) (by rw [hD]; exact new _ _ _ _ I2.big)
    rw [hs3]
    exact z
  have low : ∀ b ∈ fp, b < s2.heap.objs.size := fun b hb => let ⟨_, z, _⟩ := T.obj _ _ st2 b hb; Heap.lt_size z
  have f3 : ∀ b ∈ fp, FpOk X pins (upd Ha D mk) b ∧ b < s3.heap.objs.size := fun b hb => by
    have l := low b hb
    have ne : b ≠ D := by rw [hD]; exact Nat.ne_of_lt l
    exact ⟨⟨by rw [upd_ne ne]; exact (f2 b hb).1, (f2 b hb).2⟩, by rw [hp3, Heap.size_push]; exact Nat.lt_succ_of_lt l⟩
  have st3 : tn 0 s3.heap := T.keep _ _ _ st2 fun b _ o z => kept3 b o z
  have I4 := block_start I3 ok hN f3
  show codeAny _ _ (.compStart (.DictComp kx vx [⟨tg, iter, ifs, 0⟩] scope pos) 0 (.ref it) (.ref D) (compEnvC scope (cellsFrom (s3.heap.objs.size + 1) scope.names (cloFrom X.env.cells scope.names [])) s3.heap.objs.size X.env)) _ _
  generalize hcl : cellsFrom (s3.heap.objs.size + 1) scope.names (cloFrom X.env.cells scope.names []) = cl at I4 ⊢
  have pg := hg s3 (upd Ha D mk) s3.heap.objs.size cl fp
  have pt := ht s3 (upd Ha D mk) s3.heap.objs.size cl fp
  have pk := hk s3 (upd Ha D mk) s3.heap.objs.size cl fp
  have pe := he s3 (upd Ha D mk) s3.heap.objs.size cl fp
  have nfp : ∀ b ∈ fp, (upd Ha D mk) b = none := fun b hb => (f3 b hb).1.1
  have cL : (compEnvC scope cl s3.heap.objs.size X.env).locals = s3.heap.objs.size := rfl
  generalize compEnvC scope cl s3.heap.objs.size X.env = ce at I4 pg pt pk pe cL ⊢
  generalize hHb : upd Ha D mk = Hb at I3 I4 pg pt pk pe w0 nfp f3
  generalize hs4 : ({ s3 with heap := pushCells (s3.heap.push { cls := .type "dict", data := .dict #[] }) scope.names } : Shared) = s4 at I4 ⊢
  have st4 : tn 0 s4.heap := T.keep _ _ _ st3 fun b _ o z => by rw [← hs4]; exact pushCells_keeps _ _ _ _ (Heap.get?_push_of_some _ z)
  have stat : ∀ {σ' : L2.St} {H' : Hp} {s' : Shared}, Inv (X.blk s3 Hb scope ce fp) [] σ' H' s' → (∀ b ∈ fp, H' b = none) → ∀ b ∈ fp, FpOk (X.blk s3 Hb scope ce fp) [] H' b := fun {σ' H' s'} J' hn b hb =>
    ⟨hn b hb, (J'.ok.exf b hb).1, J'.ok.exfs b hb, .inl hb, fun x c z => (J'.ok.exf b hb).2 x c z, fun p hp => absurd (show p ∈ ([] : List (Addr × Obj)) ++ [] from hp) (by simp)⟩
  refine codeAny_compStart_dict ?loop (T.self X.A 0 _ _ _ st4 ?loop)
  refine compLoop_anyD (fun n s' => ∃ i H', Inv (X.blk s3 Hb scope ce fp) [] (wipe σ (own.map (·.2))) H' s' ∧ tn i s'.heap ∧ (∀ b ∈ fp, H' b = none) ∧ W i n H') (fun n s5 ⟨i, H5, I5, st5, n5, w5⟩ => ?_) m0 ⟨0, Hb, I4, st4, nfp, w0⟩
  rcases turn i n H5 w5 with ⟨stop, qq⟩ | ⟨go, Nx, hNx, step⟩
  · refine thnF (T.done (X.blk s3 Hb scope ce fp) rfl rfl rfl hc i [] s5 _ H5 (fun _ _ => False) I5 (stat I5 n5) st5 stop) fun r s6 ⟨hr, I6⟩ => ?_
    subst hr
    have I7 : Inv X pins σ H5 s6 := I3.call' (ch := fp) I6.os I6.base I6.hok I6.bare fun b hb => ⟨(f3 b hb).1.2.2.2.1, (f3 b hb).1.2.1, (f3 b hb).1.2.2.2.2.1, (f3 b hb).1.2.2.2.2.2⟩
    have nC : H5 s3.heap.objs.size = none := by
      have z : H5 ce.locals = none := I6.free
      rw [cL] at z
      exact z
    obtain ⟨m, hn, _⟩ := I6.loc
    have hn' : s6.heap.Ns s3.heap.objs.size m := by
      have z : s6.heap.Ns ce.locals m := hn
      rw [cL] at z
      exact z
    obtain ⟨g0, g1, g2, g3, g4, g5⟩ := I3.fpOk (b := s3.heap.objs.size) (H' := H5) (Nat.le_refl _) nC
    exact ⟨m, hn', fun h9 sb => ⟨.ref D, H5, I7.turned (t' := s6.toks) (fun b o hb z => (sb.2 b hb).trans z) g0 g1 g3 g4 g5, rfl, qq⟩⟩
  · refine thnF (T.item (X.blk s3 Hb scope ce fp) rfl rfl rfl hc i [] s5 _ H5 (fun _ _ => False) I5 (stat I5 n5) st5 go) fun r s6 ⟨u, hr, h6⟩ => ?_
    subst hr
    refine thnF h6 fun _ s7 ⟨x, H7, I7, r7, y7, st7, n7⟩ => ?_
    have I7' := I7.pinned (stat I7 n7) (T.obj _ _ st7)
    refine thnF (pg.run _ s7 _ H7 x u _ I7' r7 (step x H7 y7)) fun _ s8 ⟨σ8, H8, I8, hw8, q8⟩ => ?_
    refine thnF (pt.run _ s8 σ8 H8 _ I8 q8) fun b s9 ⟨H9, I9, q9⟩ => ?_
    have fin : ∀ {s' : Shared} {H' : Hp}, Inv (X.blk s3 Hb scope ce fp) ([] ++ pinsAt fp s7.heap) σ8 H' s' → Nx H' → ∃ m, m < n ∧ ∃ i H', Inv (X.blk s3 Hb scope ce fp) [] (wipe σ (own.map (·.2))) H' s' ∧ tn i s'.heap ∧ (∀ b ∈ fp, H' b = none) ∧ W i m H' := fun {s' H'} J' nx => by
      obtain ⟨m', hm, w'⟩ := hNx H' nx
      have still : ∀ b ∈ fp, ∀ o, s7.heap.get? b = some o → s'.heap.get? b = some o ∧ H' b = none := fun b hb o z =>
        let y := J'.pin (b, o) (List.mem_append_right _ (List.mem_append_right _ (mem_pinsAt hb z)))
        ⟨y.1, y.2.1⟩
      have len : (wipe σ (own.map (·.2))).length = σ8.length := by rw [← hw8, wipe_length]
      refine ⟨m', hm, i + 1, H', (J'.unpinned (pins := [])).weak len (fun j v z => ?_), T.keep _ _ _ st7 fun b hb o z => (still b hb o z).1, fun b hb => ?_, w'⟩
      · rw [← hw8] at z
        exact (wipe_some z).1
      · obtain ⟨o, z, _⟩ := T.obj _ _ st7 b hb
        exact (still b hb o z).2
    cases b with
    | false =>
      simp only [Bool.false_eq_true, if_false] at q9 ⊢
      exact fin I9 q9
    | true =>
      simp only [if_true] at q9 ⊢
      refine thnF (pk.run _ s9 σ8 H9 _ I9 q9) fun _ s10 ⟨yk, H10, I10, r10, q10⟩ => thnF (pe.run _ s10 σ8 H10 _ I10 q10) fun _ s11 ⟨yv, H11, I11, r11, H12, put, nx⟩ => ?_
      exact store_dict (X := X.blk s3 Hb scope ce fp) hu I11 put r10 r11 fun s12 I12 => fin I12 nx
end
end Dct
set_option maxHeartbeats 4000000
/-! == of two dicts whose keys are tuples and whose values are all True. -/
namespace EqT
open PySem PySem.W PySem.Calls PyProof.Rows PySem.Spec
section
variable {prog : Program} {w : World} {K : Type} [DecidableEq K] {knd : HeapKind prog w K} {A : Around} {E : Value → Shared → Prop} {s : Shared}
/-- each key of the one is a key of the other -/
def allIn (xs ys : List (K × Addr × Value)) : Bool := xs.all fun x => (atKey ys x.1).isSome
theorem same_pairs {nm : String} {a b : Addr} {xs ys : List (K × Addr × Value)} {Q : Bool → Shared → Prop} (ha : (a == sysModules) = false) (hb : (b == sysModules) = false) (hu : knd.room A) (da : s.heap.DictOfH knd a xs) (db : s.heap.DictOfH knd b ys)
    (ta : ∀ x ∈ xs, x.2.2 = .bool true) (tb : ∀ y ∈ ys, y.2.2 = .bool true) (h : Q (xs.length == ys.length && allIn xs ys) s) : wpAny (model prog w) A (Builtin.Dict.samePairs nm a b) Q E s := by
  obtain ⟨oa, es, ep, hoa, _, hda, hea, hka, _⟩ := id da
  obtain ⟨ob, fs, fp, hob, _, hdb, heb, hkb, ndb⟩ := id db
  have la : es.size = xs.length := size_of_entries hea
  have lb : fs.size = ys.length := size_of_entries heb
  unfold Builtin.Dict.samePairs Builtin.Dict.showsAll
  rw [if_neg (show ¬ (a == sysModules) = true by rw [ha]; exact Bool.false_ne_true), if_neg (show ¬ (b == sysModules) = true by rw [hb]; exact Bool.false_ne_true)]
  refine wpAny_bind (wpAny_pure (wpAny_bind (wpAny_pure (wpAny_bind (wpAny_dictEntries hoa hda ?_)))))
  dsimp only
  refine wpAny_bind (wpAny_dictEntries hob hdb ?_)
  rw [← la, ← lb] at h
  by_cases sz : es.size = fs.size
  case neg =>
    rw [if_pos (by simpa using sz)]
    have no : (es.size == fs.size) = false := by simpa using sz
    rw [no, Bool.false_and] at h
    exact wpAny_bind (wpAny_rule (wpAny_pure h))
  case pos =>
    have h1 : Q (allIn xs ys) s := by simpa [sz] using h
    rw [if_neg (by rw [sz]; simp)]
    refine wpAny_bind (wpAny_dictEpoch hoa hda (wpAny_bind ?_))
    rw [Std.Legacy.Range.forIn_eq_forIn_range']
    simp only [Std.Legacy.Range.size, Nat.sub_zero, Nat.add_sub_cancel, Nat.div_one]
    refine wpAny_forIn_list _ (fun rest q s1 => s1 = s ∧ q = (none, ()) ∧ ∃ i, rest = List.range' i (es.size - i) ∧ i ≤ es.size ∧ allIn xs ys = allIn (xs.drop i) ys) _ ?turn ?done _ _ ⟨rfl, rfl, 0, by simp, Nat.zero_le _, by simp⟩
    case done =>
      rintro q s1 ⟨rfl, rfl, i, hr, hi, hp⟩
      have at_end : i = es.size := by
        rcases Nat.lt_or_ge i es.size with c | c
        · have e : es.size - i = (es.size - (i + 1)) + 1 := by omega
          rw [e, List.range'_succ] at hr
          exact nomatch hr
        · exact Nat.le_antisymm hi c
      refine wpAny_pure ?_
      rw [at_end, la, List.drop_length] at hp
      rw [hp] at h1
      exact h1
    case turn =>
      rintro j rest q s1 ⟨rfl, rfl, i, hr, hi, hp⟩
      have lt : i < es.size := by
        rcases Nat.lt_or_ge i es.size with c | c
        · exact c
        · rw [Nat.sub_eq_zero_of_le c] at hr
          simp at hr
      obtain ⟨rfl, hrest⟩ : j = i ∧ rest = List.range' (i + 1) (es.size - (i + 1)) := by
        have e : es.size - i = (es.size - (i + 1)) + 1 := by omega
        rw [e, List.range'_succ] at hr
        injection hr with r1 r2
        exact ⟨r1, r2⟩
      have ltx : j < xs.length := by rw [← la]; exact lt
      obtain ⟨k, q, v, hx⟩ : ∃ k q v, xs[j] = (k, q, v) := ⟨_, _, _, rfl⟩
      have mem : (k, q, v) ∈ xs := by rw [← hx]; exact List.getElem_mem ltx
      have hv : v = .bool true := ta _ mem
      subst hv
      have hkey : knd.is s1.heap k q := hka _ mem
      have ent : es[j]? = some ⟨knd.hash k, .ref q, .bool true⟩ := by
        rw [entry_at hea j, List.getElem?_eq_getElem ltx, hx]
        rfl
      have dr : xs.drop j = (k, q, .bool true) :: xs.drop (j + 1) := by rw [← hx]; exact List.drop_eq_getElem_cons ltx
      rw [dr] at hp
      refine wpAny_bind (wpAny_dictEntries hoa hda ?_)
      rw [ent]
      show wpAny _ _ (holding [Value.ref q, Value.bool true] _ >>= _) _ _ _
      refine wpAny_bind (wpAny_holding (wpAny_bind (wpAny_dictFind_heap hu hkey hob hdb heb hkb ndb (fun no => ?_) fun f y hf => ?_)))
      · have gone : atKey ys k = none := atKey_none_of_get no
        have r : allIn ((k, q, .bool true) :: xs.drop (j + 1)) ys = false := by simp [allIn, gone]
        rw [hp, r] at h1
        refine wpAny_pure ?_
        show wpAny _ _ (if (!false) = true then _ else _) _ _ _
        rw [if_pos (by decide)]
        exact wpAny_pure (wpAny_pure h1)
      · obtain ⟨q2, v2⟩ := y
        have here : atKey ys k = some (q2, v2) := atKey_of_get ndb hf
        have hv2 : v2 = .bool true := tb (k, q2, v2) (List.mem_of_getElem? hf)
        subst hv2
        have r : allIn ((k, q, .bool true) :: xs.drop (j + 1)) ys = allIn (xs.drop (j + 1)) ys := by simp [allIn, here]
        have ent2 : fs[f]? = some ⟨knd.hash k, .ref q2, .bool true⟩ := by
          rw [entry_at heb f, hf]
          rfl
        refine wpAny_bind (wpAny_dictEntries hob hdb ?_)
        rw [ent2]
        refine wpAny_holding ((SeqAt.EqAt.bool_bool true true) prog w _ _ ?_)
        show wpAny _ _ (if (!true) = true then _ else _) _ _ _
        rw [if_neg (by decide)]
        refine wpAny_bind (wpAny_dictEpoch hoa hda ?_)
        rw [if_neg (by simp)]
        exact wpAny_pure ⟨rfl, rfl, j + 1, hrest, lt, by rw [hp, r]⟩
theorem eq_dicts {a b : Addr} {xs ys : List (K × Addr × Value)} {Q : Value → Shared → Prop} (ha : (a == sysModules) = false) (hb : (b == sysModules) = false) (hA : A.units < cLine) (hu : knd.room A.in1) (da : s.heap.DictOfH knd a xs) (db : s.heap.DictOfH knd b ys)
    (ta : ∀ x ∈ xs, x.2.2 = .bool true) (tb : ∀ y ∈ ys, y.2.2 = .bool true) (h : Q (.bool (xs.length == ys.length && allIn xs ys)) s) : wpAny (model prog w) A (richCompare .Eq (.ref a) (.ref b)) Q E s := by
  refine wpAny_richCompare_same_room (op := .Eq) da.typeIs db.typeIs PySem.F.slot_dict_eq (wpAny_call_entry PySem.F.slot_dict_eq da.typeIs PySem.F.entry_dict_eq ?_ (PySem.F.args_dict_eq_2 _ _)) hA
  show wpAny _ _ (Builtin.Dict.dictSlotArgs "__eq__" ⟨[.ref a, .ref b], []⟩ >>= _) _ _ s
  refine wpAny_bind ?_
  unfold Builtin.Dict.dictSlotArgs
  refine wpAny_bind (wpAny_notOrdered_dict da.typeIs ?_)
  show wpAny _ _ (pure (Value.ref a, Value.ref b)) _ _ s
  refine wpAny_pure (wpAny_bind (wpAny_isInstance (T := "dict") db.typeIs PySem.F.sub_dict_dict ?_))
  simp only [Bool.not_true, Bool.false_eq_true, if_false]
  refine wpAny_bind (wpAny_pure (wpAny_bind (wpAny_pure (wpAny_bind (same_pairs ha hb hu da db ta tb ?_)))))
  exact wpAny_pure ⟨_, rfl, (fun x => nomatch x), by simpa using h⟩
theorem allIn_keys (xs ys : List (K × Addr × Value)) : allIn xs ys = (xs.map (·.1)).all fun k => (ys.map (·.1)).any fun j => decide (j = k) := by
  unfold allIn atKey
  rw [List.all_map]
  congr 1
  funext x
  simp only [Function.comp, List.any_map, Option.isSome_map, List.find?_isSome]
  rw [Bool.eq_iff_iff]
  simp [List.any_eq_true]
end
open L2 Evl Pd
/-- the reading: two dicts of tuple keys, all values True -/
def rEqT : R2 := fun x y H Q => ∃ (a b : Addr) (ks ls : List (List Key)), x = .ref a ∧ y = .ref b ∧ H a = some (.dT (ks.map fun k => (k, V.bl true))) ∧ H b = some (.dT (ls.map fun k => (k, V.bl true))) ∧
  Q (.bl (ks.length == ls.length && ks.all fun k => ls.any fun j => decide (j = k))) H
theorem keys_of {H : Hp} {kvs : List (List Key × V)} {xs : List (List Key × Addr × Value)} (r : KT H kvs xs) : kvs.map (·.1) = xs.map (·.1) := by
  unfold KT at r
  induction r with
  | nil => rfl
  | cons h _ ih => rw [List.map_cons, List.map_cons, ih, h.1]
theorem vals_true {H : Hp} {ks : List (List Key)} {xs : List (List Key × Addr × Value)} (r : KT H (ks.map fun k => (k, V.bl true)) xs) : ∀ x ∈ xs, x.2.2 = .bool true := by
  unfold KT at r
  induction ks generalizing xs with
  | nil => cases r; exact fun _ h => nomatch h
  | cons k ks ih =>
    cases r with
    | cons h t =>
      intro x hx
      rcases List.mem_cons.mp hx with rfl | hx
      · exact h.2.2
      · exact ih t x hx
theorem op_eqT {X : Cx} (hu : X.A.units + 1 < cLine) : OpR X (compareOp .Eq) rEqT := by
  intro pins s σ H x y v u Q I rx ry h
  obtain ⟨a, b, ks, ls, rfl, rfl, ea, eb, q⟩ := h
  obtain rfl : v = Value.ref a := rx
  obtain rfl : u = Value.ref b := ry
  obtain ⟨_, ha, xs, ra, da⟩ := dt_of I.hok ea
  obtain ⟨_, hb, ys, rb, db⟩ := dt_of I.hok eb
  have ka : xs.map (·.1) = ks := (keys_of ra).symm.trans (by rw [List.map_map]; exact List.map_id' ks)
  have kb : ys.map (·.1) = ls := (keys_of rb).symm.trans (by rw [List.map_map]; exact List.map_id' ls)
  refine eq_dicts (knd := tupleKind (mixKind X.prog X.w)) ha hb (Nat.lt_of_succ_lt hu) (tupleKind_room_in1 hu) da db (vals_true ra) (vals_true rb) ?_
  rw [allIn_keys, ka, kb, ← List.length_map (f := fun x => x.1) (as := xs), ← List.length_map (f := fun x => x.1) (as := ys), ka, kb]
  exact ⟨.bl _, H, I, rfl, q⟩
end EqT
set_option maxHeartbeats 4000000
/-! Defs that are called where no repr is under way: what str(x) of a tuple needs to know. -/
namespace Gd
open PySem PySem.Spec PyProof.Rows L2 Evl Pd
structure FnG (P : Program) (w : World) (K : PySem.W.Frag) (mg : Str → Option Value) (base : Heap) (CX : CXT) (k : Nat) (f : Addr) (fd : FuncData) (ps : List Str) (sp : Sp) : Prop where
  len : ∀ vs H Q E, sp vs H Q E → vs.length = ps.length
  run : ∀ (A : Around) (outer : List Env) (s : Shared) (H : Hp) (args : Args) (us : List Value) (vs : List V) (Q : VK) (E : XK), Room k A → A.guards = some [] → Env0 P w K mg base A outer s H → BindsTo s fd args (ps.zip us) → Vals vs us → sp vs H Q E →
    codeAny (model P w) A (.call (.ref f) args) (CR CX outer P w H s Q E) s
section
variable {P : Program} {w : World} {K : PySem.W.Frag} {mg : Str → Option Value} {base : Heap} {CX : CXT} {k : Nat} {f : Addr} {fd : FuncData} {ps : List Str} {sp : Sp}
theorem FnG.of (F : FnOk P w K mg base CX k f fd ps sp) : FnG P w K mg base CX k f fd ps sp := ⟨F.len, fun A outer s H args us vs Q E hr _ => F.run A outer s H args us vs Q E hr⟩
theorem okG {x qual : Str} {st : Stmt} {N : List Str} (F : Fun K x qual st f fd) (S : FnScope N ps (defScope st)) (len : ∀ vs H Q E, sp vs H Q E → vs.length = ps.length)
    (body : ∀ (cdv : Value) (A : Around) (outer : List Env) (s : Shared) (H : Hp) (vs : List V) (Q : VK) (E : XK), Room k (A.deeper (envOfC qual (defScope st) s.heap.objs.size f cdv)) → (A.deeper (envOfC qual (defScope st) s.heap.objs.size f cdv)).guards = some [] → sp vs H Q E →
      ∃ t, PSs (cxOf CX0 P w K mg base N qual (defScope st) f cdv A outer s H E).nox (defBody st) t ∧ t { nx := fun _ H' => Q .non H', rt := Q } (start N vs) H) : FnG P w K mg base CX0 (k + 1) f fd ps sp := by
  obtain ⟨oc, od, kV, doc, pm, an, cdv, ct, osl, rfl, lk, hcd⟩ := F.ex
  refine ⟨len, fun A outer s H args us vs Q E hr hg e0 hb r hsp => ?_⟩
  have hl := len _ _ _ _ hsp
  have KX : K.In s.heap := e0.mod.kin.keeps fun b o e => (e0.bs b o e).1
  have lim : s.heap.NoLimit := e0.mod.nolimit.keeps fun b o e => (e0.bs b o e).1
  have kinds : ∀ y ∈ ps.zip us, (defScope st).names.lookup y.1 = some .local ∨ ((defScope st).names.lookup y.1 = some .cell ∧ ((cellsFrom (s.heap.objs.size + 1) (defScope st).names []).lookup y.1).isSome = true) := fun ⟨n, v⟩ hy =>
    (S.par n (List.of_mem_zip hy).1).imp id fun q => ⟨q, PySem.W.cellsFrom_some _ _ _ (.inl q)⟩
  refine codeAny_call_function hr.depth (KX _ _ lk) rfl S.co S.gen rfl (PySem.W.codeRec_of KX hcd) (hb _ _ _ _ (wpAny_newFunctionEnv_cells S.kind kinds fun env he s1 x => ?_))
  subst he
  refine ⟨lim.keeps x.toInCall.keep, codeAny_func ?_⟩
  obtain ⟨t, ht, hq⟩ := body cdv A outer s H vs Q E (hr.deeper _) hg hsp
  have I : Inv (cxOf CX0 P w K mg base N qual (defScope st) f cdv A outer s H E) [] (start N vs) H s1 := inv_start S hr.hd e0 hl r x
  refine wpAny_mono (ht.nox.run [] s1 (start N vs) H _ I hq) (fun fl s' hs => ?_) fun e s' hs => hs
  have fin : ∀ {σ' : L2.St} {H' : Hp} {v : V} {u : Value}, Inv (cxOf CX0 P w K mg base N qual (defScope st) f cdv A outer s H E) [] σ' H' s' → RelV v u → Q v H' → CE outer P w H s Q u s' := fun {σ' H' v u} J rv q => ⟨v, H', J.os, J.bare, J.base, J.hok, rv, q⟩
  cases fl with
  | ret u =>
    obtain ⟨v, σ', H', J, rv, q⟩ := hs
    exact fin J rv q
  | next =>
    obtain ⟨σ', H', J, q⟩ := hs
    exact fin (v := V.non) (u := Value.none) J rfl q
  | brk =>
    obtain ⟨_, _, _, q⟩ := hs
    exact False.elim q
  | cont =>
    obtain ⟨_, _, _, q⟩ := hs
    exact False.elim q
end
section
variable {X : Cx} {CX : CXT} {k : Nat} {f C : Addr} {fd : FuncData} {ps : List Str} {sp : Sp} {E : XK} {x m : Str} {p pos apos : Pos} {e o : Expr} {es : List Expr} {ta : TE} {t : TA}
theorem run_fnG {pins : List (Addr × Obj)} {σ : L2.St} {H : Hp} {s : Shared} {Q : VK} {us : List Value} {vs : List V} (F : FnG X.prog X.w X.K X.mg X.base CX k f fd ps sp) (hr : Room k X.A) (hg : X.A.guards = some []) (hb : L2.Binds X.K fd ps []) (hx : Passes CX X E)
    (I : Inv X pins σ H s) (r : Vals vs us) (h : sp vs H Q E) : wpAny (model X.prog X.w) X.A (call (.ref f) us) (EP X pins σ Q) X.xe s := by
  have hl : (us ++ []).length = ps.length := by rw [List.append_nil, ← Vals.length r]; exact F.len _ _ _ _ h
  have b := hb s us I.kIn hl
  rw [List.append_nil] at b
  refine wpAny_call (codeAny_mono (F.run X.A X.stack s H ⟨us, []⟩ us vs Q E hr hg I.env0 b r h) fun r s' hq => ?_)
  cases r with
  | error e => exact hx pins σ H s e s' I hq
  | ok fl =>
    cases fl with
    | ret u => exact I.after hq
    | next => exact hq.elim
    | brk => exact hq.elim
    | cont => exact hq.elim
theorem pe_callG (F : FnG X.prog X.w X.K X.mg X.base CX k f fd ps sp) (hr : Room k X.A) (hu : X.A.guards = some []) (hg : Gl X x) (hm : X.mg x = some (.ref f)) (hk : PySem.W.keepIn X.K (.ref f) = true) (hb : L2.Binds X.K fd ps []) (hx : Passes CX X E) (ha : PA X (e :: es) t)
    (hdb : (x == ("__debug__" : Str)) = false := by decide) (he : starEach (e :: es) X.env = (false, eval e X.env) :: starEach es X.env := by rfl) (hpl : (backTo pos (starEach es X.env)).any (·.1) = false := by rfl) : PE X (.Call (.Name x p) (e :: es) [] pos) (tCall sp [] E t) := by
  refine ⟨fun pins s σ H Q I h => ?_⟩
  refine wpAny_Call_Name_kw (ld_glob I hg hm ?_ hdb)
  refine PySem.W.callWith_K (h₀ := X.base) I.ok.mod.kin hk (thn (ha.run pos pins s σ H _ I h) fun us s1 ⟨vs, H1, I1, r, q⟩ => ⟨I1.kIn, ?_⟩) he hpl
  have q' : sp (vs ++ []) H1 Q E := q
  rw [List.append_nil] at q'
  exact run_fnG F hr hu hb hx I1 r q'
theorem pe_meth0G {pl : Sem Bool} (he : PE X o ta) (c : Cls X.K C) (hm : Meth X.K C m f) (F : FnG X.prog X.w X.K X.mg X.base CX k f fd ps sp) (hr : Room k X.A) (hg : X.A.guards = some []) (hb : L2.Binds X.K fd ps []) (hx : Passes CX X E)
    (ht : eval (.Call (.Attribute o m apos) [] [] pos) X.env = (do
      let ov ← eval o X.env
      standAt apos.atName
      let (f, first) ← holding [ov] (getMethod ov m pl)
      callWith pos f first (backTo pos (starEach [] X.env)) (backToKw pos (keywordEach [] X.env))) := by rfl) : PE X (.Call (.Attribute o m apos) [] [] pos) (tMeth C m sp [] E ta tNil) := by
  refine ⟨fun pins s σ H Q I h => ?_⟩
  refine PySem.W.methodCall_KW (pl := pl) (thn (he.run pins s σ H _ I h) fun u s1 ⟨y, H1, I1, rx, a, dx, fs, ex, ea, l, q⟩ => ?_) ht
  subst ex
  obtain rfl : u = Value.ref a := rx
  refine getmeth_ok I1 ea c hm l ?_
  exact PySem.W.callWith_K0 (first := [.ref a]) I1.kIn hm.kp (run_fnG (us := [.ref a]) (vs := [.ref a]) F hr hg hb hx I1 (.cons rfl .nil) q)
end
/-! ### the law's own call -/
section
variable {P : Program} {w : World} {K : PySem.W.Frag} {mg mb : Str → Option Value} {k : Nat} {fa a : Addr} {fd : FuncData} {x : Str} {sp : Sp} {s1 : Shared} {vs : List Value} {ns : List Int}
/-- one abstract heap in which at most the script is told -/
theorem law_in (KX : K.In s1.heap) (hns : s1.heap.Ns mainGlobals mg) (hb : s1.heap.Ns builtinsNs mb) (hbb : ∀ x : Str, x ≠ "__name__" → mb x = bootBuiltins x) (lim : s1.heap.NoLimit) (hg : s1.gens = #[]) (ha : s1.heap.get? a = some { cls := .type "list", data := .seq vs.toArray })
    (hr : Room k callerA) (F : ∀ base : Heap, K.In base → base.Ns mainGlobals mg → FnG P w K mg base CX0 k fa fd [x] sp) (hbind : ∀ (s : Shared) (u : Value), BindsTo s fd ⟨[u], []⟩ [(x, u)])
    {H : Hp} (hO : Only H) (hok : HOk P w H s1.heap) (hA : ∀ b, H b ≠ none → b = a) (hK : H a ≠ none → K.lookup a = none) (hsp : sp [.ref a] H (fun v _ => v = .bl true) fun _ _ _ => False) :
    codeAny (model P w) callerA (.call (.ref fa) ⟨[.ref a], []⟩) (fun r s' => r = .ok (.ret (.bool true)) ∧ OldK s1.heap s'.heap ∧ s'.os = s1.os ∧ AllBare s'.gens) s1 := by
  have free : ∀ {b : Addr} {o : Obj} {es : Array DictEntry} {ep : Nat}, s1.heap.get? b = some o → o.data = .dict es ep → H b = none := fun {b o es ep} e d => by
    cases q : H b with
    | none => rfl
    | some u =>
      have eb : b = a := hA b (by rw [q]; simp)
      rw [eb, ha] at e
      cases e
      exact nomatch (show Data.seq vs.toArray _ = Data.dict es ep from d)
  have nsK : ∀ {b : Addr} {m : Str → Option Value}, s1.heap.Ns b m → (hidT s1.heap H).Ns b m := fun {b m} ⟨o, es, ep, e, d, r⟩ => ⟨o, es, ep, hidT_get e (free e d), d, r⟩
  have KB : K.In (hidT s1.heap H) := fun b o e => hidT_get (KX b o e) (by
    cases q : H b with
    | none => rfl
    | some u =>
      have eb : b = a := hA b (by rw [q]; simp)
      subst eb
      rw [hK (by rw [q]; simp)] at e
      cases e)
  have M : Mod K mg (hidT s1.heap H) := ⟨KB, nsK hns, ⟨mb, nsK hb, hbb⟩, let ⟨mc, h1, h2⟩ := lim; ⟨mc, nsK h1, h2⟩⟩
  have e0 : Env0 P w K mg (hidT s1.heap H) callerA [] s1 H := ⟨rfl, M, fun b o e => of_hidT e, Nat.le_of_eq (hidT_size _ _), trivial, fun b hb => absurd (show b ∈ ([] : List Addr) from hb) (by simp), hok, .of_eq hg⟩
  refine codeAny_mono ((F _ KB (nsK hns)).run callerA [] s1 H ⟨[.ref a], []⟩ [.ref a] [.ref a] _ _ hr rfl e0 (hbind s1 (.ref a)) (.cons rfl .nil) hsp) fun r s' h => ?_
  cases r with
  | error e => exact h.elim
  | ok fl =>
    cases fl with
    | next => exact h.elim
    | brk => exact h.elim
    | cont => exact h.elim
    | ret u =>
      obtain ⟨v, H', os, bare, un, hok', rv, q⟩ := h
      have ev : v = .bl true := q
      subst ev
      obtain rfl : u = Value.bool true := rv
      refine ⟨rfl, OldK.of_keep fun b o e => ?_, os, bare⟩
      cases q : H b with
      | none => exact un.keep b o e q (by intro z; exact absurd (show b ∈ ([] : List Addr) from z) (by simp)) (by simp)
      | some u =>
        rcases hO b with z | ⟨ob, xs, z⟩
        · rw [q] at z
          cases z
        · obtain ⟨e1, _⟩ := hok b _ z
          obtain ⟨e2, _⟩ := hok' b _ (un.frzs b ob _ z)
          rw [e] at e1
          cases e1
          exact e2
theorem law_callG (KX : K.In s1.heap) (hns : s1.heap.Ns mainGlobals mg) (hb : s1.heap.Ns builtinsNs mb) (hbb : ∀ x : Str, x ≠ "__name__" → mb x = bootBuiltins x) (lim : s1.heap.NoLimit) (hg : s1.gens = #[]) (ha : s1.heap.get? a = some { cls := .type "list", data := .seq vs.toArray })
    (hi : IntsAre vs ns) (hl : ns.length ≤ sizeLine) (hr : Room k callerA) (F : ∀ base : Heap, K.In base → base.Ns mainGlobals mg → FnG P w K mg base CX0 k fa fd [x] sp) (hbind : ∀ (s : Shared) (u : Value), BindsTo s fd ⟨[u], []⟩ [(x, u)])
    (hsp : ∀ H : Hp, Only H → SqL K H a (ns.map V.int) → sp [.ref a] H (fun v _ => v = .bl true) fun _ _ _ => False) :
    codeAny (model P w) callerA (.call (.ref fa) ⟨[.ref a], []⟩) (fun r s' => r = .ok (.ret (.bool true)) ∧ OldK s1.heap s'.heap ∧ s'.os = s1.os ∧ AllBare s'.gens) s1 := by
  have rv := vals_ints hi
  cases hk : K.lookup a with
  | some o =>
    have e := KX a o hk
    rw [ha] at e
    cases e
    have hS : SqL K (fun _ => none) a (ns.map V.int) := .inr ⟨_, vs.toArray, _, hk, rfl, rfl, rfl, by rw [List.size_toArray, hi.length]; exact hl, by simpa using rv⟩
    exact law_in KX hns hb hbb lim hg ha hr F hbind (H := fun _ => none) (fun _ => .inl rfl) (fun b u z => nomatch (show (none : Option HO) = some u from z)) (fun b z => absurd rfl z) (fun z => absurd rfl z) (hsp _ (fun _ => .inl rfl) hS)
  | none =>
    have at_a : ∀ {b : Addr}, b = a → (fun b => if b = a then some (HO.frz { cls := .type "list", data := .seq vs.toArray } (.lst (ns.map V.int))) else none) b = some (HO.frz { cls := .type "list", data := .seq vs.toArray } (.lst (ns.map V.int))) := fun {b} e => if_pos e
    have off : ∀ {b : Addr}, b ≠ a → (fun b => if b = a then some (HO.frz { cls := .type "list", data := .seq vs.toArray } (.lst (ns.map V.int))) else none) b = none := fun {b} e => if_neg e
    generalize (fun b => if b = a then some (HO.frz { cls := .type "list", data := .seq vs.toArray } (.lst (ns.map V.int))) else none) = H at at_a off
    have only : Only H := fun b => by
      by_cases e : b = a
      · exact .inr ⟨_, _, at_a e⟩
      · exact .inl (off e)
    refine law_in KX hns hb hbb lim hg ha hr F hbind only (fun b u z => ?_) (fun b z => ?_) (fun _ => hk) (hsp _ only (.inl (.inr ⟨_, at_a rfl⟩)))
    · by_cases e : b = a
      · subst e
        have z' := (at_a rfl).symm.trans z
        cases z'
        exact ⟨ha, by rw [List.length_map]; exact hl, vs, _, rv, ha⟩
      · rw [off e] at z
        cases z
    · by_cases e : b = a
      · exact e
      · exact absurd (off e) z
end
theorem walk_ofG {l : PySem.W.OpenLaw} {n k : Nat} {q : Program} {loose : List Str} {XP : (Str → Option Value) → Heap → Prop} {YP : World → Heap → Prop} {d : DefRec} {K : Params → PySem.W.Frag} {sp : World → Sp} {x : Str} (hn : l.most = some n) (hn2 : n ≤ sizeLine) (hdf : d.params.defaults = []) (hr : Room k callerA)
    (hY : ∀ (w : World) (h : Heap), YP w h → (K w.params).In h)
    (F : ∀ (w : World) (mg : Str → Option Value) (fa : Addr) (h : Heap), (K w.params).In h → h.Ns mainGlobals mg → mg d.name = some (.ref fa) →
      ∃ fd : FuncData, (∀ (s : Shared) (u : Value), BindsTo s fd ⟨[u], []⟩ [(x, u)]) ∧ ∀ base : Heap, (K w.params).In base → base.Ns mainGlobals mg → FnG l.prog w (K w.params) mg base CX0 k fa fd [x] (sp w))
    (hsp : ∀ (w : World) (H : Hp) (a : Addr) (ns : List Int), ns.length ≤ n → Only H → SqL (K w.params) H a (ns.map V.int) → sp w [.ref a] H (fun v _ => v = .bl true) fun _ _ _ => False) :
    PySem.W.WalkO q loose XP YP l.row.toRowW d [] (fun f vs => PySem.call f vs) := by
  refine Att.attach_call hn hdf fun w s0 s1 mg mb fa o pm cd doc a vs ns G Y ho hd hcd hmg hobj hints hlen hg => ?_
  have KX := hY w _ Y
  obtain ⟨fd, hb, hF⟩ := F w mg fa _ KX G.T.g hmg
  exact law_callG KX G.T.g G.T.b G.T.builtins G.T.nolimit hg hobj hints (Nat.le_trans hlen hn2) hr hF hb fun H hO hS => hsp w H a ns hlen hO hS
end Gd
set_option maxHeartbeats 4000000
/-! sorted(xs, key=str): xs a list of texts and tuples. -/
namespace Gd
open PySem PySem.Spec PyProof.Rows L2 Evl Pd
/-- str(x) -/
def txt : PyData → Str
  | .str s => s
  | d => d.shown
/-- what can be shown here: a text, or a tuple that is not too deep -/
def Showy (d : PyData) : Prop := (∃ s, d = .str s) ∨ ((∃ ds, d = .tuple ds) ∧ d.showable = true ∧ d.hasDict = false ∧ d.depth ≤ 40 ∧ d.shown.length ≤ sizeLine)
/-- by their texts, those that are alike in their order -/
def bySt (l : List (V × PyData)) : List (V × PyData) := l.mergeSort (PySem.W.dataLe false fun b : V × PyData => PyData.str (txt b.2))
def rSortS (K : PySem.W.Frag) : List V → List V → Hp → VK → Prop := fun vs zs H Q => ∃ (a : Addr) (xs : List V) (ds : List PyData), vs = [.ref a] ∧ zs = [.ty "str"] ∧ SqL K H a xs ∧ DpAll K H xs ds ∧ (∀ d ∈ ds, Showy d) ∧
  ∀ p, H p = none → Q (.ref p) (upd H p (.lst ((bySt (xs.zip ds)).map (·.1))))
theorem dpAll_len {K : PySem.W.Frag} {H : Hp} : ∀ {xs : List V} {ds : List PyData}, DpAll K H xs ds → xs.length = ds.length
  | _, _, .nil => rfl
  | _, _, .cons _ h => congrArg Nat.succ (dpAll_len h)
theorem each_of {K : PySem.W.Frag} {H : Hp} : ∀ {xs : List V} {ds : List PyData} {us : List Value}, DpAll K H xs ds → Vals xs us → PySem.W.EachIs (fun (v : Value) (b : V × PyData) => RelV b.1 v ∧ Dp K H b.1 b.2) us (xs.zip ds)
  | [], [], us, _, r => by cases r; exact .nil
  | x :: xs, d :: ds, us, .cons h t, r => by
    cases r with
    | cons a b => exact .cons ⟨a, h⟩ (each_of t b)
theorem vals_of {K : PySem.W.Frag} {H : Hp} : ∀ {us : List Value} {bs : List (V × PyData)}, PySem.W.EachIs (fun (v : Value) (b : V × PyData) => RelV b.1 v ∧ Dp K H b.1 b.2) us bs → Vals (bs.map (·.1)) us
  | _, _, .nil => .nil
  | _, _, .cons h t => .cons h.1 (vals_of t)
section
variable {X : Cx}
theorem cr_sortS (hg : X.A.guards = some []) (hu : X.A.units + 64 < cLine) : CallRK X (.builtin "sorted") [Str.ofString "key"] (rSortS X.K) := by
  intro pins s σ H xs zs us ws Q I r rz h
  obtain ⟨a, ys, ds, rfl, rfl, hS, hd, hs, q⟩ := h
  cases r with
  | cons ra rn =>
    cases rn
    cases ra
    cases rz with
    | cons rk rm =>
      cases rm
      cases rk
      obtain ⟨its, rv, pl, hl⟩ := I.list hS
      have ln : (ys.zip ds).length = ys.length := by rw [List.length_zip, dpAll_len hd, Nat.min_self]
      show wpAny _ _ (call (.builtin "sorted") [.ref a] [(Str.ofString "key", .type "str")]) _ _ _
      refine PySem.W.sorted_key_data (b := false) (fun b : V × PyData => PyData.str (txt b.2)) pl.isList (each_of hd rv) (PySem.W.AllAlike.of fun _ _ => by simp [PySem.W.alike]) (PySem.W.Sortable.others fun _ => ⟨(fun z => nomatch z), fun _ z => nomatch z⟩) (by rw [ln]; exact hl)
        (fun b _ => by have e : (PyData.str (txt b.2)).depth = 0 := by simp [PyData.depth]
                       rw [e]; omega) (ksk_s1 _ _) (fun _ => ksk_l1 _ _) (fun _ => rfl) (fun v b hb hm h tk kp => ?_) fun out c h' tk kp hn hD hl2 eo => ?_
      · obtain ⟨y, d⟩ := b
        obtain ⟨rb, hb⟩ := hb
        have hsd := hs d (List.of_mem_zip hm).2
        obtain ⟨as, rd⟩ := Dp.reads I d y v hb rb
        rcases hsd with ⟨t, rfl⟩ | ⟨⟨es, rfl⟩, s1, s2, s3, s4⟩
        · cases rd
          exact PySem.P.str_of_str ⟨h, tk, rfl, fun _ _ z => z, .str _ _⟩
        · cases rd with
          | tuple h1 h2 h3 h4 =>
            refine str_of_reads (.tuple h1 h2 h3 h4) s1 (PyData.noDict_hsm s2) hg (by show X.A.units + 1 + 1 + _ < cLine; omega) kp (fun h2 u tk2 k2 => ⟨h2, tk2, rfl, k2, .str _ _⟩) s4
      · have vo := vals_of eo
        have lo : ((bySt (ys.zip ds)).map (·.1)).length ≤ sizeLine := by
          unfold bySt
          rw [List.length_map, List.length_mergeSort, ln]
          exact hl
        have ok : ObjOk X.prog X.w (upd H (s.heap.objs.size + 1) (.lst ((bySt (ys.zip ds)).map (·.1)))) h' (s.heap.objs.size + 1) (.lst ((bySt (ys.zip ds)).map (·.1))) := ⟨lo, out, c, vo, hD⟩
        exact ⟨.ref (s.heap.objs.size + 1), _, I.laid (t' := tk) kp (Nat.le_succ _) ok, rfl, q _ (I.hok.fresh (Nat.le_succ _))⟩
end
end Gd
set_option maxHeartbeats 4000000
/-! A def of the top that may be called: its promise with all that a call asks. Questions about data. -/
namespace Us
open PySem PySem.Spec PyProof.Rows L2 Evl Pd Gd
/-- a def of the top -/
structure Dn (K : PySem.W.Frag) (mg : Str → Option Value) (x : Str) (st : Stmt) : Prop where
  ex : ∃ f fd, mg x = some (.ref f) ∧ PySem.W.keepIn K (.ref f) = true ∧ Fun K x x st f fd
structure Use (P : Program) (w : World) (K : PySem.W.Frag) (mg : Str → Option Value) (base : Heap) (k : Nat) (x : Str) (ps : List Str) (sp : Sp) : Prop where
  ex : ∃ f fd, mg x = some (.ref f) ∧ PySem.W.keepIn K (.ref f) = true ∧ L2.Binds K fd ps [] ∧ FnOk P w K mg base CX0 k f fd ps sp
/-- a def that stands under another name -/
structure DnY (K : PySem.W.Frag) (mg : Str → Option Value) (x y : Str) (st : Stmt) : Prop where
  ex : ∃ f fd, mg x = some (.ref f) ∧ PySem.W.keepIn K (.ref f) = true ∧ Fun K y y st f fd
section
variable {P : Program} {w : World} {K : PySem.W.Frag} {mg : Str → Option Value} {base : Heap} {k : Nat} {x y : Str} {st : Stmt} {ps N : List Str} {sp : Sp}
theorem useY_of (D : DnY K mg x y st) (S : FnScope N ps (defScope st)) (hb : ∀ (f : Addr) (fd : FuncData), Fun K y y st f fd → L2.Binds K fd ps []) (len : ∀ vs H Q E, sp vs H Q E → vs.length = ps.length)
    (body : ∀ (f : Addr) (cdv : Value) (A : Around) (outer : List Env) (s : Shared) (H : Hp) (vs : List V) (Q : VK) (E : XK), Room k (A.deeper (envOfC y (defScope st) s.heap.objs.size f cdv)) → sp vs H Q E →
      ∃ t, PSs (cxOf CX0 P w K mg base N y (defScope st) f cdv A outer s H E).nox (defBody st) t ∧ t { nx := fun _ H' => Q .non H', rt := Q } (start N vs) H) : Use P w K mg base (k + 1) x ps sp := by
  obtain ⟨f, fd, g, kp, F⟩ := D.ex
  exact ⟨f, fd, g, kp, hb f fd F, F.ok S len (body f)⟩
theorem use_of (D : Dn K mg x st) (S : FnScope N ps (defScope st)) (hb : ∀ (f : Addr) (fd : FuncData), Fun K x x st f fd → L2.Binds K fd ps []) (len : ∀ vs H Q E, sp vs H Q E → vs.length = ps.length)
    (body : ∀ (f : Addr) (cdv : Value) (A : Around) (outer : List Env) (s : Shared) (H : Hp) (vs : List V) (Q : VK) (E : XK), Room k (A.deeper (envOfC x (defScope st) s.heap.objs.size f cdv)) → sp vs H Q E →
      ∃ t, PSs (cxOf CX0 P w K mg base N x (defScope st) f cdv A outer s H E).nox (defBody st) t ∧ t { nx := fun _ H' => Q .non H', rt := Q } (start N vs) H) : Use P w K mg base (k + 1) x ps sp := by
  obtain ⟨f, fd, g, kp, F⟩ := D.ex
  exact ⟨f, fd, g, kp, hb f fd F, F.ok S len (body f)⟩
end
section
variable {X : Cx} {k j : Nat} {x : Str} {ps : List Str} {sp : Sp} {p pos : Pos} {e : Expr} {es : List Expr} {t : TA}
theorem pe_use (U : Use X.prog X.w X.K X.mg X.base k x ps sp) (hr : Room j X.A) (hk : k ≤ j) (hg : Gl X x) (ha : PA X (e :: es) t)
    (hdb : (x == ("__debug__" : Str)) = false := by decide) (he : starEach (e :: es) X.env = (false, eval e X.env) :: starEach es X.env := by rfl) (hpl : (backTo pos (starEach es X.env)).any (·.1) = false := by rfl) :
    PE X (.Call (.Name x p) (e :: es) [] pos) (tCall sp [] (fun _ _ _ => False) t) := by
  obtain ⟨f, fd, m, kp, b, F⟩ := U.ex
  exact pe_call F (hr.mono hk) hg m kp b .nil pass0 ha hdb he hpl
theorem pe_isi {a : Expr} {ta : TE} {n : Str} {nm : String} {pn : Pos} (hg : Gl X "isinstance") (hm : X.mg "isinstance" = none) (hg2 : Gl X n) (hm2 : X.mg n = none) (hb : bootBuiltins n = some (.type nm)) (ha : PE X a ta)
    (h1 : starEach [a, .Name n pn] X.env = (false, eval a X.env) :: starEach [.Name n pn] X.env := by rfl)
    (hne : n ≠ "__name__" := by decide) (hd : (n == ("__debug__" : Str)) = false := by decide) : PE X (.Call (.Name "isinstance" p) [a, .Name n pn] [] pos) (tCB (rIsi X.K) (tCons ta (tCons (tC (.ty nm)) tNil))) :=
  pe_callB (he := h1) call_isi hg hm boot_isinstance (pa_cons (hs := h1) ha (pa_cons (pe_bltn hg2 hm2 hb rfl hne hd) pa_nil))
end
/-! ### questions about data -/
def isI : PyData → Bool
  | .int _ => true
  | _ => false
def isB : PyData → Bool
  | .bool _ => true
  | _ => false
def isS : PyData → Bool
  | .str _ => true
  | _ => false
def isL : PyData → Bool
  | .list _ => true
  | _ => false
def isT : PyData → Bool
  | .tuple _ => true
  | _ => false
def betw (lo hi : Int) : PyData → Bool
  | .int i => decide (lo ≤ i) && decide (i ≤ hi)
  | _ => false
def isRow (m : Int) : PyData → Bool
  | .tuple ds => decide ((ds.length : Int) = m)
  | _ => false
def isPair (lo hi : Int) : PyData → Bool
  | .tuple [a, b] => betw lo hi a && betw lo hi b
  | _ => false
theorem kit_int (d : PyData) : kitB (tyD d) "int" = some (isI d || isB d) := by cases d <;> kernel_rfl
theorem kit_bool (d : PyData) : kitB (tyD d) "bool" = some (isB d) := by cases d <;> kernel_rfl
theorem kit_str (d : PyData) : kitB (tyD d) "str" = some (isS d) := by cases d <;> kernel_rfl
theorem kit_list (d : PyData) : kitB (tyD d) "list" = some (isL d) := by cases d <;> kernel_rfl
theorem kit_tuple (d : PyData) : kitB (tyD d) "tuple" = some (isT d) := by cases d <;> kernel_rfl
end Us
namespace Tp
open PySem
def top (i : Nat) : Stmt := PySem.Challenge.pw_answeredsettings_k04_pacts_made_and_read.main.body.getD i (.Pass ⟨0, 0, 0, 0⟩)
def clsBody : Stmt → List Stmt
  | .ClassDef (body := b) .. => b
  | _ => []
abbrev s_is_integer : Stmt := top 2
abbrev s_is_between : Stmt := top 3
abbrev s_is_one_of : Stmt := top 4
abbrev s_is_word : Stmt := top 5
abbrev s_is_row : Stmt := top 6
abbrev s_is_pair : Stmt := top 7
abbrev c_PactError : Stmt := top 9
abbrev c_BadArgument : Stmt := top 10
abbrev m_BadArgument___init__ : Stmt := (clsBody (top 10)).getD 0 (.Pass ⟨0, 0, 0, 0⟩)
abbrev c_BadSetting : Stmt := top 11
abbrev m_BadSetting___init__ : Stmt := (clsBody (top 11)).getD 0 (.Pass ⟨0, 0, 0, 0⟩)
abbrev c_BadEnd : Stmt := top 12
abbrev m_BadEnd___init__ : Stmt := (clsBody (top 12)).getD 0 (.Pass ⟨0, 0, 0, 0⟩)
abbrev c_BadPact : Stmt := top 13
abbrev m_BadPact___init__ : Stmt := (clsBody (top 13)).getD 0 (.Pass ⟨0, 0, 0, 0⟩)
abbrev c_BadName : Stmt := top 14
abbrev m_BadName___init__ : Stmt := (clsBody (top 14)).getD 0 (.Pass ⟨0, 0, 0, 0⟩)
abbrev c_BadDeed : Stmt := top 15
abbrev m_BadDeed___init__ : Stmt := (clsBody (top 15)).getD 0 (.Pass ⟨0, 0, 0, 0⟩)
abbrev c_BadState : Stmt := top 16
abbrev m_BadState___init__ : Stmt := (clsBody (top 16)).getD 0 (.Pass ⟨0, 0, 0, 0⟩)
abbrev c_BadMove : Stmt := top 17
abbrev m_BadMove___init__ : Stmt := (clsBody (top 17)).getD 0 (.Pass ⟨0, 0, 0, 0⟩)
abbrev c_BadScript : Stmt := top 18
abbrev m_BadScript___init__ : Stmt := (clsBody (top 18)).getD 0 (.Pass ⟨0, 0, 0, 0⟩)
abbrev c_BadClaim : Stmt := top 19
abbrev m_BadClaim___init__ : Stmt := (clsBody (top 19)).getD 0 (.Pass ⟨0, 0, 0, 0⟩)
abbrev s_are_changes : Stmt := top 23
abbrev s_is_hold : Stmt := top 24
abbrev s_wrong_part : Stmt := top 25
abbrev c_Setting : Stmt := top 27
abbrev m_Setting___init__ : Stmt := (clsBody (top 27)).getD 0 (.Pass ⟨0, 0, 0, 0⟩)
abbrev m_Setting_kind : Stmt := (clsBody (top 27)).getD 1 (.Pass ⟨0, 0, 0, 0⟩)
abbrev m_Setting_size : Stmt := (clsBody (top 27)).getD 2 (.Pass ⟨0, 0, 0, 0⟩)
abbrev m_Setting_start : Stmt := (clsBody (top 27)).getD 3 (.Pass ⟨0, 0, 0, 0⟩)
abbrev m_Setting_hold : Stmt := (clsBody (top 27)).getD 4 (.Pass ⟨0, 0, 0, 0⟩)
abbrev m_Setting_changes : Stmt := (clsBody (top 27)).getD 5 (.Pass ⟨0, 0, 0, 0⟩)
abbrev m_Setting_lets : Stmt := (clsBody (top 27)).getD 6 (.Pass ⟨0, 0, 0, 0⟩)
abbrev m_Setting___eq__ : Stmt := (clsBody (top 27)).getD 7 (.Pass ⟨0, 0, 0, 0⟩)
abbrev s_are_settings : Stmt := top 32
abbrev s_are_uses : Stmt := top 33
abbrev s_are_pairs : Stmt := top 34
abbrev s_are_rules : Stmt := top 35
abbrev s_wrong_part_ends : Stmt := top 36
abbrev s_check_deed : Stmt := top 38
abbrev c_End : Stmt := top 39
abbrev m_End___init__ : Stmt := (clsBody (top 39)).getD 0 (.Pass ⟨0, 0, 0, 0⟩)
abbrev m_End_most : Stmt := (clsBody (top 39)).getD 1 (.Pass ⟨0, 0, 0, 0⟩)
abbrev m_End_words : Stmt := (clsBody (top 39)).getD 2 (.Pass ⟨0, 0, 0, 0⟩)
abbrev m_End_used_words : Stmt := (clsBody (top 39)).getD 3 (.Pass ⟨0, 0, 0, 0⟩)
abbrev m_End_setting : Stmt := (clsBody (top 39)).getD 4 (.Pass ⟨0, 0, 0, 0⟩)
abbrev m_End_use : Stmt := (clsBody (top 39)).getD 5 (.Pass ⟨0, 0, 0, 0⟩)
abbrev m_End_pairs : Stmt := (clsBody (top 39)).getD 6 (.Pass ⟨0, 0, 0, 0⟩)
abbrev m_End_lets : Stmt := (clsBody (top 39)).getD 7 (.Pass ⟨0, 0, 0, 0⟩)
abbrev m_End_with_pairs : Stmt := (clsBody (top 39)).getD 8 (.Pass ⟨0, 0, 0, 0⟩)
abbrev m_End___eq__ : Stmt := (clsBody (top 39)).getD 9 (.Pass ⟨0, 0, 0, 0⟩)
abbrev s_wrong_part_pacts : Stmt := top 42
abbrev s_check_name : Stmt := top 44
abbrev c_Pact : Stmt := top 45
abbrev m_Pact___init__ : Stmt := (clsBody (top 45)).getD 0 (.Pass ⟨0, 0, 0, 0⟩)
abbrev m_Pact_left : Stmt := (clsBody (top 45)).getD 1 (.Pass ⟨0, 0, 0, 0⟩)
abbrev m_Pact_right : Stmt := (clsBody (top 45)).getD 2 (.Pass ⟨0, 0, 0, 0⟩)
abbrev m_Pact_end : Stmt := (clsBody (top 45)).getD 3 (.Pass ⟨0, 0, 0, 0⟩)
abbrev m_Pact_other : Stmt := (clsBody (top 45)).getD 4 (.Pass ⟨0, 0, 0, 0⟩)
abbrev m_Pact_words : Stmt := (clsBody (top 45)).getD 5 (.Pass ⟨0, 0, 0, 0⟩)
abbrev m_Pact_owner : Stmt := (clsBody (top 45)).getD 6 (.Pass ⟨0, 0, 0, 0⟩)
abbrev m_Pact_setting : Stmt := (clsBody (top 45)).getD 7 (.Pass ⟨0, 0, 0, 0⟩)
abbrev m_Pact_with_end : Stmt := (clsBody (top 45)).getD 8 (.Pass ⟨0, 0, 0, 0⟩)
abbrev m_Pact___eq__ : Stmt := (clsBody (top 45)).getD 9 (.Pass ⟨0, 0, 0, 0⟩)
abbrev s__law_numbers : Stmt := top 47
abbrev s__law_pool : Stmt := top 48
abbrev s__law_draw : Stmt := top 49
abbrev s__law_pick : Stmt := top 50
abbrev s__law_sorted : Stmt := top 51
abbrev s__law_changes : Stmt := top 52
abbrev s__law_setting : Stmt := top 53
abbrev s__law_some_pairs : Stmt := top 54
abbrev s__law_end : Stmt := top 55
abbrev s__law_pact : Stmt := top 56
abbrev s__law_made_end : Stmt := top 57
abbrev s__law_made : Stmt := top 58
abbrev s__law_turn_pool : Stmt := top 59
abbrev s__law_bad : Stmt := top 60
abbrev s__law_odd : Stmt := top 61
abbrev s__law_owners : Stmt := top 62
abbrev s_law : Stmt := top 63
end Tp
set_option maxHeartbeats 4000000
namespace Chk
open PySem PySem.Spec PyProof.Rows L2 Evl Pd Gd Us
abbrev sIsInteger : Stmt := Tp.s_is_integer
abbrev sIsBetween : Stmt := Tp.s_is_between
abbrev sIsOneOf : Stmt := Tp.s_is_one_of
abbrev sIsRow : Stmt := Tp.s_is_row
abbrev sIsPair : Stmt := Tp.s_is_pair
/-- one answer, True or False, and nothing that stood is touched -/
def spAsk (K : PySem.W.Frag) (n : Nat) (R : List V → Hp → Bool → Prop) : Sp := fun vs H Q _ => vs.length = n ∧ ∃ b, R vs H b ∧ ∀ H', Ex H H' → Q (.bl b) H'
structure Bc (mg : Str → Option Value) : Prop where
  isi : mg "isinstance" = none
  int : mg "int" = none
  bool : mg "bool" = none
  str : mg "str" = none
  list : mg "list" = none
  tuple : mg "tuple" = none
  len : mg "len" = none
  all : mg "all" = none
theorem boot_int : bootBuiltins "int" = some (.type "int") := by decide +kernel
theorem boot_bool : bootBuiltins "bool" = some (.type "bool") := by decide +kernel
theorem boot_str : bootBuiltins "str" = some (.type "str") := by decide +kernel
theorem boot_tuple : bootBuiltins "tuple" = some (.type "tuple") := by decide +kernel
theorem boot_list : bootBuiltins "list" = some (.type "list") := by decide +kernel
section
variable {σ : L2.St} {H : Hp} {te : TE} {K : PySem.W.Frag} {d : PyData}
/-- isinstance(x, T) by the answer -/
theorem ev_isi {n : String} {b : Bool} (k : kitB (tyD d) n = some b) (h : EvP te σ H (De K d)) : Ev (tCB (rIsi K) (tCons te (tCons (tC (.ty n)) tNil))) σ H (.bl b) := de_isi k h ev_c
theorem ev_ask {n : Nat} {R : List V → Hp → Bool → Prop} {b : Bool} {E : XK} {tr : TA} {Ps : List PV} (hn : Ps.length = n) (h : EvPs tr σ H Ps) (hr : ∀ xs H1, Ex H H1 → AllP Ps xs H1 → R xs H1 b) : Ev (tCall (spAsk K n R) [] E tr) σ H (.bl b) := fun H1 a Q q =>
  h H1 a _ fun xs H2 e ps => by
    rw [List.append_nil]
    exact ⟨ps.len.trans hn, b, hr xs H2 (a.trans e) ps, fun H3 e2 => q H3 (e.trans e2)⟩
end
def rInteger (K : PySem.W.Frag) : List V → Hp → Bool → Prop := fun vs H b => ∃ x d, vs = [x] ∧ Dp K H x d ∧ b = isI d
def rBetween (K : PySem.W.Frag) : List V → Hp → Bool → Prop := fun vs H b => ∃ x d lo hi, vs = [x, .int lo, .int hi] ∧ Dp K H x d ∧ b = betw lo hi d
def rOneOf (K : PySem.W.Frag) : List V → Hp → Bool → Prop := fun vs H b => ∃ x d p xs, vs = [x, .ref p] ∧ Dp K H x d ∧ SqT K H p xs ∧ xs.all flatV = true ∧ b = (isS d && inV x xs)
def rRow (K : PySem.W.Frag) : List V → Hp → Bool → Prop := fun vs H b => ∃ x d m, vs = [x, .int m] ∧ Dp K H x d ∧ b = isRow m d
def rPair (K : PySem.W.Frag) : List V → Hp → Bool → Prop := fun vs H b => ∃ x d lo hi, vs = [x, .int lo, .int hi] ∧ Dp K H x d ∧ b = isPair lo hi d
theorem scInteger : FnScope ["value"] ["value"] (defScope sIsInteger) := ⟨rfl, rfl, rfl, by decide +kernel, rfl, by decide +kernel, by decide +kernel⟩
theorem scBetween : FnScope ["value", "low", "high"] ["value", "low", "high"] (defScope sIsBetween) := ⟨rfl, rfl, rfl, by decide +kernel, rfl, by decide +kernel, by decide +kernel⟩
theorem scOneOf : FnScope ["value", "texts"] ["value", "texts"] (defScope sIsOneOf) := ⟨rfl, rfl, rfl, by decide +kernel, rfl, by decide +kernel, by decide +kernel⟩
theorem scRow : FnScope ["value", "many"] ["value", "many"] (defScope sIsRow) := ⟨rfl, rfl, rfl, by decide +kernel, rfl, by decide +kernel, by decide +kernel⟩
theorem scPair : FnScope ["value", "low", "high"] ["value", "low", "high"] (defScope sIsPair) := ⟨rfl, rfl, rfl, by decide +kernel, rfl, by decide +kernel, by decide +kernel⟩
section
variable {σ : L2.St} {H : Hp} {te : TE} {K : PySem.W.Frag} {ds : List PyData} {d : PyData}
theorem dpAll_get {K : PySem.W.Frag} {H : Hp} : ∀ {xs : List V} {ds : List PyData} {i : Nat} {d : PyData}, DpAll K H xs ds → ds[i]? = some d → ∃ x, xs[i]? = some x ∧ Dp K H x d
  | _, _, 0, _, .cons h _, e => by cases e; exact ⟨_, rfl, h⟩
  | _, _, i + 1, _, .cons _ t, e => by
    obtain ⟨x, h1, h2⟩ := dpAll_get (i := i) t e
    exact ⟨x, h1, h2⟩
theorem atI_nat {xs : List V} {i : Nat} {x : V} (h : xs[i]? = some x) : atI xs (i : Int) = some x := by
  unfold atI
  rw [ixN_nat (List.getElem?_eq_some_iff.mp h).1]
  exact h
theorem ev_lenT (h : EvP te σ H (De K (.tuple ds))) : Ev (tCB (rLenS K) (tCons te tNil)) σ H (.int (ds.length : Int)) := fun H1 a Q q =>
  h H1 a _ fun x H2 e p => by
    cases p with
    | tup hS hd => exact ⟨_, _, rfl, .inr hS, by rw [dpAll_len hd]; exact q H2 e⟩
theorem ev_lenL (h : EvP te σ H (De K (.list ds))) : Ev (tCB (rLenS K) (tCons te tNil)) σ H (.int (ds.length : Int)) := fun H1 a Q q =>
  h H1 a _ fun x H2 e p => by
    cases p with
    | lst hS hd => exact ⟨_, _, rfl, .inl hS, by rw [dpAll_len hd]; exact q H2 e⟩
theorem p_ixT {i : Nat} {ti : TE} (h : EvP te σ H (De K (.tuple ds))) (hi : Ev ti σ H (.int (i : Int))) (e : ds[i]? = some d) : EvP (tOp (rIxT K) te ti) σ H (De K d) := fun H1 a Q q =>
  h H1 a _ fun x H2 e1 p => hi H2 (a.trans e1) _ fun H3 e2 => by
    cases p with
    | tup hS hd =>
      obtain ⟨y, h1, h2⟩ := dpAll_get hd e
      exact ⟨_, _, _, y, rfl, rfl, ex_t e2 hS, atI_nat h1, q y H3 (e1.trans e2) (dp_up e2 h2)⟩
theorem p_ixL {i : Nat} {ti : TE} (h : EvP te σ H (De K (.list ds))) (hi : Ev ti σ H (.int (i : Int))) (e : ds[i]? = some d) : EvP (tOp (rIxL K) te ti) σ H (De K d) := fun H1 a Q q =>
  h H1 a _ fun x H2 e1 p => hi H2 (a.trans e1) _ fun H3 e2 => by
    cases p with
    | lst hS hd =>
      obtain ⟨y, h1, h2⟩ := dpAll_get hd e
      exact ⟨_, _, _, y, rfl, rfl, ex_l e2 hS, atI_nat h1, q y H3 (e1.trans e2) (dp_up e2 h2)⟩
/-- a data that is an int is that int -/
theorem dp_int {x : V} {i : Int} (h : Dp K H x (.int i)) : x = .int i := by cases h; rfl
theorem dp_str {x : V} {s : Str} (h : Dp K H x (.str s)) : x = .str s := by cases h; rfl
theorem ev_chain {ta tb tc : TE} {i j k : Int} (h1 : Ev ta σ H (.int i)) (h2 : Ev tb σ H (.int j)) (h3 : Ev tc σ H (.int k)) :
    Ev (tChain (rI0 fun i j => .bl (decide (i ≤ j))) (rI0 fun i j => .bl (decide (i ≤ j))) ta tb tc) σ H (.bl (decide (i ≤ j) && decide (j ≤ k))) := fun H1 a Q q =>
  h1 H1 a _ fun H2 e2 => h2 H2 (a.trans e2) _ fun H3 e3 => ⟨i, j, rfl, rfl, _, rfl, by
    by_cases c : i ≤ j
    · rw [if_pos (decide_eq_true c)]
      exact h3 H3 (a.trans (e2.trans e3)) _ fun H4 e4 => ⟨j, k, rfl, rfl, by
        have := q H4 (e2.trans (e3.trans e4))
        rw [decide_eq_true c, Bool.true_and] at this
        exact this⟩
    · rw [if_neg (by simpa using c)]
      have := q H3 (e2.trans e3)
      rw [decide_eq_false c, Bool.false_and] at this
      exact this⟩
end
section
variable {P : Program} {w : World} {K : PySem.W.Frag} {mg : Str → Option Value} {base : Heap}
theorem ok_integer (D : Dn K mg "is_integer" sIsInteger) (B : Bc mg) : Use P w K mg base 1 "is_integer" ["value"] (spAsk K 1 (rInteger K)) := by
  refine use_of D scInteger (fun f fd F => F.binds (ps := ["value"]) fun _ _ _ _ _ _ us hl => match us, hl with | [_], _ => rfl) (fun vs H Q E h => h.1) (fun f cdv A outer s H vs Q E hr h => ?_)
  obtain ⟨_, b, ⟨x, d, rfl, hd, rfl⟩, q⟩ := h
  refine ⟨_, pss_one (ps_ret (pe_and (pe_isi (by rfl) B.isi (by rfl) B.int boot_int (pv 0)) (pe_one (pe_not (pe_isi (by rfl) B.isi (by rfl) B.bool boot_bool (pv 0)))))), ?_⟩
  have hx : EvP (tVar 0) (L2.start ["value"] [x]) H (De K d) := p_var rfl mo_de hd
  exact s_ret (ev_is (ev_andV (ev_isi (kit_int d) hx) fun _ => ev_notV (ev_isi (kit_bool d) hx)) (by cases d <;> rfl)) fun H1 e => q H1 e
theorem ok_between (D : Dn K mg "is_between" sIsBetween) (U : Use P w K mg base 1 "is_integer" ["value"] (spAsk K 1 (rInteger K))) : Use P w K mg base 2 "is_between" ["value", "low", "high"] (spAsk K 3 (rBetween K)) := by
  refine use_of D scBetween (fun f fd F => F.binds (ps := ["value", "low", "high"]) fun _ _ _ _ _ _ us hl => match us, hl with | [_, _, _], _ => rfl) (fun vs H Q E h => h.1) (fun f cdv A outer s H vs Q E hr h => ?_)
  obtain ⟨_, b, ⟨x, d, lo, hi, rfl, hd, rfl⟩, q⟩ := h
  refine ⟨_, pss_one (ps_ret (pe_and (pe_use U hr (by decide) (by rfl) (pa_cons (pv 0) pa_nil)) (pe_one (pe_chain op_le op_le (pv 1) (pv 0) (pv 2))))), ?_⟩
  have hx : EvP (tVar 0) (L2.start ["value", "low", "high"] [x, .int lo, .int hi]) H (De K d) := p_var rfl mo_de hd
  refine s_ret (ev_is (ev_andV (a := isI d) (b := betw lo hi d) (ev_ask (Ps := [De K d]) rfl (ps_cons mo_de hx ps_nil) fun xs H1 e ps => ?_) fun c => ?_) (by cases d <;> rfl)) fun H1 e => q H1 e
  · match xs, ps with
    | [y], ⟨py, _⟩ => exact ⟨y, d, rfl, py, rfl⟩
  · cases d with
    | int i => exact ev_chain (ev_var rfl) (ev_var (by rw [dp_int hd]; rfl)) (ev_var rfl)
    | _ => cases c
theorem ok_oneOf (D : Dn K mg "is_one_of" sIsOneOf) (B : Bc mg) : Use P w K mg base 1 "is_one_of" ["value", "texts"] (spAsk K 2 (rOneOf K)) := by
  refine use_of D scOneOf (fun f fd F => F.binds (ps := ["value", "texts"]) fun _ _ _ _ _ _ us hl => match us, hl with | [_, _], _ => rfl) (fun vs H Q E h => h.1) (fun f cdv A outer s H vs Q E hr h => ?_)
  obtain ⟨_, b, ⟨x, d, p, xs, rfl, hd, hp, hf, rfl⟩, q⟩ := h
  refine ⟨_, pss_one (ps_ret (pe_and (pe_isi (by rfl) B.isi (by rfl) B.str boot_str (pv 0)) (pe_one (pe_cmpR op_in_seq (pv 0) (pv 1) (by rfl))))), ?_⟩
  have hx : EvP (tVar 0) (L2.start ["value", "texts"] [x, .ref p]) H (De K d) := p_var rfl mo_de hd
  refine s_ret (ev_andV (ev_isi (kit_str d) hx) fun c => ?_) fun H1 e => q H1 e
  cases d with
  | str s =>
    rw [dp_str hd]
    exact ev_op (ev_var rfl) (ev_var rfl) (rv_isT hp rfl hf)
  | _ => cases c
theorem ok_row (D : Dn K mg "is_row" sIsRow) (B : Bc mg) : Use P w K mg base 1 "is_row" ["value", "many"] (spAsk K 2 (rRow K)) := by
  refine use_of D scRow (fun f fd F => F.binds (ps := ["value", "many"]) fun _ _ _ _ _ _ us hl => match us, hl with | [_, _], _ => rfl) (fun vs H Q E h => h.1) (fun f cdv A outer s H vs Q E hr h => ?_)
  obtain ⟨_, b, ⟨x, d, m, rfl, hd, rfl⟩, q⟩ := h
  refine ⟨_, pss_one (ps_ret (pe_and (pe_isi (by rfl) B.isi (by rfl) B.tuple boot_tuple (pv 0)) (pe_one (pe_cmpR op_eq (pe_callB call_len_seq (by rfl) B.len PySem.boot_len (pa_cons (pv 0) pa_nil)) (pv 1) (nomark _))))), ?_⟩
  have hx : EvP (tVar 0) (L2.start ["value", "many"] [x, .int m]) H (De K d) := p_var rfl mo_de hd
  refine s_ret (ev_is (ev_andV (a := isT d) (b := isRow m d) (ev_isi (kit_tuple d) hx) fun c => ?_) (by cases d <;> rfl)) fun H1 e => q H1 e
  cases d with
  | tuple ds => exact ev_is (ev_op (ev_lenT hx) (ev_var rfl) (rv_eq rfl)) (congrArg V.bl (by simp [isRow]))
  | _ => cases c
theorem ok_pair (D : Dn K mg "is_pair" sIsPair) (UR : Use P w K mg base 1 "is_row" ["value", "many"] (spAsk K 2 (rRow K))) (UB : Use P w K mg base 2 "is_between" ["value", "low", "high"] (spAsk K 3 (rBetween K))) : Use P w K mg base 3 "is_pair" ["value", "low", "high"] (spAsk K 3 (rPair K)) := by
  refine use_of D scPair (fun f fd F => F.binds (ps := ["value", "low", "high"]) fun _ _ _ _ _ _ us hl => match us, hl with | [_, _, _], _ => rfl) (fun vs H Q E h => h.1) (fun f cdv A outer s H vs Q E hr h => ?_)
  obtain ⟨_, b, ⟨x, d, lo, hi, rfl, hd, rfl⟩, q⟩ := h
  refine ⟨_, pss_one (ps_ret (pe_and (pe_use UR hr (by decide) (by rfl) (pa_cons (pv 0) (pa_cons pe_int pa_nil)))
    (pe_and (pe_use UB hr (by decide) (by rfl) (pa_cons (pe_ix ix_tup (pv 0) pe_int (fun _ _ => rfl)) (pa_cons (pv 1) (pa_cons (pv 2) pa_nil))))
    (pe_one (pe_use UB hr (by decide) (by rfl) (pa_cons (pe_ix ix_tup (pv 0) pe_int (fun _ _ => rfl)) (pa_cons (pv 1) (pa_cons (pv 2) pa_nil)))))))), ?_⟩
  have hx : EvP (tVar 0) (L2.start ["value", "low", "high"] [x, .int lo, .int hi]) H (De K d) := p_var rfl mo_de hd
  have bt : ∀ {te : TE} {a : PyData}, EvP te (L2.start ["value", "low", "high"] [x, .int lo, .int hi]) H (De K a) → Ev (tCall (spAsk K 3 (rBetween K)) [] (fun _ _ _ => False) (tCons te (tCons (tVar 1) (tCons (tVar 2) tNil)))) (L2.start ["value", "low", "high"] [x, .int lo, .int hi]) H (.bl (betw lo hi a)) := fun {te a} h =>
    ev_ask (Ps := [De K a, Is (.int lo), Is (.int hi)]) rfl (ps_cons mo_de h (ps_cons mo_is (p_is rfl) (ps_cons mo_is (p_is rfl) ps_nil))) fun xs H1 e ps => by
      match xs, ps with
      | [y, z, u], ⟨py, pz, pu, _⟩ => exact ⟨y, a, lo, hi, by rw [show z = _ from pz, show u = _ from pu], py, rfl⟩
  refine s_ret (ev_is (ev_andV (a := isRow 2 d) (b := isPair lo hi d) (ev_ask (Ps := [De K d, Is (.int 2)]) rfl (ps_cons mo_de hx (ps_cons mo_is p_c ps_nil)) fun xs H1 e ps => ?_) fun c => ?_) ?_) fun H1 e => q H1 e
  · match xs, ps with
    | [y, z], ⟨py, pz, _⟩ => exact ⟨y, d, 2, by rw [show z = _ from pz], py, rfl⟩
  · match d, c with
    | .tuple [a, b], _ => exact ev_andV (bt (p_ixT (i := 0) hx ev_c rfl)) fun _ => bt (p_ixT (i := 1) hx ev_c rfl)
    | .tuple [], c => simp [isRow] at c
    | .tuple [_], c => simp [isRow] at c
    | .tuple (_ :: _ :: _ :: _), c => simp [isRow] at c; omega
  · match d with
    | .tuple [a, b] => rfl
    | .tuple [] => rfl
    | .tuple [_] => rfl
    | .tuple (_ :: _ :: _ :: _) => simp [isPair]
    | .none => rfl
    | .bool _ => rfl
    | .int _ => rfl
    | .str _ => rfl
    | .list _ => rfl
    | .dict _ => rfl
end
end Chk
set_option maxHeartbeats 4000000
namespace Chk
open PySem PySem.Spec PyProof.Rows L2 Evl Pd Gd Us
abbrev sAreChanges : Stmt := Tp.s_are_changes
abbrev sIsHold : Stmt := Tp.s_is_hold
abbrev sWrongPart : Stmt := Tp.s_wrong_part
def twoD : PyData → Bool
  | .tuple [.int i, .int j] => !decide (i = j)
  | _ => false
def okCh (size : Int) (p : PyData) : Bool := isPair 0 (size - 1) p && twoD p
def okChs (size : Int) : PyData → Bool
  | .list ds => ds.all (okCh size)
  | _ => false
/-- a list in it is not long -/
def Short (d : PyData) : Prop := ∀ ds, d = .list ds → ds.length ≤ 30000
def rChanges (K : PySem.W.Frag) : List V → Hp → Bool → Prop := fun vs H b => ∃ x d n, vs = [x, .int n] ∧ Dp K H x d ∧ Short d ∧ b = okChs n d
theorem scChanges : FnScope ["value", "size", "pair"] ["value", "size"] (defScope sAreChanges) := ⟨rfl, rfl, rfl, by decide +kernel, rfl, by decide +kernel, by decide +kernel⟩
section
variable {σ : L2.St} {H : Hp} {te : TE} {K : PySem.W.Frag}
theorem given_map (v : Nat → V) : ∀ {n : Nat}, given n (fun _ => true) v = (List.range n).map v
  | 0 => rfl
  | n + 1 => by rw [given_yes rfl, given_map v, List.range_succ, List.map_append]; rfl
/-- all(..) of a list of answers -/
theorem ev_all {bs : List Bool} (h : EvL te σ H (bs.map V.bl)) : Ev (tCB (rAll K) (tCons te tNil)) σ H (.bl (bs.all id)) := fun H1 a Q q =>
  h H1 a _ fun p H2 _ e hp => ⟨p, bs, rfl, sq_of hp, q H2 e⟩
end
section
variable {P : Program} {w : World} {K : PySem.W.Frag} {mg : Str → Option Value} {base : Heap}
theorem dpAll_at {H : Hp} : ∀ {xs : List V} {ds : List PyData} {i : Nat} {x : V}, DpAll K H xs ds → xs[i]? = some x → ∃ d, ds[i]? = some d ∧ Dp K H x d
  | _, _, 0, _, .cons h _, e => by cases e; exact ⟨_, rfl, h⟩
  | _, _, i + 1, _, .cons _ t, e => by
    obtain ⟨x, h1, h2⟩ := dpAll_at (i := i) t e
    exact ⟨x, h1, h2⟩
theorem range_all {α : Type} (f : α → Bool) (ds : List α) : ((List.range ds.length).map fun i => (ds[i]?.elim false f)).all id = ds.all f := by
  have : ((List.range ds.length).map fun i => (ds[i]?.elim false f)) = ds.map f := by
    refine List.ext_getElem (by simp) fun i h1 h2 => ?_
    have hi : i < ds.length := by simpa using h1
    simp [hi]
  rw [this, List.all_map]
  rfl
theorem isPair_ints {lo hi : Int} {d : PyData} (h : isPair lo hi d = true) : ∃ i j, d = .tuple [.int i, .int j] := by
  unfold isPair at h
  split at h
  · rw [Bool.and_eq_true] at h
    unfold betw at h
    split at h
    · have h2 := h.2
      split at h2
      · exact ⟨_, _, rfl⟩
      · cases h2
    · cases h.1
  · cases h
theorem ok_changes (D : Dn K mg "are_changes" sAreChanges) (B : Bc mg) (UP : Use P w K mg base 3 "is_pair" ["value", "low", "high"] (spAsk K 3 (rPair K))) : Use P w K mg base 4 "are_changes" ["value", "size"] (spAsk K 2 (rChanges K)) := by
  refine use_of D scChanges (fun f fd F => F.binds (ps := ["value", "size"]) fun _ _ _ _ _ _ us hl => match us, hl with | [_, _], _ => rfl) (fun vs H Q E h => h.1) (fun f cdv A outer s H vs Q E hr h => ?_)
  obtain ⟨_, b, ⟨x, d, n, rfl, hd, hs, rfl⟩, q⟩ := h
  refine ⟨_, pss_cons (ps_if (pt_not (pt_val (pe_isi (by rfl) B.isi (by rfl) B.list boot_list (pv 0)))) (pss_one (ps_ret pe_bl)) pss_nil)
    (pss_one (ps_ret (pe_callB (cr_all rfl) (by rfl) B.all (by decide +kernel) (pa_cons (pe_lc (own := [("pair", 2)]) (g := gName 2) (tt := tYes) rfl scChanges.nd (pi_list (pv 0)) (blkOk_by (N := ["value", "size", "pair"]) (sc := defScope sAreChanges) (by decide +kernel))
      (fun _ _ _ _ _ => pg_name (i := 2) scChanges.nd rfl (Or.inl rfl)) (fun _ _ _ _ _ => pts_nil)
      (fun _ _ _ _ _ => pe_and (pe_use UP hr (by decide) (by rfl) (pa_cons (pv 2) (pa_cons pe_int (pa_cons (pe_op op_sub (pv 1) pe_int) pa_nil)))) (pe_one (pe_cmpR op_ne (pe_ix (r := rIxT K) ix_tup (pv 2) pe_int (fun _ _ => rfl)) (pe_ix (r := rIxT K) ix_tup (pv 2) pe_int (fun _ _ => rfl)) (nomark _))))) pa_nil)))), ?_⟩
  have hx : EvP (tVar 0) (L2.start ["value", "size", "pair"] [x, .int n]) H (De K d) := p_var rfl mo_de hd
  refine q_when (et_not (et_B (ev_isi (kit_list d) hx))) (fun c H1 e1 => ?_) fun c H1 e1 => ?_
  · refine s_ret ev_c fun H2 e2 => ?_
    have : okChs n d = false := by cases d <;> first | rfl | cases c
    rw [← this]
    exact q H2 (e1.trans e2)
  · match d, hd, hs, c with
    | .list ds, .lst (a := a) (xs := xs) hS hD, hs, _ =>
      refine s_ret (ev_all (bs := (List.range xs.length).map fun i => (ds[i]?.elim false (okCh n))) (fun H2 e2 Q' q' => el_lcL (K := K) (xs := xs) (a := a) (fun _ => true) (fun i => V.bl (ds[i]?.elim false (okCh n))) (ev_var rfl) (ex_l e1 hS) ?len (fun _ => rfl) ?tt ?te H2 e2 Q' ?fin)) fun H2 e2 => ?_
      case len => have := hs ds rfl; rw [dpAll_len hD]; omega
      case tt => exact fun i y H3 e3 hy H4 e4 Q4 q4 => q4 H4 (Ex.refl _)
      case fin => intro p H3 h1 h2 h3; exact q' p H3 h1 h2 (by rw [h3, given_map, List.map_map]; rfl)
      case te =>
        intro i y H3 e3 hy _
        obtain ⟨e, he, hy2⟩ := dpAll_at hD hy
        rw [he]
        have py : ∀ {j : Nat} {σ : L2.St}, σ[j]? = some (some y) → EvP (tVar j) σ H3 (De K e) := fun h => p_var h mo_de (dp_up (e1.trans e3) hy2)
        refine ev_andV (a := isPair 0 (n - 1) e) (b := twoD e) (ev_ask (Ps := [De K e, Is (.int 0), Is (.int (n - 1))]) rfl (ps_cons mo_de (py rfl) (ps_cons mo_is p_c (ps_cons mo_is (.of (ev_op (ev_var rfl) ev_c rv_I0) mo_is rfl) ps_nil))) fun zs H4 e4 ps => ?_) fun c => ?_
        · match zs, ps with
          | [y, z, u], ⟨py, pz, pu, _⟩ => exact ⟨y, e, 0, n - 1, by rw [show z = _ from pz, show u = _ from pu], py, rfl⟩
        · obtain ⟨i, j, rfl⟩ := isPair_ints c
          have a0 : ∀ σ : L2.St, σ[2]? = some (some y) → Ev (tOp (rIxT K) (tVar 2) (tC (.int 0))) σ H3 (.int i) := fun σ hv => (p_ixT (i := 0) (py hv) ev_c rfl).imp (P' := Is (.int i)) (fun _ _ _ h => dp_int h) |>.ev
          have a1 : ∀ σ : L2.St, σ[2]? = some (some y) → Ev (tOp (rIxT K) (tVar 2) (tC (.int 1))) σ H3 (.int j) := fun σ hv => (p_ixT (i := 1) (py hv) ev_c rfl).imp (P' := Is (.int j)) (fun _ _ _ h => dp_int h) |>.ev
          exact ev_is (ev_op (a0 _ rfl) (a1 _ rfl) (rv_ne rfl)) (congrArg V.bl (by simp [twoD]))
      rw [dpAll_len hD, range_all]
      exact q H2 (e1.trans e2)
end
end Chk
set_option maxHeartbeats 4000000
namespace Chk
open PySem PySem.Spec PyProof.Rows L2 Evl Pd Gd Us
def inT (xs : List Str) : PyData → Bool
  | .str t => xs.any (fun y => y == t)
  | _ => false
/-- a tuple of texts that stands in the written part -/
def TxG (K : PySem.W.Frag) (mg : Str → Option Value) (x : Str) (xs : List Str) : Prop := ∃ p, mg x = some (.ref p) ∧ ∀ H, SqT K H p (xs.map V.str)
theorem inT_of {K : PySem.W.Frag} {H : Hp} {x : V} {d : PyData} {xs : List Str} (h : Dp K H x d) : (isS d && inV x (xs.map V.str)) = inT xs d := by
  cases h with
  | str t =>
    show (true && (xs.map V.str).any fun y => eqV y (.str t)) = xs.any fun y => y == t
    rw [Bool.true_and, List.any_map]
    rfl
  | _ => rfl
def sorts : List Str := ["size", "table", "room"]
def holds : List Str := ["sent", "answered", "open"]
def holdsT : List Str := ["sent", "answered"]
def isHold (s : Str) (d : PyData) : Bool := if s = ("table" : Str) then inT holdsT d else inT holds d
def rHold (K : PySem.W.Frag) : List V → Hp → Bool → Prop := fun vs H b => ∃ x d s, vs = [x, .str s] ∧ Dp K H x d ∧ b = isHold s d
theorem scHold : FnScope ["value", "sort"] ["value", "sort"] (defScope sIsHold) := ⟨rfl, rfl, rfl, by decide +kernel, rfl, by decide +kernel, by decide +kernel⟩
/-- the parts of a setting -/
structure Pts where
  sort : PyData
  size : PyData
  start : PyData
  changes : PyData
  hold : PyData
def intOf : PyData → Int
  | .int i => i
  | _ => 0
def strOf : PyData → Str
  | .str s => s
  | _ => ""
/-- the first part that is not so -/
def wrong (p : Pts) : Option Str :=
  if !inT sorts p.sort then some "sort" else if !betw 2 4 p.size then some "size" else if !betw 0 (intOf p.size - 1) p.start then some "start"
  else if !okChs (intOf p.size) p.changes then some "changes" else if !isHold (strOf p.sort) p.hold then some "hold" else none
def strV : Option Str → V
  | none => .non
  | some s => .str s
def DpP (K : PySem.W.Frag) (H : Hp) (a b c d e : V) (p : Pts) : Prop := Dp K H a p.sort ∧ Dp K H b p.size ∧ Dp K H c p.start ∧ Dp K H d p.changes ∧ Dp K H e p.hold ∧ Short p.changes
def spWrong (K : PySem.W.Frag) : Sp := fun vs H Q _ => vs.length = 5 ∧ ∃ a b c d e p, vs = [a, b, c, d, e] ∧ DpP K H a b c d e p ∧ ∀ H', Ex H H' → Q (strV (wrong p)) H'
theorem scWrong : FnScope ["sort", "size", "start", "changes", "hold"] ["sort", "size", "start", "changes", "hold"] (defScope sWrongPart) := ⟨rfl, rfl, rfl, by decide +kernel, rfl, by decide +kernel, by decide +kernel⟩
section
variable {P : Program} {w : World} {K : PySem.W.Frag} {mg : Str → Option Value} {base : Heap}
theorem ok_hold (D : Dn K mg "is_hold" sIsHold) (TH : TxG K mg "HOLDS" holds) (UO : Use P w K mg base 1 "is_one_of" ["value", "texts"] (spAsk K 2 (rOneOf K))) : Use P w K mg base 2 "is_hold" ["value", "sort"] (spAsk K 2 (rHold K)) := by
  refine use_of D scHold (fun f fd F => F.binds (ps := ["value", "sort"]) fun _ _ _ _ _ _ us hl => match us, hl with | [_, _], _ => rfl) (fun vs H Q E h => h.1) (fun f cdv A outer s H vs Q E hr h => ?_)
  obtain ⟨_, b, ⟨x, d, so, rfl, hd, rfl⟩, q⟩ := h
  obtain ⟨pH, mH, hH⟩ := TH
  refine ⟨_, pss_cons (ps_if (pt_cmpR op_eq (pv 1) pe_str (nomark _)) (pss_one (ps_ret (pe_use UO hr (by decide) (by rfl) (pa_cons (pv 0) (pa_cons (pe_tup (pa_cons pe_str (pa_cons pe_str pa_nil))) pa_nil))))) pss_nil)
    (pss_one (ps_ret (pe_use UO hr (by decide) (by rfl) (pa_cons (pv 0) (pa_cons (pe_gref (by rfl) mH) pa_nil))))), ?_⟩
  have hx : EvP (tVar 0) (L2.start ["value", "sort"] [x, .str so]) H (De K d) := p_var rfl mo_de hd
  refine q_when (et_test (ev_op (ev_var rfl) ev_c (rv_eq rfl))) (fun c H1 e1 => ?_) fun c H1 e1 => ?_
  · refine s_ret (ev_is (ev_ask (b := inT holdsT d) (Ps := [De K d, Tup (holdsT.map fun t => Is (.str t))]) rfl (ps_cons mo_de (hx.up e1) (ps_cons (mo_tup (fun P hP => by obtain ⟨t, _, rfl⟩ := List.mem_map.mp hP; exact mo_is)) (p_tup (fun P hP => by obtain ⟨t, _, rfl⟩ := List.mem_map.mp hP; exact mo_is) (ps_cons mo_is p_c (ps_cons mo_is p_c ps_nil))) ps_nil)) fun zs H2 e2 ps => ?_) ?_) fun H2 e2 => q H2 (e1.trans e2)
    · match zs, ps with
      | [y, z], ⟨py, ⟨p, xs, hz, h2, h3⟩, _⟩ =>
        subst hz
        have : xs = holdsT.map V.str := allP_is (vs := holdsT.map V.str) h3
        subst this
        exact ⟨y, d, p, _, rfl, py, st_of h2, rfl, (inT_of py).symm⟩
    · have : so = ("table" : Str) := by simpa using c
      unfold isHold
      rw [if_pos this]
  · refine s_ret (ev_is (ev_ask (b := inT holds d) (Ps := [De K d, Is (.ref pH)]) rfl (ps_cons mo_de (hx.up e1) (ps_cons mo_is p_c ps_nil)) fun zs H2 e2 ps => ?_) ?_) fun H2 e2 => q H2 (e1.trans e2)
    · match zs, ps with
      | [y, z], ⟨py, pz, _⟩ => exact ⟨y, d, pH, _, by rw [show z = _ from pz], py, hH H2, rfl, (inT_of py).symm⟩
    · have : so ≠ ("table" : Str) := by simpa using c
      unfold isHold
      rw [if_neg this]
theorem ok_wrong (D : DnY K mg "wrong_part_settings" "wrong_part" sWrongPart) (TS : TxG K mg "SORTS" sorts) (UO : Use P w K mg base 1 "is_one_of" ["value", "texts"] (spAsk K 2 (rOneOf K))) (UB : Use P w K mg base 2 "is_between" ["value", "low", "high"] (spAsk K 3 (rBetween K)))
    (UC : Use P w K mg base 4 "are_changes" ["value", "size"] (spAsk K 2 (rChanges K))) (UH : Use P w K mg base 2 "is_hold" ["value", "sort"] (spAsk K 2 (rHold K))) : Use P w K mg base 5 "wrong_part_settings" ["sort", "size", "start", "changes", "hold"] (spWrong K) := by
  refine useY_of D scWrong (fun f fd F => F.binds (ps := ["sort", "size", "start", "changes", "hold"]) fun _ _ _ _ _ _ us hl => match us, hl with | [_, _, _, _, _], _ => rfl) (fun vs H Q E h => h.1) (fun f cdv A outer s H vs Q E hr h => ?_)
  obtain ⟨_, a, b, c, d, e, p, rfl, ⟨ha, hb, hc, hd, he, hs⟩, q⟩ := h
  obtain ⟨pS, mS, hS⟩ := TS
  refine ⟨_, pss_cons (ps_if (pt_not (pt_val (pe_use UO hr (by decide) (by rfl) (pa_cons (pv 0) (pa_cons (pe_gref (by rfl) mS) pa_nil))))) (pss_one (ps_ret pe_str)) pss_nil)
    (pss_cons (ps_if (pt_not (pt_val (pe_use UB hr (by decide) (by rfl) (pa_cons (pv 1) (pa_cons pe_int (pa_cons pe_int pa_nil)))))) (pss_one (ps_ret pe_str)) pss_nil)
    (pss_cons (ps_if (pt_not (pt_val (pe_use UB hr (by decide) (by rfl) (pa_cons (pv 2) (pa_cons pe_int (pa_cons (pe_op op_sub (pv 1) pe_int) pa_nil)))))) (pss_one (ps_ret pe_str)) pss_nil)
    (pss_cons (ps_if (pt_not (pt_val (pe_use UC hr (by decide) (by rfl) (pa_cons (pv 3) (pa_cons (pv 1) pa_nil))))) (pss_one (ps_ret pe_str)) pss_nil)
    (pss_cons (ps_if (pt_not (pt_val (pe_use UH hr (by decide) (by rfl) (pa_cons (pv 4) (pa_cons (pv 0) pa_nil))))) (pss_one (ps_ret pe_str)) pss_nil)
    (pss_one (ps_ret pe_non)))))), ?_⟩
  generalize eσ : L2.start ["sort", "size", "start", "changes", "hold"] [a, b, c, d, e] = σ
  have g0 : σ[0]? = some (some a) := by rw [← eσ]; rfl
  have g1 : σ[1]? = some (some b) := by rw [← eσ]; rfl
  have g2 : σ[2]? = some (some c) := by rw [← eσ]; rfl
  have g3 : σ[3]? = some (some d) := by rw [← eσ]; rfl
  have g4 : σ[4]? = some (some e) := by rw [← eσ]; rfl
  have pv' : ∀ {j : Nat} {x : V} {dd : PyData} {H1 : Hp}, Ex H H1 → σ[j]? = some (some x) → Dp K H x dd → EvP (tVar j) σ H1 (De K dd) := fun ex h hd => p_var h mo_de (dp_up ex hd)
  have bt : ∀ {H1 : Hp} {j : Nat} {x : V} {dd : PyData} {lo hi : Int} {tl th : TE}, Ex H H1 → σ[j]? = some (some x) → Dp K H x dd → Ev tl σ H1 (.int lo) → Ev th σ H1 (.int hi) → Ev (tCall (spAsk K 3 (rBetween K)) [] (fun _ _ _ => False) (tCons (tVar j) (tCons tl (tCons th tNil)))) σ H1 (.bl (betw lo hi dd)) := fun {H1 j x dd lo hi tl th} ex h hx h1 h2 =>
    ev_ask (Ps := [De K dd, Is (.int lo), Is (.int hi)]) rfl (ps_cons mo_de (pv' ex h hx) (ps_cons mo_is (.of h1 mo_is rfl) (ps_cons mo_is (.of h2 mo_is rfl) ps_nil))) fun xs H1 e ps => by
      match xs, ps with
      | [y, z, u], ⟨py, pz, pu, _⟩ => exact ⟨y, dd, lo, hi, by rw [show z = _ from pz, show u = _ from pu], py, rfl⟩
  have fin : ∀ {H1 : Hp} {t : Str}, Ex H H1 → wrong p = some t → tRet (tC (.str t)) { nx := fun _ H' => Q .non H', rt := Q } σ H1 := fun {H1 t} ex ew => s_ret ev_c fun H2 e2 => by
    have := q H2 (ex.trans e2)
    rw [ew] at this
    exact this
  refine q_when (et_not (et_B (ev_ask (b := inT sorts p.sort) (Ps := [De K p.sort, Is (.ref pS)]) rfl (ps_cons mo_de (pv' (Ex.refl H) g0 ha) (ps_cons mo_is p_c ps_nil)) fun zs H2 e2 ps => ?_))) (fun k1 H1 e1 => fin e1 (by unfold wrong; rw [if_pos k1])) fun k1 H1 e1 => ?_
  · match zs, ps with
    | [y, z], ⟨py, pz, _⟩ => exact ⟨y, p.sort, pS, _, by rw [show z = _ from pz], py, hS H2, rfl, (inT_of py).symm⟩
  refine q_when (et_not (et_B (bt e1 g1 hb ev_c ev_c))) (fun k2 H2 e2 => fin (e1.trans e2) (by unfold wrong; rw [if_neg (by simpa using k1), if_pos k2])) fun k2 H2 e2 => ?_
  have e02 := e1.trans e2
  have k2' : betw 2 4 p.size = true := by simpa using k2
  obtain ⟨n, en⟩ : ∃ n, p.size = .int n := by
    unfold betw at k2'
    split at k2'
    · exact ⟨_, by assumption⟩
    · cases k2'
  have eb : b = .int n := dp_int (en ▸ hb)
  have in0 : intOf p.size = n := by rw [en]; rfl
  refine q_when (et_not (et_B (bt (hi := n - 1) e02 g2 hc ev_c (ev_op (ev_var (eb ▸ g1)) ev_c rv_I0)))) (fun k3 H3 e3 => fin (e02.trans e3) (by unfold wrong; rw [if_neg (by simpa using k1), if_neg (by simpa using k2), in0, if_pos k3])) fun k3 H3 e3 => ?_
  have e03 := e02.trans e3
  refine q_when (et_not (et_B (ev_ask (b := okChs n p.changes) (Ps := [De K p.changes, Is (.int n)]) rfl (ps_cons mo_de (pv' e03 g3 hd) (ps_cons mo_is (p_is (eb ▸ g1)) ps_nil)) fun zs H4 e4 ps => ?_))) (fun k4 H4 e4 => fin (e03.trans e4) (by unfold wrong; rw [if_neg (by simpa using k1), if_neg (by simpa using k2), in0, if_neg (by simpa using k3), if_pos k4])) fun k4 H4 e4 => ?_
  · match zs, ps with
    | [y, z], ⟨py, pz, _⟩ => exact ⟨y, p.changes, n, by rw [show z = _ from pz], py, hs, rfl⟩
  have e04 := e03.trans e4
  have k1' : inT sorts p.sort = true := by simpa using k1
  obtain ⟨so, es⟩ : ∃ so, p.sort = .str so := by
    unfold inT at k1'
    split at k1'
    · exact ⟨_, by assumption⟩
    · cases k1'
  have ea : a = .str so := dp_str (es ▸ ha)
  have st0 : strOf p.sort = so := by rw [es]; rfl
  refine q_when (et_not (et_B (ev_ask (b := isHold so p.hold) (Ps := [De K p.hold, Is (.str so)]) rfl (ps_cons mo_de (pv' e04 g4 he) (ps_cons mo_is (p_is (ea ▸ g0)) ps_nil)) fun zs H4 e4 ps => ?_))) (fun k5 H5 e5 => fin (e04.trans e5) (by unfold wrong; rw [if_neg (by simpa using k1), if_neg (by simpa using k2), in0, if_neg (by simpa using k3), if_neg (by simpa using k4), st0, if_pos k5])) fun k5 H5 e5 => ?_
  · match zs, ps with
    | [y, z], ⟨py, pz, _⟩ => exact ⟨y, p.hold, so, by rw [show z = _ from pz], py, rfl⟩
  refine s_ret ev_c fun H6 e6 => ?_
  have := q H6 (e04.trans (e5.trans e6))
  have ew : wrong p = none := by
    unfold wrong
    rw [if_neg (by simpa using k1), if_neg (by simpa using k2), in0, if_neg (by simpa using k3), if_neg (by simpa using k4), st0, if_neg (by simpa using k5)]
  rw [ew] at this
  exact this
end
end Chk
set_option maxHeartbeats 4000000
/-! == of two dicts whose values may be objects with an own __eq__: the first one is locked while they are compared. -/
namespace EqD
open PySem PySem.W PySem.Calls PyProof.Rows PySem.Spec L2 Evl
def allV (f : Key → Bool) (ks ls : List (Key × V)) : Bool := ks.all fun p => (valV ls p.1).elim false fun _ => f p.1
def sameV (f : Key → Bool) (ks ls : List (Key × V)) : Bool := ks.length == ls.length && allV f ks ls
section
variable {X : Cx} {pins : List (Addr × Obj)} {σ : L2.St} {H : Hp} {s : Shared} {a b : Addr} {od : Obj} {ks ls : List (Key × V)} {f : Key → Bool} {A : Around}
/-- one value beside another, from any later heap -/
def StepOk (X : Cx) (A : Around) (pins : List (Addr × Obj)) (σ : L2.St) (H : Hp) (b : Bool) (x y : V) : Prop :=
  ∀ (s1 : Shared) (H1 : Hp) (v u : Value) (Q : Bool → Shared → Prop), Ex H H1 → Inv X pins σ H1 s1 → RelV x v → RelV y u → (∀ s2 H2, Ex H1 H2 → Inv X pins σ H2 s2 → Q b s2) → wpAny (model X.prog X.w) A (eqBool v u) Q X.xe s1
theorem same_pairsI {nm : String} {Q : Bool → Shared → Prop} (I : Inv X pins σ H s) (ha : H a = some (.frz od (.dK ks))) (hb : Rd H b (.dK ls)) (step : ∀ p ∈ ks, ∀ y, valV ls p.1 = some y → StepOk X A pins σ H (f p.1) p.2 y)
    (q : ∀ s2 H2, Ex H H2 → Inv X pins σ H2 s2 → Q (sameV f ks ls) s2) : wpAny (model X.prog X.w) A (Builtin.Dict.samePairs nm a b) Q X.xe s := by
  obtain ⟨na, hoa, _, es, ep, vs, hda, hsz, kv, dat⟩ := I.frzK ha
  obtain ⟨_, nb, vb, rb, db⟩ := dk_rd I.hok hb
  obtain ⟨ob, fs, fp, hob, _, hdb, hkb, hpb, _⟩ := id db
  obtain ⟨oa', es', hoa', _, hda', hka, hpa, _⟩ := dat
  cases (hoa.symm.trans hoa')
  cases (hda.symm.trans hda')
  have lb : fs.size = ls.length := by
    have := hpb.length
    rw [Array.length_toList] at this
    rw [this, ← rb.length]
  unfold Builtin.Dict.samePairs Builtin.Dict.showsAll
  rw [if_neg (show ¬ (a == sysModules) = true by rw [na]; exact Bool.false_ne_true), if_neg (show ¬ (b == sysModules) = true by rw [nb]; exact Bool.false_ne_true)]
  refine wpAny_bind (wpAny_pure (wpAny_bind (wpAny_pure (wpAny_bind (wpAny_dictEntries hoa hda ?_)))))
  dsimp only
  refine wpAny_bind (wpAny_dictEntries hob hdb ?_)
  have lk : es.size = ks.length := hsz
  by_cases sz : es.size = fs.size
  case neg =>
    rw [if_pos (by simpa using sz)]
    have no : sameV f ks ls = false := by
      unfold sameV
      have : (ks.length == ls.length) = false := by
        rw [← lk, ← lb]
        simpa using sz
      rw [this, Bool.false_and]
    have := q s H (Ex.refl H) I
    rw [no] at this
    exact wpAny_bind (wpAny_rule (wpAny_pure this))
  case pos =>
    have len : (ks.length == ls.length) = true := by rw [← lk, ← lb]; simpa using sz
    have q1 : ∀ s2 H2, Ex H H2 → Inv X pins σ H2 s2 → Q (allV f ks ls) s2 := fun s2 H2 e J => by
      have := q s2 H2 e J
      unfold sameV at this
      rwa [len, Bool.true_and] at this
    rw [if_neg (by rw [sz]; simp)]
    refine wpAny_bind (wpAny_dictEpoch hoa hda (wpAny_bind ?_))
    rw [Std.Legacy.Range.forIn_eq_forIn_range']
    simp only [Std.Legacy.Range.size, Nat.sub_zero, Nat.add_sub_cancel, Nat.div_one]
    refine wpAny_forIn_list _ (fun rest r s1 => r = (none, ()) ∧ ∃ i H1, rest = List.range' i (es.size - i) ∧ i ≤ es.size ∧ Ex H H1 ∧ Inv X pins σ H1 s1 ∧ allV f ks ls = allV f (ks.drop i) ls) _ ?turn ?done _ _ ⟨rfl, 0, H, by simp, Nat.zero_le _, Ex.refl H, I, by simp⟩
    case done =>
      rintro r s1 ⟨rfl, i, H1, hr, hi, e1, J, hp⟩
      have at_end : i = es.size := by
        rcases Nat.lt_or_ge i es.size with c | c
        · have e : es.size - i = (es.size - (i + 1)) + 1 := by omega
          rw [e, List.range'_succ] at hr
          exact nomatch hr
        · exact Nat.le_antisymm hi c
      refine wpAny_pure ?_
      rw [at_end, lk, List.drop_length] at hp
      have := q1 s1 H1 e1 J
      rw [hp] at this
      exact this
    case turn =>
      rintro j rest r s1 ⟨rfl, i, H1, hr, hi, e1, J, hp⟩
      have lt : i < es.size := by
        rcases Nat.lt_or_ge i es.size with c | c
        · exact c
        · rw [Nat.sub_eq_zero_of_le c] at hr
          simp at hr
      obtain ⟨rfl, hrest⟩ : j = i ∧ rest = List.range' (i + 1) (es.size - (i + 1)) := by
        have e : es.size - i = (es.size - (i + 1)) + 1 := by omega
        rw [e, List.range'_succ] at hr
        injection hr with r1 r2
        exact ⟨r1, r2⟩
      -- the dicts as they stand here
      obtain ⟨_, hoa1, _⟩ := J.frzK (e1 _ _ ha)
      obtain ⟨_, nb1, vb1, rb1, ob1, fs1, fp1, hob1, _, hdb1, hkb1, hpb1, _⟩ := dk_rd J.hok (ex_rd e1 hb)
      have hfind : ∀ k, findBy (mixKind X.prog X.w).is fs1 k = valueAt vb1 k := fun k => by
        rw [← hpb1.find k]
        clear hpb1 hkb1 hdb1
        obtain ⟨l⟩ := fs1
        simp [findBy]
      have ltk : j < ks.length := by rw [← lk]; exact lt
      obtain ⟨k, x, hx⟩ : ∃ k x, ks[j] = (k, x) := ⟨_, _, rfl⟩
      have mem : (k, x) ∈ ks := by rw [← hx]; exact List.getElem_mem ltk
      have dr : ks.drop j = (k, x) :: ks.drop (j + 1) := by rw [← hx]; exact List.drop_eq_getElem_cons ltk
      obtain ⟨p2, hp2, hk2, hv2⟩ : ∃ p2, vs[j]? = some p2 ∧ k = p2.1 ∧ RelV x p2.2 := by
        have : ∀ {l : List (Key × V)} {m : List (Key × Value)} {n : Nat} {p : Key × V}, KV l m → l[n]? = some p → ∃ p2, m[n]? = some p2 ∧ p.1 = p2.1 ∧ RelV p.2 p2.2 := by
          intro l m n p r
          unfold KV at r
          induction r generalizing n with
          | nil => intro h; simp at h
          | cons h t ih =>
            intro hn
            cases n with
            | zero => cases hn; exact ⟨_, rfl, h.1, h.2⟩
            | succ n => exact ih hn
        exact this kv (by rw [List.getElem?_eq_getElem ltk, hx])
      obtain ⟨hkey, hval⟩ := hpa.get? (i := j) (e := es[j]) (k := p2.1) (v := p2.2) (by rw [Array.getElem?_toList]; exact Array.getElem?_eq_getElem lt) hp2
      rw [← hk2] at hkey
      obtain ⟨k', hk', hh⟩ := hka es[j] (Array.getElem_mem lt)
      have ekk : k' = k := (mixKind X.prog X.w).inj _ _ _ hk' hkey
      rw [ekk] at hh
      refine wpAny_bind (wpAny_dictEntries hoa1 hda ?_)
      rw [Array.getElem?_eq_getElem lt]
      show wpAny _ _ (holding [es[j].key, es[j].val] _ >>= _) _ _ _
      rw [hh]
      refine wpAny_bind (wpAny_holding (wpAny_bind (wpAny_dictFind_of hkey hob1 hdb1 hkb1 ?_)))
      have un : allV f (ks.drop j) ls = ((valV ls k).elim false (fun _ => f k) && allV f (ks.drop (j + 1)) ls) := by
        rw [dr]
        unfold allV
        rw [List.all_cons]
      have rel := rb1.val k
      cases hj : fs1.findIdx? fun e => (mixKind X.prog X.w).is k e.key with
      | none =>
        have hn : valueAt vb1 k = none := by rw [← hfind k, findBy_of_findIdx?, hj]
        rw [hn] at rel
        have hv0 : valV ls k = none := by
          cases h : valV ls k with
          | none => rfl
          | some _ => rw [h] at rel; exact (show False from rel).elim
        have no : allV f ks ls = false := by rw [hp, un, hv0]; rfl
        refine wpAny_pure ?_
        show wpAny _ _ (if (!false) = true then _ else _) _ _ _
        rw [if_pos (by decide)]
        have := q1 s1 H1 e1 J
        rw [no] at this
        exact wpAny_pure (wpAny_pure this)
      | some m =>
        obtain ⟨hml, _, _⟩ := Array.findIdx?_eq_some_iff_getElem.mp hj
        have hv' : valueAt vb1 k = some fs1[m].val := by
          rw [← hfind k, findBy_of_findIdx?, hj]
          simp [Array.getElem?_eq_getElem hml]
        rw [hv'] at rel
        obtain ⟨y, hy, ry⟩ : ∃ y, valV ls k = some y ∧ RelV y fs1[m].val := by
          cases h : valV ls k with
          | none => rw [h] at rel; exact (show False from rel).elim
          | some y => rw [h] at rel; exact ⟨y, rfl, rel⟩
        refine wpAny_bind (wpAny_dictEntries hob1 hdb1 ?_)
        rw [Array.getElem?_eq_getElem hml]
        refine wpAny_holding (step (k, x) mem y hy s1 H1 _ _ _ e1 J (by rw [hval]; exact hv2) ry fun s2 H2 e2 J2 => ?_)
        rw [hy] at un
        cases e : f k with
        | false =>
          have no : allV f ks ls = false := by rw [hp, un]; show (f k && _) = false; rw [e]; rfl
          show wpAny _ _ (if (!false) = true then _ else _) _ _ _
          rw [if_pos (by decide)]
          have := q1 s2 H2 (e1.trans e2) J2
          rw [no] at this
          exact wpAny_pure (wpAny_pure this)
        | true =>
          have on : allV f ks ls = allV f (ks.drop (j + 1)) ls := by rw [hp, un]; show (f k && _) = _; rw [e, Bool.true_and]
          show wpAny _ _ (if (!true) = true then _ else _) _ _ _
          rw [if_neg (by decide)]
          obtain ⟨_, hoa2, _⟩ := J2.frzK ((e1.trans e2) _ _ ha)
          refine wpAny_bind (wpAny_dictEpoch hoa2 hda ?_)
          rw [if_neg (by simp)]
          exact wpAny_pure ⟨rfl, j + 1, H2, hrest, lt, e1.trans e2, J2, on⟩
theorem eq_dictsI {Q : Value → Shared → Prop} (hA : A.units < cLine) (I : Inv X pins σ H s) (ha : H a = some (.frz od (.dK ks))) (hb : Rd H b (.dK ls)) (step : ∀ p ∈ ks, ∀ y, valV ls p.1 = some y → StepOk X A.in1 pins σ H (f p.1) p.2 y)
    (q : ∀ s2 H2, Ex H H2 → Inv X pins σ H2 s2 → Q (.bool (sameV f ks ls)) s2) : wpAny (model X.prog X.w) A (richCompare .Eq (.ref a) (.ref b)) Q X.xe s := by
  obtain ⟨_, _, _, _, da⟩ := dk_rd I.hok (.inr ⟨od, ha⟩)
  obtain ⟨_, _, _, _, db⟩ := dk_rd I.hok hb
  refine wpAny_richCompare_same_room (op := .Eq) da.typeIs db.typeIs PySem.F.slot_dict_eq (wpAny_call_entry PySem.F.slot_dict_eq da.typeIs PySem.F.entry_dict_eq ?_ (PySem.F.args_dict_eq_2 _ _)) hA
  show wpAny _ _ (Builtin.Dict.dictSlotArgs "__eq__" ⟨[.ref a, .ref b], []⟩ >>= _) _ _ s
  refine wpAny_bind ?_
  unfold Builtin.Dict.dictSlotArgs
  refine wpAny_bind (wpAny_notOrdered_dict da.typeIs ?_)
  show wpAny _ _ (pure (Value.ref a, Value.ref b)) _ _ s
  refine wpAny_pure (wpAny_bind (wpAny_isInstance (T := "dict") db.typeIs PySem.F.sub_dict_dict ?_))
  simp only [Bool.not_true, Bool.false_eq_true, if_false]
  refine wpAny_bind (wpAny_pure (wpAny_bind (wpAny_pure (wpAny_bind (same_pairsI I ha hb step fun s2 H2 e J => ?_)))))
  exact wpAny_pure ⟨_, rfl, (fun x => nomatch x), by simpa using q s2 H2 e J⟩
/-- the reading: x == y, dicts whose keys are texts and numbers; f tells of each key whether its values are equal -/
def rEqD (ok : V → V → Bool → Hp → Prop) : R2 := fun x y H Q => ∃ (a b : Addr) (ks ls : List (Key × V)) (f : Key → Bool), x = .ref a ∧ y = .ref b ∧ H a = some (.dK ks) ∧ H b = some (.dK ls) ∧
  (∀ p ∈ ks, ∀ z, valV ls p.1 = some z → ∀ H1, (∀ c o, c ≠ a → H c = some o → H1 c = some o) → ok p.2 z (f p.1) H1) ∧ ∀ H', Ex H H' → Q (.bl (sameV f ks ls)) H'
theorem ex_lock {H H' : Hp} {d : Addr} {u : HO} {od : Obj} (h : H d = some u) (e : Ex (upd H d (.frz od u)) H') : Ex H (upd H' d u) := fun c o hc => by
  by_cases z : c = d
  · rw [z, upd_same]
    rw [z, h] at hc
    exact hc
  · rw [upd_ne z]
    exact e c o (by rw [upd_ne z]; exact hc)
theorem op_eqD {ok : V → V → Bool → Hp → Prop} (hu : X.A.units < cLine) (step : ∀ (pins : List (Addr × Obj)) (σ : L2.St) (H : Hp) (x y : V) (b : Bool), (∀ H1, Ex H H1 → ok x y b H1) → StepOk X X.A.in1 pins σ H b x y) : OpR X (compareOp .Eq) (rEqD ok) := by
  intro pins s σ H x y v u Q I rx ry h
  obtain ⟨a, b, ks, ls, f, rfl, rfl, ea, eb, hs, q⟩ := h
  obtain rfl : v = Value.ref a := rx
  obtain rfl : u = Value.ref b := ry
  obtain ⟨od, J⟩ := I.lock ea trivial
  have hb : Rd (upd H a (.frz od (.dK ks))) b (.dK ls) := by
    by_cases z : b = a
    · rw [z] at eb ⊢
      rw [ea] at eb
      cases eb
      exact .inr ⟨od, upd_same⟩
    · exact .inl (by rw [upd_ne z]; exact eb)
  have goal : wpAny (model X.prog X.w) X.A (richCompare .Eq (.ref a) (.ref b)) (EP X pins σ Q) X.xe s := by
    refine eq_dictsI hu J upd_same hb (fun p hp y hy => step pins σ _ p.2 y _ fun H1 e1 => hs p hp y hy H1 fun c o hc ho => e1 c o (by rw [upd_ne hc]; exact ho)) fun s2 H2 e2 J2 => ?_
    exact ⟨.bl _, _, J2.unlock (e2 _ _ upd_same) (I.nofrz ea trivial), rfl, q _ (ex_lock ea e2)⟩
  exact goal
end
end EqD
set_option maxHeartbeats 4000000
/-! Comprehensions over any walk; what is told inside a lock. -/
namespace Wlk
open PySem PySem.Spec PyProof.Rows L2 Evl Pd
section
variable {K : PySem.W.Frag} {σ : L2.St} {H H' : Hp} {te : TE} {t : TT}
theorem Cw.up {f : Nat → Bool} {v : Nat → V} {D : Addr} {i : Nat} {H2 : Hp} (p : Cw H f v D i H') (e : Ex H' H2) : Cw H f v D i H2 := ⟨p.1, p.2.1.trans e, e _ _ p.2.2⟩
theorem cw_step {f : Nat → Bool} {v : Nat → V} {D : Addr} {i : Nat} {σ2 : L2.St} (p : Cw H f v D i H') (hi : i < 50000) (ht : EvT t σ2 H' (f i)) (he : f i = true → Ev te σ2 H' (v i)) :
    t σ2 H' fun b H3 => if b = true then te σ2 H3 fun y H4 => ∃ acc, H4 D = some (.lst acc) ∧ acc.length < sizeLine ∧ Cw H f v D (i + 1) (upd H4 D (.lst (acc ++ [y]))) else Cw H f v D (i + 1) H3 := by
  obtain ⟨p1, p2, p3⟩ := p
  refine ht H' (Ex.refl _) _ fun H3 e3 => ?_
  cases hf : f i with
  | true =>
    show te σ2 H3 fun y H4 => ∃ acc, H4 D = some (.lst acc) ∧ acc.length < sizeLine ∧ Cw H f v D (i + 1) (upd H4 D (.lst (acc ++ [y])))
    refine he hf H3 e3 _ fun H4 e4 => ⟨given i f v, e4 D _ (e3 D _ p3), sz_lt (by have := given_len i f v; omega), p1, Ex.mut ((p2.trans e3).trans e4) p1, ?_⟩
    rw [given_yes hf]
    exact upd_same
  | false =>
    show Cw H f v D (i + 1) H3
    refine ⟨p1, p2.trans e3, ?_⟩
    rw [given_no hf]
    exact e3 D _ p3
/-- [.. for target in a walk if ..] -/
theorem el_lcW {wi : TI} {J : It} {n : Nat} {G : Hp → Prop} {Y : Nat → Hp → V → Hp → Prop} {g : TG} {vs : List Nat} (f : Nat → Bool) (v : Nat → V) (w : Walk J n G Y) (hn : n ≤ 40000)
    (hwi : ∀ H1, Ex H H1 → ∀ R : It → Hp → Prop, (∀ H2, Ex H1 H2 → R J H2) → wi σ H1 R) (hG : ∀ H1, Ex H H1 → G H1)
    (step : ∀ (i : Nat) (x : V) (H1 H2 : Hp), i < n → Ex H H1 → Y i H1 x H2 → Ex H1 H2 ∧ ∃ σ2, (∀ k : L2.St → Hp → Prop, k σ2 H2 → g x (wipe σ vs) H2 k) ∧ wipe σ2 vs = wipe σ vs ∧ EvT t σ2 H2 (f i) ∧ (f i = true → Ev te σ2 H2 (v i))) :
    EvL (tLc wi g t te vs) σ H (given n f v) := fun H0 e Q q => hwi H0 e _ fun H1 e1 D hD =>
  lc_it w (Cw H1 f v D) ⟨hD, Ex.new hD, upd_same⟩ (fun i H' _ p => hG H' ((e.trans e1).trans p.2.1)) (fun i x H2 H3 hi p y => by
    obtain ⟨e3, σ2, gk, hw, ht, he⟩ := step i x H2 H3 hi ((e.trans e1).trans p.2.1) y
    exact gk _ ⟨hw, cw_step (Cw.up p e3) (by omega) ht he⟩) (fun H' p => q D H' (fresh_back e1 p.1) (e1.trans p.2.1) p.2.2)
/-- what is told inside a lock -/
theorem ex_both {d : Addr} {o : HO} (e : Ex H H') : Ex (upd H d o) (upd H' d o) := fun c u hc => by
  by_cases z : c = d
  · rw [z, upd_same] at hc ⊢
    exact hc
  · rw [upd_ne z] at hc ⊢
    exact e c u hc
theorem none_un {d p : Addr} {o : HO} (h : (upd H d o) p = none) : p ≠ d ∧ H p = none := by
  have : p ≠ d := fun z => by
    rw [z, upd_same] at h
    cases h
  exact ⟨this, by rwa [upd_ne this] at h⟩
theorem el_lock {d : Addr} {u : HO} {xs : List V} (hd : H d = some u) (mu : Mut (some u)) (h : ∀ od, EvL te σ (upd H d (.frz od u)) xs) : EvL (tLockE te) σ H xs := fun H1 e Q q =>
  ⟨d, u, e _ _ hd, mu, fun od => h od _ (ex_both e) _ fun p H2 hp e2 hx => ⟨e2 _ _ upd_same, q p _ (none_un hp).2 (EqD.ex_lock (e _ _ hd) e2) (by rw [upd_ne (none_un hp).1]; exact hx)⟩⟩
theorem ev_lock {d : Addr} {u : HO} {v : V} (hd : H d = some u) (mu : Mut (some u)) (h : ∀ od, Ev te σ (upd H d (.frz od u)) v) : Ev (tLockE te) σ H v := fun H1 e Q q =>
  ⟨d, u, e _ _ hd, mu, fun od => h od _ (ex_both e) _ fun H2 e2 => ⟨e2 _ _ upd_same, q _ (EqD.ex_lock (e _ _ hd) e2)⟩⟩
/-- a fact that a lock of a dict leaves -/
def Lk (P : PV) : Prop := ∀ (x : V) (H : Hp) (d : Addr) (kvs : List (Key × V)) (od : Obj), H d = some (.dK kvs) → P x H → P x (upd H d (.frz od (.dK kvs)))
theorem rd_lock {a d : Addr} {u o : HO} {od : Obj} (h : H d = some u) (r : Rd H a o) (hu : ∀ o' u', u ≠ .frz o' u') : Rd (upd H d (.frz od u)) a o := by
  by_cases z : a = d
  · subst z
    rcases r with r | ⟨o', r⟩
    · rw [h] at r
      cases r
      exact .inr ⟨od, upd_same⟩
    · rw [h] at r
      cases r
      exact absurd rfl (hu _ _)
  · rcases r with r | ⟨o', r⟩
    · exact .inl (by rw [upd_ne z]; exact r)
    · exact .inr ⟨o', by rw [upd_ne z]; exact r⟩
theorem sqL_lock {a d : Addr} {u : HO} {od : Obj} {xs : List V} (h : H d = some u) (hu : ∀ o' u', u ≠ .frz o' u') (r : SqL K H a xs) : SqL K (upd H d (.frz od u)) a xs := by
  rcases r with r | r
  · exact .inl (rd_lock h r hu)
  · exact .inr r
theorem sqT_lock {a d : Addr} {u : HO} {od : Obj} {xs : List V} (h : H d = some u) (hu : ∀ o' u', u ≠ .frz o' u') (r : SqT K H a xs) : SqT K (upd H d (.frz od u)) a xs := by
  rcases r with r | r
  · exact .inl (rd_lock h r hu)
  · exact .inr r
theorem ne_other {a d : Addr} {u o : HO} (h : H d = some u) (h2 : H a = some o) (hne : o ≠ u) : a ≠ d := fun z => by
  rw [z, h] at h2
  cases h2
  exact hne rfl
theorem at_lock {a d : Addr} {kvs : List (Key × V)} {od : Obj} {o : HO} (h : H d = some (.dK kvs)) (h2 : H a = some o) (hne : ∀ l, o ≠ .dK l) : (upd H d (.frz od (.dK kvs))) a = some o := by
  rw [upd_ne (ne_other h h2 (hne _))]
  exact h2
mutual
theorem dp_lock {d : Addr} {kvs : List (Key × V)} {od : Obj} (hd : H d = some (.dK kvs)) : ∀ {x : V} {e : PyData}, Dp K H x e → Dp K (upd H d (.frz od (.dK kvs))) x e
  | _, _, .non => .non
  | _, _, .bl b => .bl b
  | _, _, .int i => .int i
  | _, _, .str x => .str x
  | _, _, .lst h a => .lst (sqL_lock hd (fun _ _ z => nomatch z) h) (dpAll_lock hd a)
  | _, _, .tup h a => .tup (sqT_lock hd (fun _ _ z => nomatch z) h) (dpAll_lock hd a)
theorem dpAll_lock {d : Addr} {kvs : List (Key × V)} {od : Obj} (hd : H d = some (.dK kvs)) : ∀ {xs : List V} {ds : List PyData}, DpAll K H xs ds → DpAll K (upd H d (.frz od (.dK kvs))) xs ds
  | _, _, .nil => .nil
  | _, _, .cons h a => .cons (dp_lock hd h) (dpAll_lock hd a)
end
theorem lk_de {d : PyData} : Lk (De K d) := fun _ _ _ _ _ hd h => dp_lock hd h
theorem lk_is {v : V} : Lk (Is v) := fun _ _ _ _ _ _ h => h
end
end Wlk
namespace Chk
open PySem PySem.Spec PyProof.Rows L2 Evl Pd Gd Us Wlk
abbrev sIsWord : Stmt := Tp.s_is_word
def letters : Str := "abcdefghijklmnopqrstuvwxyz"
def isWordS (s : Str) : Bool := (decide ((1 : Int) ≤ (s.length : Int)) && decide ((s.length : Int) ≤ 8)) && (List.range s.cps.size).all fun i => (s.cps[i]?).elim false fun c => decide (c ∈ letters.cps.toList)
def isWord : PyData → Bool
  | .str s => isWordS s
  | _ => false
/-- a text that is not too long -/
def Few (d : PyData) : Prop := ∀ s : Str, d = .str s → s.length ≤ 10000
/-- a text of the top -/
def StG (mg : Str → Option Value) (x s : Str) : Prop := ∃ u, mg x = some u ∧ RelV (.str s) u
def IntG (mg : Str → Option Value) (x : Str) (i : Int) : Prop := ∃ u, mg x = some u ∧ RelV (.int i) u
def rWord (K : PySem.W.Frag) : List V → Hp → Bool → Prop := fun vs H b => ∃ x d, vs = [x] ∧ Dp K H x d ∧ Few d ∧ b = isWord d
theorem scWord : FnScope ["value", "sign"] ["value"] (defScope sIsWord) := ⟨rfl, rfl, rfl, by decide +kernel, rfl, by decide +kernel, by decide +kernel⟩
section
variable {P : Program} {w : World} {K : PySem.W.Frag} {mg : Str → Option Value} {base : Heap}
theorem ok_word (D : Dn K mg "is_word" sIsWord) (B : Bc mg) (TL : StG mg "LETTERS" letters) : Use P w K mg base 1 "is_word" ["value"] (spAsk K 1 (rWord K)) := by
  refine use_of D scWord (fun f fd F => F.binds (ps := ["value"]) fun _ _ _ _ _ _ us hl => match us, hl with | [_], _ => rfl) (fun vs H Q E h => h.1) (fun f cdv A outer s H vs Q E hr h => ?_)
  obtain ⟨_, b, ⟨x, d, rfl, hd, few, rfl⟩, q⟩ := h
  obtain ⟨u, mL, rL⟩ := TL
  refine ⟨_, pss_cons (ps_if (PW.pt (pw_or (pt_not (pt_val (pe_isi (by rfl) B.isi (by rfl) B.str boot_str (pv 0)))) (pw_or1 (pt_not (pt_chain op_le op_le pe_int (pe_callB call_len_str (by rfl) B.len PySem.boot_len (pa_cons (pv 0) pa_nil)) pe_int))))) (pss_one (ps_ret pe_bl)) pss_nil)
    (pss_one (ps_ret (pe_callB (cr_all rfl) (by rfl) B.all (by decide +kernel) (pa_cons (pe_lc (own := [("sign", 1)]) (g := gName 1) (tt := tYes) rfl scWord.nd (pi_str (pv 0)) (blkOk_by (N := ["value", "sign"]) (sc := defScope sIsWord) (by decide +kernel))
      (fun _ _ _ _ _ => pg_name (i := 1) scWord.nd rfl (Or.inl rfl)) (fun _ _ _ _ _ => pts_nil) (fun _ _ _ _ _ => pe_cmpR op_in_sign (pv 1) (pe_glob (by rfl) mL rL) (by rfl))) pa_nil)))), ?_⟩
  have hx : EvP (tVar 0) (L2.start ["value", "sign"] [x]) H (De K d) := p_var rfl mo_de hd
  have ln : ∀ {s : Str} {H1 : Hp}, d = .str s → Ex H H1 → Ev (tCB (fun xs H Q => ∃ z, xs = [.str z] ∧ z.length ≤ sizeLine ∧ Q (.int z.length) H) (tCons (tVar 0) tNil)) (L2.start ["value", "sign"] [x]) H1 (.int (s.length : Int)) := fun {s H1} e e1 H2 e2 Q' q' =>
    (hx.up e1) H2 e2 _ fun y H3 e3 hy => by
      rw [e] at hy
      cases hy
      exact ⟨s, rfl, sz_of (by have := few s e; omega), q' H3 e3⟩
  refine q_when (b := !(isS d && (match d with | .str s => decide ((1 : Int) ≤ (s.length : Int)) && decide ((s.length : Int) ≤ 8) | _ => false))) (et_is (et_or (a := !isS d) (b := !(match d with | .str s => decide ((1 : Int) ≤ (s.length : Int)) && decide ((s.length : Int) ≤ 8) | _ => false)) (et_not (et_B (ev_isi (kit_str d) hx))) fun c => ?_) (by cases isS d <;> rfl)) (fun c H1 e1 => ?_) fun c H1 e1 => ?_
  · cases d with
    | str s => exact et_not (et_test (ev_chain ev_c (ln rfl (Ex.refl H)) ev_c))
    | _ => cases c
  · refine s_ret ev_c fun H2 e2 => ?_
    have : isWord d = false := by
      cases d with
      | str s => 
        have c' : (decide ((1 : Int) ≤ (s.length : Int)) && decide ((s.length : Int) ≤ 8)) = false := by
          cases h : (decide ((1 : Int) ≤ (s.length : Int)) && decide ((s.length : Int) ≤ 8)) with
          | false => rfl
          | true => exact absurd c (by show ¬ (!(true && (decide ((1 : Int) ≤ (s.length : Int)) && decide ((s.length : Int) ≤ 8)))) = true; rw [h]; decide)
        show isWordS s = false
        unfold isWordS
        rw [c', Bool.false_and]
      | _ => rfl
    rw [← this]
    exact q H2 (e1.trans e2)
  · cases d with
    | str s =>
      have c' : (decide ((1 : Int) ≤ (s.length : Int)) && decide ((s.length : Int) ≤ 8)) = true := by
        cases h : (decide ((1 : Int) ≤ (s.length : Int)) && decide ((s.length : Int) ≤ 8)) with
        | true => rfl
        | false => exact absurd c (by show ¬ (!(true && (decide ((1 : Int) ≤ (s.length : Int)) && decide ((s.length : Int) ≤ 8)))) = false; rw [h]; decide)
      have sm : s.cps.size ≤ 40000 := by have := few s rfl; simp only [Str.length] at this; omega
      refine s_ret (ev_all (bs := (List.range s.cps.size).map fun i => (s.cps[i]?).elim false fun c => decide (c ∈ letters.cps.toList)) (fun H2 e2 Q' q' =>
        el_lcW (wi := iStr (tVar 0)) (g := gName 1) (vs := [1]) (t := tYes) (te := tOp (fun x y H Q => ∃ (c : Nat) (z : Str), x = .str ⟨#[c]⟩ ∧ y = .str z ∧ Q (.bl (decide (c ∈ z.cps.toList))) H) (tVar 1) (tC (.str letters))) (σ := L2.start ["value", "sign"] [x]) (H := H1) (fun _ => true) (fun i => V.bl ((s.cps[i]?).elim false fun c => decide (c ∈ letters.cps.toList))) (walk_str (z := s)) sm ?wi (fun _ _ => trivial) ?step H2 e2 Q' ?fin)) fun H2 e2 => ?_
      case wi => exact fun H3 e3 R r => (hx.up e1) H3 e3 _ fun y H4 e4 hy => by
                  cases hy
                  exact ⟨s, rfl, r H4 e4⟩
      case fin => intro p H3 h1 h2 h3; exact q' p H3 h1 h2 (by rw [h3, given_map, List.map_map]; rfl)
      case step =>
        rintro i y H3 H4 hi e3 ⟨rfl, c, hc, rfl⟩
        refine ⟨Ex.refl _, _, fun k hk => hk, rfl, fun H5 _ Q5 q5 => q5 H5 (Ex.refl _), fun _ => ?_⟩
        rw [hc]
        exact ev_op (ev_var rfl) ev_c fun H5 e5 Q5 q5 => ⟨c, letters, rfl, rfl, q5 H5 (Ex.refl _)⟩
      have : isWord (.str s) = (((List.range s.cps.size).map fun i => (s.cps[i]?).elim false fun c => decide (c ∈ letters.cps.toList)).all id) := by
        show isWordS s = _
        unfold isWordS
        rw [c', Bool.true_and, List.all_map]
        rfl
      rw [← this]
      exact q H2 (e1.trans e2)
    | _ => simp [isS] at c
end
end Chk
set_option maxHeartbeats 4000000
namespace Lw
open PySem PySem.Spec PyProof.Rows L2 Evl Pd
abbrev sNumbers : Stmt := Tp.s__law_numbers
abbrev sPool : Stmt := Tp.s__law_pool
abbrev sDraw : Stmt := Tp.s__law_draw
abbrev sPick : Stmt := Tp.s__law_pick
structure Bt (mg : Str → Option Value) : Prop where
  len : mg "len" = none
  int : mg "int" = none
  range : mg "range" = none
  max : mg "max" = none
/-! ### values that are ints -/
theorem ev_int {σ : L2.St} {H : Hp} {te : TE} {i : Int} (h : Ev te σ H (.int i)) : Ev (tCB (fun xs H Q => (∃ i, xs = [V.int i] ∧ Q (.int i) H) ∨ ∃ k, xs = [V.bl k] ∧ Q (.int (if k then 1 else 0)) H) (tCons te tNil)) σ H (.int i) := fun H1 e Q q =>
  h H1 e _ fun H2 e2 => .inl ⟨i, rfl, q H2 e2⟩
theorem ev_max {σ : L2.St} {H : Hp} {ta tb : TE} {i j : Int} (h : Ev ta σ H (.int i)) (h2 : Ev tb σ H (.int j)) : Ev (tCB (fun xs H Q => ∃ i j, xs = [V.int i, .int j] ∧ Q (.int (if j > i then j else i)) H) (tCons ta (tCons tb tNil))) σ H (.int (if j > i then j else i)) := fun H1 e Q q =>
  h H1 e _ fun H2 e2 => h2 H2 (e.trans e2) _ fun H3 e3 => ⟨i, j, rfl, q H3 (e2.trans e3)⟩
theorem at_rep {n : Nat} {v : V} {k : Nat} (h : k < n) : atI (List.replicate n v) (k : Int) = some v := by
  unfold atI
  rw [ixN_nat (by rw [List.length_replicate]; exact h)]
  simp [h]
/-- numbers from lo to hi -/
def Rg (lo hi : Int) : PV := fun x _ => ∃ n, x = .int n ∧ lo ≤ n ∧ n ≤ hi
def spNumbers : Sp := fun vs H Q _ => ∃ (c salt m : Int) (sz : Addr), vs = [.int c, .int salt, .ref sz] ∧ 0 ≤ salt ∧ salt ≤ 100 ∧ 0 ≤ m ∧ m ≤ 1000 ∧ H sz = some (.lst (List.replicate m.toNat (.int 420))) ∧
  ∀ (p : Addr) (H' : Hp) (ns : List Int), Ex H H' → (∀ n ∈ ns, 0 ≤ n) → ns.length ≤ 1000 → H' p = some (.lst (ns.map V.int)) → H p = none → Q (.ref p) H'
section
variable {P : Program} {w : World} {K : PySem.W.Frag} {mg : Str → Option Value} {base : Heap}
theorem scNumbers : FnScope ["cell", "salt", "sizes", "whole", "left", "result", "k", "one"] ["cell", "salt", "sizes"] (defScope sNumbers) := ⟨rfl, rfl, rfl, by decide +kernel, rfl, by decide +kernel, by decide +kernel⟩
theorem ok_numbers {f : Addr} {fd : FuncData} (F : Fun K "_law_numbers" "_law_numbers" sNumbers f fd) (B : Bt mg) : FnOk P w K mg base CX0 1 f fd ["cell", "salt", "sizes"] spNumbers := by
  refine F.ok scNumbers (fun vs H Q E h => ?_) (fun cdv A outer s H vs Q E hr h => ?_)
  · obtain ⟨c, salt, m, sz, rfl, _⟩ := h
    rfl
  · obtain ⟨c, salt, m, sz, rfl, s0, s1, m0, m1, hz, q⟩ := h
    have nd := scNumbers.nd
    refine ⟨_, pss_cons (ps_set (i := 3) nd rfl (Or.inl rfl) (pe_callB (call_max2 rfl) (by rfl) B.max (by decide +kernel) (pa_cons (pe_callTy call_int1 (by rfl) B.int boot_int (pa_cons (pv 0) pa_nil)) (pa_cons (pe_callTy call_int1 (by rfl) B.int boot_int (pa_cons (pe_op op_sub (pe_un un_neg pe_int) (pv 0)) pa_nil)) pa_nil))))
      (pss_cons (ps_set (i := 4) nd rfl (Or.inl rfl) (pv 3))
      (pss_cons (ps_set (i := 5) nd rfl (Or.inl rfl) (pe_lst pa_nil))
      (pss_cons (ps_for PassesOwn.never rfl (pi_range1 (by rfl) B.range (pa_cons (pe_callB call_len_seq (by rfl) B.len PySem.boot_len (pa_cons (pv 2) pa_nil)) pa_nil)) (pg_name (i := 6) nd rfl (Or.inl rfl))
        (pss_one (ps_if (PW.pt (pw_and (pt_cmpR op_ge (pv 3) (pe_op op_pow pe_int pe_int) (nomark _)) (pw_and1 (pt_cmpR op_gt (pv 4) pe_int (nomark _)))))
          (pss_cons (ps_expr (pe_bm PySem.F.plainAttrs_list PySem.F.slot_list_append PySem.F.type_list_append mt_append (pv 5) (pa_cons (pe_op op_mod (pe_callTy call_int1 (by rfl) B.int boot_int (pa_cons (pv 4) pa_nil)) (pe_ix ix_list (pv 2) (pv 6) (fun _ _ => rfl))) pa_nil)))
          (pss_one (ps_set (i := 4) nd rfl (Or.inl rfl) (pe_op op_fdiv (pv 4) (pe_ix ix_list (pv 2) (pv 6) (fun _ _ => rfl))))))
          (pss_cons (ps_set (i := 7) nd rfl (Or.inl rfl) (pe_op op_pow (pe_op op_add (pe_op op_add (pe_op op_mod (pe_callTy call_int1 (by rfl) B.int boot_int (pa_cons (pv 3) pa_nil)) pe_int) (pe_op op_mul pe_int (pv 1))) pe_int) pe_int))
          (pss_cons (ps_set (i := 7) nd rfl (Or.inl rfl) (pe_op op_mul (pe_op op_add (pe_op op_mod (pe_callTy call_int1 (by rfl) B.int boot_int (pa_cons (pv 7) pa_nil)) pe_int) (pe_op op_mul pe_int (pe_op op_add (pv 6) pe_int))) (pe_op op_add (pv 6) pe_int)))
          (pss_cons (ps_set (i := 7) nd rfl (Or.inl rfl) (pe_op op_mod (pe_callTy call_int1 (by rfl) B.int boot_int (pa_cons (pv 7) pa_nil)) pe_int))
          (pss_cons (ps_set (i := 7) nd rfl (Or.inl rfl) (pe_op op_mul (pe_op op_mod (pe_callTy call_int1 (by rfl) B.int boot_int (pa_cons (pe_op op_pow (pv 7) pe_int) pa_nil)) pe_int) pe_int))
          (pss_cons (ps_set (i := 7) nd rfl (Or.inl rfl) (pe_op op_mod (pe_callTy call_int1 (by rfl) B.int boot_int (pa_cons (pv 7) pa_nil)) pe_int))
          (pss_one (ps_expr (pe_bm PySem.F.plainAttrs_list PySem.F.slot_list_append PySem.F.type_list_append mt_append (pv 5) (pa_cons (pe_op op_mod (pe_callTy call_int1 (by rfl) B.int boot_int (pa_cons (pe_op op_fdiv (pv 7) pe_int) pa_nil)) (pe_ix ix_list (pv 2) (pv 6) (fun _ _ => rfl))) pa_nil))))))))))))
      (pss_one (ps_ret (pv 5)))))), ?_⟩
    refine q_asg (ev_max (ev_int (ev_var rfl)) (ev_int (ev_op (ev_un ev_c ru_neg) (ev_var rfl) rv_I0))) fun H1 e1 => ?_
    generalize (if -1 - c > c then -1 - c else c) = wh
    refine q_asg (ev_var rfl) fun H2 e2 => ?_
    refine q_asgL (el_lst ea_nil (by decide)) fun r H3 hr3 e3 hl3 => ?_
    have hz3 : H3 sz = some (.lst (List.replicate m.toNat (.int 420))) := e3 _ _ (e2 _ _ (e1 _ _ hz))
    have fr : H r = none := fresh_back (e1.trans e2) hr3
    have up : Ex H H3 := e1.trans (e2.trans e3)
    refine q_forR1 (n := m) (ea_cons (fun H4 e4 Q4 q4 => ⟨_, rfl, sz, _, rfl, .inl (sq_of (e4 _ _ hz3)), by rw [List.length_replicate, show ((m.toNat : Nat) : Int) = m from by omega]; exact q4 H4 (Ex.refl _)⟩) ea_nil) (by omega)
      (fun i σ' H' => ∃ (l : Int) (ns : List Int) (k o : Option V), σ' = [some (.int c), some (.int salt), some (.ref sz), some (.int wh), some (.int l), some (.ref r), k, o] ∧ Ex H H' ∧ H' r = some (.lst (ns.map V.int)) ∧ ns.length = i ∧ ∀ n ∈ ns, 0 ≤ n)
      (fun H4 e4 => ⟨_, [], _, _, rfl, up.trans e4, e4 _ _ hl3, rfl, fun _ h => nomatch h⟩) ?turn ?after
    case after =>
      rintro σ' H' ⟨l, ns, k, o, rfl, ex, hl, hn, hp⟩
      exact ⟨_, rfl, q r H' ns ex hp (by omega) hl fr⟩
    case turn =>
      rintro i σ' H' hi ⟨l, ns, k, o, rfl, ex, hl, hn, hp⟩
      have hz' := ex _ _ hz
      have im : i < m.toNat := by omega
      have sizes : ∀ (σ2 : L2.St) (H4 : Hp), Ex H' H4 → σ2[2]? = some (some (.ref sz)) → σ2[6]? = some (some (V.int (i : Int))) → Ev (tOp (rIxL K) (tVar 2) (tVar 6)) σ2 H4 (.int 420) := fun σ2 H4 e h2 h6 => ev_op (ev_var h2) (ev_var h6) (rv_ixL (sq_of (e _ _ hz')) (at_rep im))
      have grow : ∀ {H4 : Hp} {n : Int}, Ex H' H4 → 0 ≤ n → Ex H (upd H4 r (.lst ((ns.map V.int) ++ [.int n]))) ∧ (upd H4 r (.lst ((ns.map V.int) ++ [.int n]))) r = some (.lst ((ns ++ [n]).map V.int)) ∧ (ns ++ [n]).length = i + 1 ∧ ∀ x ∈ ns ++ [n], 0 ≤ x := fun {H4 n} e h0 => by
        refine ⟨(ex.trans e).mut fr, by rw [upd_same, List.map_append]; rfl, by simp [hn], fun x hx => ?_⟩
        rcases List.mem_append.mp hx with hx | hx
        · exact hp x hx
        · rw [List.mem_singleton.mp hx]; exact h0
      refine s_if (et_and (et_test (ev_op (ev_var rfl) (ev_op ev_c ev_c (rv_I ⟨by decide, by decide, by decide⟩)) rv_I0)) fun _ => et_test (ev_op (ev_var rfl) ev_c rv_I0)) (fun _ H4 e4 => ?_) fun _ H4 e4 => ?_
      · refine q_app (e4 _ _ hl) (ev_var rfl) (ev_op (ev_int (ev_var rfl)) (sizes _ _ e4 rfl rfl) (rv_I (by decide))) (by rw [List.length_map]; omega) fun H5 e5 => ?_
        have g := grow (n := l % 420) (e4.trans e5) (Int.emod_nonneg _ (by decide))
        have hz5 : (upd H5 r (.lst ((ns.map V.int) ++ [.int (l % 420)]))) sz = some (.lst (List.replicate m.toNat (.int 420))) := g.1 _ _ hz
        refine s_asg (ev_op (ev_var rfl) (ev_op (ev_var rfl) (ev_var rfl) (rv_ixL (sq_of hz5) (at_rep im))) (rv_I ⟨by decide, by decide⟩)) fun H6 e6 => ?_
        exact ⟨_, _, _, _, rfl, g.1.trans e6, e6 _ _ g.2.1, g.2.2⟩
      · have w0 : 0 ≤ wh % 2147483629 := Int.emod_nonneg _ (by decide)
        have w1 : wh % 2147483629 < 2147483629 := Int.emod_lt_of_pos _ (by decide)
        refine q_asg (ev_op (ev_op (ev_op (ev_op (ev_int (ev_var rfl)) ev_c (rv_I (by decide))) (ev_op ev_c (ev_var rfl) (rv_I (.inl ⟨by decide, by decide⟩))) rv_I0) ev_c rv_I0) ev_c (rv_I ⟨by decide, by decide, by omega⟩)) fun H5 e5 => ?_
        generalize (wh % 2147483629 + 7919 * salt + 1) ^ (3 : Int).toNat = o1
        have a0 : 0 ≤ o1 % 2147483647 := Int.emod_nonneg _ (by decide)
        have a1 : o1 % 2147483647 < 2147483647 := Int.emod_lt_of_pos _ (by decide)
        refine q_asg (ev_op (ev_op (ev_op (ev_int (ev_var rfl)) ev_c (rv_I (by decide))) (ev_op ev_c (ev_op (ev_var rfl) ev_c rv_I0) (rv_I (.inl ⟨by decide, by decide⟩))) rv_I0) (ev_op (ev_var rfl) ev_c rv_I0) (rv_I (.inl ⟨by omega, by omega⟩))) fun H6 e6 => ?_
        generalize (o1 % 2147483647 + 104729 * ((i : Int) + 1)) * ((i : Int) + 3) = o2
        refine q_asg (ev_op (ev_int (ev_var rfl)) ev_c (rv_I (by decide))) fun H7 e7 => ?_
        have b0 : 0 ≤ o2 % 2147483629 := Int.emod_nonneg _ (by decide)
        have b1 : o2 % 2147483629 < 2147483629 := Int.emod_lt_of_pos _ (by decide)
        generalize o2 % 2147483629 = o3 at b0 b1 ⊢
        refine q_asg (ev_op (ev_op (ev_int (ev_op (ev_var rfl) ev_c (rv_I ⟨by decide, by decide, by omega⟩))) ev_c (rv_I (by decide))) ev_c (rv_I (.inr ⟨by decide, by decide⟩))) fun H8 e8 => ?_
        generalize o3 ^ (5 : Int).toNat % 2147483647 * 48271 = o4
        refine q_asg (ev_op (ev_int (ev_var rfl)) ev_c (rv_I (by decide))) fun H9 e9 => ?_
        generalize o4 % 2147483629 = o5
        have e49 : Ex H' H9 := e4.trans (e5.trans (e6.trans (e7.trans (e8.trans e9))))
        refine s_app (e49 _ _ hl) (ev_var rfl) (ev_op (ev_int (ev_op (ev_var rfl) ev_c (rv_I ⟨by decide, by decide⟩))) (sizes _ _ e49 rfl rfl) (rv_I (by decide))) (by rw [List.length_map]; omega) fun H10 e10 => ?_
        have g := grow (n := o5 / 16 % 420) (e49.trans e10) (Int.emod_nonneg _ (by decide))
        exact ⟨_, _, _, _, rfl, g.1, g.2.1, g.2.2⟩
/-! ### a pool is made, drawn from, picked by -/
def spPool (K : PySem.W.Frag) : Sp := fun vs H Q _ => ∃ c salt m : Int, vs = [.int c, .int salt, .int m] ∧ 0 ≤ salt ∧ salt ≤ 100 ∧ 0 ≤ m ∧ m ≤ 1000 ∧ ∀ x H', Ex H H' → PoolV K x H' → Q x H'
def spDraw (K : PySem.W.Frag) : Sp := fun vs H Q _ => ∃ (x : V) (m : Int), vs = [x, .int m] ∧ PoolV K x H ∧ 0 < m ∧ ∀ n H', 0 ≤ n → n < m → Ex H H' → Q (.int n) H'
def spPick (K : PySem.W.Frag) : Sp := fun vs H Q _ => ∃ (x : V) (l : Addr) (xs : List V), vs = [x, .ref l] ∧ PoolV K x H ∧ SqL K H l xs ∧ xs ≠ [] ∧ ∀ (v : V) (H' : Hp) (i : Nat), xs[i]? = some v → Ex H H' → Q v H'
theorem scPool : FnScope ["cell", "salt", "many"] ["cell", "salt", "many"] (defScope sPool) := ⟨rfl, rfl, rfl, by decide +kernel, rfl, by decide +kernel, by decide +kernel⟩
theorem ok_pool {f fN : Addr} {fd fdN : FuncData} (F : Fun K "_law_pool" "_law_pool" sPool f fd) (GN : FnOk P w K mg base CX0 1 fN fdN ["cell", "salt", "sizes"] spNumbers) (mN : mg "_law_numbers" = some (.ref fN)) (kN : PySem.W.keepIn K (.ref fN) = true) (bN : L2.Binds K fdN ["cell", "salt", "sizes"] []) :
    FnOk P w K mg base CX0 2 f fd ["cell", "salt", "many"] (spPool K) := by
  refine F.ok scPool (fun vs H Q E h => ?_) (fun cdv A outer s H vs Q E hr h => ?_)
  · obtain ⟨c, salt, m, rfl, _⟩ := h
    rfl
  · obtain ⟨c, salt, m, rfl, s0, s1, m0, m1, q⟩ := h
    refine ⟨_, pss_one (ps_ret (pe_recast (pe_lst (pa_cons (pe_call GN hr (by rfl) mN kN bN .nil pass0 (pa_cons (pv 0) (pa_cons (pv 1) (pa_cons (pe_op op_rep (pe_lst (pa_cons pe_int pa_nil)) (pv 2)) pa_nil)))) (pa_cons pe_int pa_nil))))), ?_⟩
    refine ⟨_, rfl, _, rfl, by decide, fun l hl => ⟨_, rfl, l, m, _, rfl, rfl, upd_same, by omega, by omega, by show 1 * m.toNat ≤ sizeLine; rw [Nat.one_mul]; exact sz_of (by omega), fun z hz => ?_⟩⟩
    refine ⟨c, salt, m, z, rfl, s0, s1, m0, m1, by rw [upd_same]; simp, fun p H' ns ex hp hn hl2 hf => ?_⟩
    refine ⟨by show 2 ≤ sizeLine; decide, fun r hr2 => ⟨r, p, 0, rfl, by decide, upd_same, ?_⟩⟩
    have up0 : Ex H H' := (Ex.new hl).trans ((Ex.new hz).trans ex)
    have eq2 : upd (upd H' r (.lst [.ref p, .int 0])) r (poolO r p) = upd H' r (poolO r p) := upd_upd
    have np : p ≠ r := ne_of_none hl2 hr2
    refine q (.ref r) _ (by rw [eq2]; exact up0.trans (Ex.new hr2)) ⟨r, p, rfl, by rw [eq2]; exact upd_same, ns, hp, hn, by rw [eq2, upd_ne np]; exact hl2⟩
theorem scDraw : FnScope ["pool", "many", "at"] ["pool", "many"] (defScope sDraw) := ⟨rfl, rfl, rfl, by decide +kernel, rfl, by decide +kernel, by decide +kernel⟩
theorem ok_draw {f : Addr} {fd : FuncData} (F : Fun K "_law_draw" "_law_draw" sDraw f fd) (B : Bt mg) : FnOk P w K mg base CX0 1 f fd ["pool", "many"] (spDraw K) := by
  refine F.ok scDraw (fun vs H Q E h => ?_) (fun cdv A outer s H vs Q E hr h => ?_)
  · obtain ⟨x, m, rfl, _⟩ := h
    rfl
  · obtain ⟨x, m, rfl, ⟨p, a, rfl, hp, ns, hn, hl, ha⟩, m0, q⟩ := h
    refine ⟨_, pss_cons (ps_set (i := 2) scDraw.nd rfl (Or.inl rfl) (pe_ix ix_pool (pv 0) pe_int (fun _ _ => rfl)))
      (pss_cons (ps_asg (pe_op op_add (pv 2) pe_int) (pg_sub (pv 0) pe_int set_pool))
      (pss_one (ps_ret (pe_ifExp (pt_cmpR op_lt (pv 2) (pe_callB call_len_seq (by rfl) B.len PySem.boot_len (pa_cons (pe_ix ix_pool (pv 0) pe_int (fun _ _ => rfl)) pa_nil)) (nomark _))
        (pe_op op_mod (pe_callTy call_int1 (by rfl) B.int boot_int (pa_cons (pe_ix ix_list (pe_ix ix_pool (pv 0) pe_int (fun _ _ => rfl)) (pv 2) (fun _ _ => rfl)) pa_nil)) (pv 1)) pe_int)))), ?_⟩
    refine ⟨_, rfl, p, a, rfl, hp, .inr ⟨rfl, fun i i0 => ?_⟩⟩
    refine ⟨_, rfl, _, _, rfl, rfl, _, rfl, p, a, i + 1, rfl, rfl, rfl, by omega, hp, ?_⟩
    refine ⟨_, rfl, _, rfl, p, a, rfl, hp, .inl ⟨rfl, a, _, rfl, .inl (sq_of ha), ?_⟩⟩
    refine ⟨_, _, rfl, rfl, _, rfl, ?_⟩
    refine ite2 (fun c => ?_) fun _ => q 0 H (by decide) m0 (Ex.refl _)
    have c' : i < ((ns.map V.int).length : Int) := of_decide_eq_true c
    obtain ⟨j, rfl⟩ : ∃ j : Nat, i = (j : Int) := ⟨i.toNat, by omega⟩
    have jl : j < ns.length := by rw [List.length_map] at c'; omega
    refine ⟨_, rfl, p, a, rfl, hp, .inl ⟨rfl, _, rfl, a, ns.map V.int, (j : Int), V.int (ns[j]), rfl, rfl, sq_of ha, ?_, .inl ⟨_, rfl, _, rfl, _, _, rfl, rfl, m0, q _ H (Int.emod_nonneg _ (by omega)) (Int.emod_lt_of_pos _ m0) (Ex.refl _)⟩⟩⟩
    unfold atI
    rw [ixN_nat (by rw [List.length_map]; exact jl)]
    simp [jl]
theorem scPick : FnScope ["pool", "some"] ["pool", "some"] (defScope sPick) := ⟨rfl, rfl, rfl, by decide +kernel, rfl, by decide +kernel, by decide +kernel⟩
theorem ok_pick {f fD : Addr} {fd fdD : FuncData} (F : Fun K "_law_pick" "_law_pick" sPick f fd) (B : Bt mg) (GD : FnOk P w K mg base CX0 1 fD fdD ["pool", "many"] (spDraw K)) (mD : mg "_law_draw" = some (.ref fD)) (kD : PySem.W.keepIn K (.ref fD) = true) (bD : L2.Binds K fdD ["pool", "many"] []) :
    FnOk P w K mg base CX0 2 f fd ["pool", "some"] (spPick K) := by
  refine F.ok scPick (fun vs H Q E h => ?_) (fun cdv A outer s H vs Q E hr h => ?_)
  · obtain ⟨x, l, xs, rfl, _⟩ := h
    rfl
  · obtain ⟨x, l, xs, rfl, hp, hl, ne, q⟩ := h
    refine ⟨_, pss_one (ps_ret (pe_ix ix_list (pv 1) (pe_call GD hr (by rfl) mD kD bD .nil pass0 (pa_cons (pv 0) (pa_cons (pe_callB call_len_seq (by rfl) B.len PySem.boot_len (pa_cons (pv 1) pa_nil)) pa_nil))) (fun _ _ => rfl))), ?_⟩
    have lp : 0 < xs.length := List.length_pos_iff.mpr ne
    refine ⟨_, rfl, _, rfl, _, rfl, l, xs, rfl, .inl hl, x, xs.length, rfl, hp, by omega, fun n H' n0 n1 ex => ?_⟩
    obtain ⟨j, rfl⟩ : ∃ j : Nat, n = (j : Int) := ⟨n.toNat, by omega⟩
    have jl : j < xs.length := by omega
    refine ⟨l, xs, (j : Int), xs[j], rfl, rfl, ex_l ex hl, ?_, q _ H' j (List.getElem?_eq_getElem jl) ex⟩
    unfold atI
    rw [ixN_nat jl]
    exact List.getElem?_eq_getElem jl
end
end Lw
set_option maxHeartbeats 4000000
/-! raise C(x), C an own error whose __init__ keeps its one argument. -/
namespace Err
open PySem PySem.Spec PyProof.Rows L2
section
variable {X : Cx} {C fI : Addr} {f x : Str} {a : Expr} {te : TE} {p pos : Pos}
/-- an error that flies: its own dict is laid, itself it is not told of -/
theorem Made.fly {pins : List (Addr × Obj)} {σ : L2.St} {H : Hp} {s : Shared} {h' : Heap} {t' : Nat} {e d : Addr} {v : V} {u : Value} {Q : XK} (I : Inv X pins σ H s) (M : Made s.heap h' e C d f u) (r : RelV v u) (R : Raises X (.ref C))
    (q : Q (.ref C) (some d) (upd H d (.xd [(f, v)]))) : MkP X pins σ Q (.ref e) { s with heap := h', toks := t' } := by
  obtain ⟨G, in_, out⟩ := restrict h' fun b => decide (b ≠ e)
  have same : ∀ {b : Addr}, b ≠ e → G.get? b = h'.get? b := fun {b} hb => in_ b (decide_eq_true hb)
  have gone : G.get? e = none := out e (by simp)
  have old : ∀ b o, s.heap.get? b = some o → G.get? b = some o := fun b o q => by
    rw [same (Nat.ne_of_lt (Nat.lt_of_lt_of_le (Heap.lt_size q) M.new))]
    exact M.keep b o q
  have J : Inv X pins σ (upd H d (.xd [(f, v)])) { s with heap := G, toks := t' } :=
    I.laid (t' := t') (a := d) (o := .xd [(f, v)]) (h' := G) old M.dbig ⟨_, M.ns.at fun o z => (same M.dne).trans z, fun g => one_field r f g⟩
  obtain ⟨t0, ho⟩ := M.obj
  refine ⟨e, raw C t0 (some d), _, { s with heap := G, toks := t' }, _, .ref C, some d, rfl, J, fun b o z => ?_, gone, ho, ⟨rfl, rfl⟩, rfl, rfl, ?_, rfl, I.bare, R, q⟩
  · by_cases hb : b = e
    · rw [hb, gone] at z
      cases z
    · exact (same hb).symm.trans z
  · rw [upd_ne (Ne.symm M.dne)]
    exact I.hok.fresh M.new
/-- the reading of C(x) that is raised -/
def tFly (C : Addr) (f : Str) (te : TE) : L2.St → Hp → XK → Prop := fun σ H Q => te σ H fun v H1 => ∀ d, H1 d = none → Q (.ref C) (some d) (upd H1 d (.xd [(f, v)]))
theorem pmk_err (T : ErrC X.K C fI f) (pf : Plain f) (hr : Room 1 X.A) (hm : X.mg x = some (.ref C)) (hg : Gl X x) (ha : PE X a te)
    (hb : ∀ (y : Addr) (u : Value) (qn : Str) (doc pm : Value) (an : Option Addr) (cdv ct : Value) (p1 p2 q1 q2 q3 q4 : Pos), bindArgs (PySem.W.fnOf "__init__" qn (iA f p1 p2) (iB f q1 q2 q3 q4) (iS f) .none .none doc pm an cdv ct) ⟨[.ref y, u], []⟩ = pure [(("self" : Str), Value.ref y), (f, u)])
    (hs : starEach [a] X.env = (false, eval a X.env) :: starEach [] X.env := by rfl) (hdb : (x == ("__debug__" : Str)) = false := by decide) (hpl : (backTo pos (starEach [] X.env)).any (·.1) = false := by rfl) :
    PMk X (.Call (.Name x p) [a] [] pos) (tFly C f te) := by
  intro pins s σ H Q I h
  refine wpAny_Call_Name_kw (ld_glob I hg hm ?_ hdb)
  refine PySem.W.callWith_K (h₀ := X.base) I.ok.mod.kin T.kC ?_ hs hpl
  rw [hs]
  show wpAny _ _ (spliced ((false, eval a X.env) :: backTo pos (starEach [] X.env))) _ _ s
  refine Calls.spliced_cons (thn (ha.run pins s σ H _ I h) fun u s1 ⟨v, H1, I1, r1, q1⟩ => ?_)
  refine Calls.spliced_nil ⟨I1.kIn, ?_⟩
  show wpAny _ _ (call (.ref C) [u]) _ _ _
  have lim := I1.nolimit
  have hd := hr.dp
  have fly : ∀ {h' : Heap} {t' : Nat} {e d : Addr}, Made s1.heap h' e C d f u → MkP X pins σ Q (.ref e) { s1 with heap := h', toks := t' } := fun {h' t' e d} M => M.fly I1 r1 (raises_own T.exC T.tyC) (q1 d (I1.hok.fresh M.dbig))
  exact wpAny_call (made_any T pf I1.kIn lim (by omega) (by show 1 ≤ sizeLine; rw [sizeLine_eq]; omega) (fun y => hb y u) fun h' t' e d M => fly M)
end
end Err
set_option maxHeartbeats 4000000
/-! Data whose lists and tuples were made in the run. {k: True for k in xs} over a list of pairs. -/
namespace Chk
open PySem PySem.Spec PyProof.Rows L2 Evl Pd Gd Us
mutual
inductive Dq (H : Hp) : V → PyData → Prop
  | non : Dq H .non .none
  | bl (b : Bool) : Dq H (.bl b) (.bool b)
  | int (i : Int) : Dq H (.int i) (.int i)
  | str (x : Str) : Dq H (.str x) (.str x)
  | lst {a : Addr} {xs : List V} {ds : List PyData} : xs.length ≤ 100000 → H a = some (.lst xs) → DqAll H xs ds → Dq H (.ref a) (.list ds)
  | tup {a : Addr} {xs : List V} {ds : List PyData} : H a = some (.tup xs) → DqAll H xs ds → Dq H (.ref a) (.tuple ds)
inductive DqAll (H : Hp) : List V → List PyData → Prop
  | nil : DqAll H [] []
  | cons {v : V} {vs : List V} {d : PyData} {ds : List PyData} : Dq H v d → DqAll H vs ds → DqAll H (v :: vs) (d :: ds)
end
mutual
theorem dq_up {H H' : Hp} (e : Ex H H') : ∀ {x : V} {d : PyData}, Dq H x d → Dq H' x d
  | _, _, .non => .non
  | _, _, .bl b => .bl b
  | _, _, .int i => .int i
  | _, _, .str x => .str x
  | _, _, .lst z h a => .lst z (e _ _ h) (dqAll_up e a)
  | _, _, .tup h a => .tup (e _ _ h) (dqAll_up e a)
theorem dqAll_up {H H' : Hp} (e : Ex H H') : ∀ {xs : List V} {ds : List PyData}, DqAll H xs ds → DqAll H' xs ds
  | _, _, .nil => .nil
  | _, _, .cons h a => .cons (dq_up e h) (dqAll_up e a)
end
mutual
theorem dq_dp {K : PySem.W.Frag} {H : Hp} : ∀ {x : V} {d : PyData}, Dq H x d → Dp K H x d
  | _, _, .non => .non
  | _, _, .bl b => .bl b
  | _, _, .int i => .int i
  | _, _, .str x => .str x
  | _, _, .lst _ h a => .lst (sq_of h) (dqAll_dp a)
  | _, _, .tup h a => .tup (st_of h) (dqAll_dp a)
theorem dqAll_dp {K : PySem.W.Frag} {H : Hp} : ∀ {xs : List V} {ds : List PyData}, DqAll H xs ds → DpAll K H xs ds
  | _, _, .nil => .nil
  | _, _, .cons h a => .cons (dq_dp h) (dqAll_dp a)
end
theorem dqAll_len {H : Hp} : ∀ {xs : List V} {ds : List PyData}, DqAll H xs ds → xs.length = ds.length
  | _, _, .nil => rfl
  | _, _, .cons _ h => congrArg Nat.succ (dqAll_len h)
theorem dqAll_at {H : Hp} : ∀ {xs : List V} {ds : List PyData} {i : Nat} {x : V}, DqAll H xs ds → xs[i]? = some x → ∃ d, ds[i]? = some d ∧ Dq H x d
  | _, _, 0, _, .cons h _, e => by cases e; exact ⟨_, rfl, h⟩
  | _, _, i + 1, _, .cons _ t, e => by
    obtain ⟨x, h1, h2⟩ := dqAll_at (i := i) t e
    exact ⟨x, h1, h2⟩
theorem dqAll_get {H : Hp} : ∀ {xs : List V} {ds : List PyData} {i : Nat} {d : PyData}, DqAll H xs ds → ds[i]? = some d → ∃ x, xs[i]? = some x ∧ Dq H x d
  | _, _, 0, _, .cons h _, e => by cases e; exact ⟨_, rfl, h⟩
  | _, _, i + 1, _, .cons _ t, e => by
    obtain ⟨x, h1, h2⟩ := dqAll_get (i := i) t e
    exact ⟨x, h1, h2⟩
def Qe (d : PyData) : PV := fun x H => Dq H x d
theorem mo_qe {d : PyData} : Mo (Qe d) := fun _ _ _ e h => dq_up e h
theorem mo_qes {ds : List PyData} : ∀ P ∈ ds.map Qe, Mo P := fun P hP => by
  obtain ⟨d, _, rfl⟩ := List.mem_map.mp hP
  exact mo_qe
theorem allP_qe {H : Hp} : ∀ {ds : List PyData} {xs : List V}, AllP (ds.map Qe) xs H → DqAll H xs ds
  | [], [], _ => .nil
  | d :: ds, x :: xs, h => .cons h.1 (allP_qe h.2)
section
variable {K : PySem.W.Frag} {σ : L2.St} {H : Hp} {te ta tb : TE} {tr : TA} {d e : PyData} {ds : List PyData}
theorem EvP.de (h : EvP te σ H (Qe d)) : EvP te σ H (De K d) := h.imp fun _ _ _ p => dq_dp p
theorem q_int {i : Int} : EvP (tC (.int i)) σ H (Qe (.int i)) := p_c.imp fun x _ _ hx => by rw [show x = _ from hx]; exact .int i
theorem q_str {s : Str} : EvP (tC (.str s)) σ H (Qe (.str s)) := p_c.imp fun x _ _ hx => by rw [show x = _ from hx]; exact .str s
theorem q_bl {b : Bool} : EvP (tC (.bl b)) σ H (Qe (.bool b)) := p_c.imp fun x _ _ hx => by rw [show x = _ from hx]; exact .bl b
theorem q_non : EvP (tC .non) σ H (Qe .none) := p_c.imp fun x _ _ hx => by rw [show x = _ from hx]; exact .non
theorem q_lst (h : EvPs tr σ H (ds.map Qe)) (hl : ds.length ≤ 100000 := by first | decide | simp) : EvP (tLst tr) σ H (Qe (.list ds)) :=
  (p_lst mo_qes h (by rw [List.length_map]; exact hl)).imp fun x H1 _ ⟨a, xs, h1, h2, h3⟩ => by
    have z := allP_qe h3
    rw [h1]; exact .lst (by rw [dqAll_len z]; exact hl) h2 z
theorem q_tup (h : EvPs tr σ H (ds.map Qe)) (hl : ds.length ≤ 100000 := by first | decide | simp) : EvP (tTup tr) σ H (Qe (.tuple ds)) :=
  (p_tup mo_qes h (by rw [List.length_map]; exact hl)).imp fun x H1 _ ⟨a, xs, h1, h2, h3⟩ => by rw [h1]; exact .tup h2 (allP_qe h3)
theorem q_var {i : Nat} {x : V} (h : σ[i]? = some (some x)) (hd : Dq H x d) : EvP (tVar i) σ H (Qe d) := p_var h mo_qe hd
end
/-! ### the dict of a list of pairs -/
/-- a new key goes to the end -/
def addK (ks : List (List Key)) (k : List Key) : List (List Key) := if (ks.any fun x => decide (x = k)) = true then ks else ks ++ [k]
def onceK (l : List (List Key)) : List (List Key) := l.foldl addK []
def trues (ks : List (List Key)) : List (List Key × V) := ks.map fun k => (k, V.bl true)
theorem put_true (ks : List (List Key)) (k : List Key) : putK (trues ks) k (.bl true) = trues (addK ks k) := by
  unfold putK addK trues
  rw [List.any_map]
  show (if (ks.any fun x => decide (x = k)) = true then _ else _) = _
  by_cases h : (ks.any fun x => decide (x = k)) = true
  · rw [if_pos h, if_pos h, List.map_map]
    refine List.map_congr_left fun x hx => ?_
    show (if x = k then (x, V.bl true) else (x, V.bl true)) = _
    split <;> rfl
  · rw [if_neg h, if_neg h, List.map_append]
    rfl
theorem once_len (l : List (List Key)) : (onceK l).length ≤ l.length := by
  have : ∀ (l acc : List (List Key)), (l.foldl addK acc).length ≤ acc.length + l.length := by
    intro l
    induction l with
    | nil => intro acc; exact Nat.le_refl _
    | cons k l ih =>
      intro acc
      refine Nat.le_trans (ih (addK acc k)) ?_
      have : (addK acc k).length ≤ acc.length + 1 := by
        unfold addK
        split <;> simp
      rw [List.length_cons]
      omega
  simpa [onceK] using this l []
theorem once_snoc (l : List (List Key)) (k : List Key) : onceK (l ++ [k]) = addK (onceK l) k := by
  unfold onceK
  rw [List.foldl_append]
  rfl
theorem ite1 {A B : Prop} (h : A) : if true = true then A else B := by
  rw [if_pos rfl]
  exact h
/-- the values are tuples of these keys -/
def KeyAll (H : Hp) (xs : List V) (ks : List (List Key)) : Prop := xs.length = ks.length ∧ ∀ (i : Nat) (x : V) (k : List Key), xs[i]? = some x → ks[i]? = some k → ∃ b, x = .ref b ∧ H b = some (.tup (k.map kV))
theorem p_dct {K : PySem.W.Frag} {σ : L2.St} {H : Hp} {tl : TE} {j : Nat} {vs : List Nat} {a : Addr} {xs : List V} {ks : List (List Key)} {Q : VK} (h : Ev tl σ H (.ref a)) (ha : H a = some (.lst xs)) (hx : KeyAll H xs ks) (hz : xs.length ≤ 40000)
    (hw : ∀ x, wipe ((wipe σ vs).set j (some x)) vs = wipe σ vs) (hv : ∀ x, ((wipe σ vs).set j (some x))[j]? = some (some x))
    (q : ∀ D H', H D = none → Ex H H' → H' D = some (.dT (trues (onceK ks))) → Q (.ref D) H') : Dct.tDct (.dT []) (iList K tl) (gName j) tYes (tVar j) (tC (.bl true)) vs σ H Q := by
  refine h H (Ex.refl H) _ fun H1 e1 => ⟨a, rfl, ⟨xs, sq_of (e1 _ _ ha)⟩, fun D hD => ?_⟩
  have fr : H D = none := fresh_back e1 hD
  refine ⟨fun i m H2 => m = xs.length - i ∧ i ≤ xs.length ∧ Ex H H2 ∧ H2 D = some (.dT (trues (onceK (ks.take i)))), ⟨xs.length, by simp, Nat.zero_le _, e1.trans (Ex.new hD), upd_same⟩, ?_⟩
  rintro i m H2 ⟨rfl, hi, ex, hd⟩
  have hl : SqL K H2 a xs := sq_of (ex _ _ ha)
  by_cases lt : i < xs.length
  · refine .inr ⟨⟨xs, xs[i], hl, by simp [lt]⟩, fun H3 => i + 1 ≤ xs.length ∧ Ex H H3 ∧ H3 D = some (.dT (trues (onceK (ks.take (i + 1))))), fun H3 n => ⟨xs.length - (i + 1), by omega, rfl, n⟩, fun x H3 y => ?_⟩
    obtain ⟨rfl, y⟩ := y
    have at_ : xs[i]? = some x := y xs hl
    have lk : i < ks.length := by rw [← hx.1]; exact lt
    obtain ⟨b, rfl, hb⟩ := hx.2 i x ks[i] at_ (List.getElem?_eq_getElem lk)
    refine ⟨hw (.ref b), ?_⟩
    unfold tYes
    simp only [if_true]
    refine ⟨_, hv (.ref b), ?_⟩
    have grow : ks.take (i + 1) = ks.take i ++ [ks[i]] := by rw [List.take_append_getElem lk]
    have short : (trues (onceK (ks.take i))).length < sizeLine := by
      have := once_len (ks.take i)
      rw [List.length_take] at this
      have : (onceK (ks.take i)).length ≤ 40000 := by have := hx.1; omega
      show ((onceK (ks.take i)).map _).length < sizeLine
      rw [List.length_map]
      exact sz_lt (by omega)
    refine ⟨_, DPut.t hd (ex _ _ hb) short, lt, ex.mut fr, ?_⟩
    rw [upd_same, put_true, grow, once_snoc]
  · have e : i = xs.length := by omega
    refine .inl ⟨⟨xs, hl, by omega⟩, q D H2 fr ex ?_⟩
    rw [hd, e, hx.1, List.take_length]
end Chk
set_option maxHeartbeats 4000000
namespace Chk
open PySem PySem.Spec PyProof.Rows L2 Evl Pd Gd Us
abbrev mInit : Stmt := Tp.m_Setting___init__
/-- what a setting holds -/
structure Stg where
  kind : Str
  size : Int
  start : Int
  ks : List (List Key)
  hold : Str
def keyOf : PyData → List Key
  | .tuple [.int i, .int j] => [.inl i, .inl j]
  | _ => []
def keysOf : PyData → List (List Key)
  | .list ds => ds.map keyOf
  | _ => []
def settingOf (p : Pts) : Stg := ⟨strOf p.sort, intOf p.size, intOf p.start, onceK (keysOf p.changes), strOf p.hold⟩
structure SetAt (C : Addr) (g : Stg) (a : Addr) (H : Hp) : Prop where
  ex : ∃ dx d fs, H a = some (.ins C dx fs) ∧ H d = some (.dT (trues g.ks)) ∧ fs.lookup ("_kind" : Str) = some (V.str g.kind) ∧ fs.lookup ("_size" : Str) = some (V.int g.size) ∧ fs.lookup ("_start" : Str) = some (V.int g.start) ∧ fs.lookup ("_changes" : Str) = some (V.ref d) ∧ fs.lookup ("_hold" : Str) = some (V.str g.hold) ∧ fs.lookup ("changes" : Str) = none ∧ fs.lookup ("lets" : Str) = none
def SetV (C : Addr) (g : Stg) : PV := fun x H => ∃ a, x = .ref a ∧ SetAt C g a H
theorem mo_set {C : Addr} {g : Stg} : Mo (SetV C g) := fun _ _ _ e ⟨a, h, dx, d, fs, h1, h2, h3⟩ => ⟨a, h, dx, d, fs, e _ _ h1, e _ _ h2, h3⟩
structure DqP (H : Hp) (a b c d e : V) (p : Pts) : Prop where
  sort : Dq H a p.sort
  size : Dq H b p.size
  start : Dq H c p.start
  changes : Dq H d p.changes
  hold : Dq H e p.hold
  short : Short p.changes
/-- what is right -/
theorem right_of {p : Pts} (h : wrong p = none) : inT sorts p.sort = true ∧ betw 2 4 p.size = true ∧ betw 0 (intOf p.size - 1) p.start = true ∧ okChs (intOf p.size) p.changes = true ∧ isHold (strOf p.sort) p.hold = true := by
  unfold wrong at h
  split at h
  · cases h
  split at h
  · cases h
  split at h
  · cases h
  split at h
  · cases h
  split at h
  · cases h
  rename_i h1 h2 h3 h4 h5
  exact ⟨by simpa using h1, by simpa using h2, by simpa using h3, by simpa using h4, by simpa using h5⟩
theorem inT_str {xs : List Str} {d : PyData} (h : inT xs d = true) : d = .str (strOf d) := by
  unfold inT at h
  split at h
  · rfl
  · cases h
theorem betw_int {lo hi : Int} {d : PyData} (h : betw lo hi d = true) : d = .int (intOf d) := by
  unfold betw at h
  split at h
  · rfl
  · cases h
theorem hold_str {s : Str} {d : PyData} (h : isHold s d = true) : d = .str (strOf d) := by
  unfold isHold at h
  split at h
  · exact inT_str h
  · exact inT_str h
theorem ch_list {n : Int} {d : PyData} (h : okChs n d = true) : ∃ ds, d = .list ds ∧ ∀ e ∈ ds, okCh n e = true := by
  unfold okChs at h
  split at h
  · exact ⟨_, rfl, fun e he => (List.all_eq_true.mp h) e he⟩
  · cases h
theorem key_tup {H : Hp} {x : V} {n : Int} {e : PyData} (h : Dq H x e) (ok : okCh n e = true) : ∃ b, x = .ref b ∧ H b = some (.tup ((keyOf e).map kV)) := by
  unfold okCh at ok
  rw [Bool.and_eq_true] at ok
  obtain ⟨i, j, rfl⟩ := isPair_ints ok.1
  cases h with
  | tup h a =>
    cases a with
    | cons h1 a =>
      cases a with
      | cons h2 a =>
        cases a
        cases h1
        cases h2
        exact ⟨_, rfl, h⟩
theorem keyAll_of {H : Hp} {xs : List V} {ds : List PyData} {n : Int} (h : DqAll H xs ds) (ok : ∀ e ∈ ds, okCh n e = true) : KeyAll H xs (ds.map keyOf) := by
  refine ⟨by rw [dqAll_len h, List.length_map], fun i x k hx hk => ?_⟩
  obtain ⟨e, he, hd⟩ := dqAll_at h hx
  rw [List.getElem?_map, he] at hk
  cases hk
  exact key_tup hd (ok e (List.mem_of_getElem? he))
theorem putF_len (f : Str) (v : V) : ∀ fs : List (Str × V), (putF f v fs).length ≤ fs.length + 1
  | [] => Nat.le_refl _
  | (g, x) :: r => by
    unfold putF
    split
    · simp
    · have := putF_len f v r
      simp only [List.length_cons]
      omega
structure ClsS (K : PySem.W.Frag) (C : Addr) : Prop where
  cl : Cls K C
  kind : NoAttr K C "_kind"
  size : NoAttr K C "_size"
  start : NoAttr K C "_start"
  changes : NoAttr K C "_changes"
  hold : NoAttr K C "_hold"
def spInit (C CB : Addr) : Sp := fun vs H Q E => vs.length = 6 ∧ ∃ (a dx : Addr) (x1 x2 x3 x4 x5 : V) (p : Pts), vs = [.ref a, x1, x2, x3, x4, x5] ∧ H a = some (.ins C dx []) ∧ DqP H x1 x2 x3 x4 x5 p ∧
  (∀ t, wrong p = some t → ∀ d H', Ex H H' → H' d = none → E (.ref CB) (some d) (upd H' d (.xd [("part", V.str t)]))) ∧
  (wrong p = none → ∀ H', (∀ b o, b ≠ a → H b = some o → H' b = some o) → SetAt C (settingOf p) a H' → Q .non H')
theorem scInit : FnScope ["self", "sort", "size", "start", "changes", "hold", "part", "pair"] ["self", "sort", "size", "start", "changes", "hold"] (defScope mInit) := ⟨rfl, rfl, rfl, by decide +kernel, rfl, by decide +kernel, by decide +kernel⟩
theorem pf_part : Err.Plain "part" := ⟨by decide +kernel, by decide +kernel⟩
section
variable {P : Program} {w : World} {K : PySem.W.Frag} {mg : Str → Option Value} {base : Heap}
theorem ok_init {C CB fB f : Addr} {fd : FuncData} (F : Fun K "__init__" "Setting.__init__" mInit f fd) (EB : Err.ErrC K CB fB "part") (mB : mg "BadSetting" = some (.ref CB)) (T : ClsS K C)
    (UW : Use P w K mg base 5 "wrong_part_settings" ["sort", "size", "start", "changes", "hold"] (spWrong K)) : FnOk P w K mg base (L2.CX P w) 6 f fd ["self", "sort", "size", "start", "changes", "hold"] (spInit C CB) := by
  refine F.okX scInit (fun vs H Q E h => h.1) (fun cdv A outer s H vs Q E hr h => ?_)
  obtain ⟨_, a, dx, x1, x2, x3, x4, x5, p, rfl, ha, hp, bad, good⟩ := h
  refine ⟨_, pss_cons (ps_set (i := 6) scInit.nd rfl (Or.inl rfl) (pe_use UW hr (by decide) (by rfl) (pa_cons (pv 1) (pa_cons (pv 2) (pa_cons (pv 3) (pa_cons (pv 4) (pa_cons (pv 5) pa_nil)))))))
    (pss_cons (ps_if (pt_cmpR op_notN (pv 6) pe_non (nomark _)) (pss_one (ps_raise rfl (takes_of rfl rfl rfl rfl) (Err.pmk_err EB pf_part (hr.mono (by decide)) mB (by rfl) (pv 6) (fun _ _ _ _ _ _ _ _ _ _ _ _ _ _ => rfl)))) pss_nil)
    (pss_cons (ps_fld (pv 0) (pv 1) rfl) (pss_cons (ps_fld (pv 0) (pv 2) rfl) (pss_cons (ps_fld (pv 0) (pv 3) rfl)
    (pss_cons (ps_fld (pv 0) (Dct.pe_dct (mk := .dT []) (own := [("pair", 7)]) (g := gName 7) (tt := tYes) (tk := tVar 7) (tv := tC (.bl true)) (hu_of hr) (fun _ _ _ h hb => dt_empty h hb) rfl scInit.nd (pi_list (pv 4)) (blkOk_by (N := ["self", "sort", "size", "start", "changes", "hold", "part", "pair"]) (sc := defScope mInit) (by decide +kernel))
      (fun _ _ _ _ _ => pg_name (i := 7) scInit.nd rfl (Or.inl rfl)) (fun _ _ _ _ _ => pts_nil) (fun _ _ _ _ _ => pv 7) (fun _ _ _ _ _ => pe_bl)) rfl)
    (pss_one (ps_fld (pv 0) (pv 5) rfl))))))), ?_⟩
  generalize eW : wrong p = wp at bad good
  refine q_asg (v := strV wp) (fun H1 e1 Q' q' => ⟨x1, rfl, x2, rfl, x3, rfl, x4, rfl, x5, rfl, rfl, x1, x2, x3, x4, x5, p, rfl,
    ⟨dp_up e1 (dq_dp hp.sort), dp_up e1 (dq_dp hp.size), dp_up e1 (dq_dp hp.start), dp_up e1 (dq_dp hp.changes), dp_up e1 (dq_dp hp.hold), hp.short⟩, fun H2 e2 => by rw [eW]; exact q' H2 e2⟩) fun H1 e1 => ?_
  have test : EvT (tTest (tOp (fun x y H Q => y = .non ∧ Q (.bl (!decide (x = .non))) H) (tVar 6) (tC .non))) ((L2.start ["self", "sort", "size", "start", "changes", "hold", "part", "pair"] [.ref a, x1, x2, x3, x4, x5]).set 6 (some (strV wp))) H1 (!decide (strV wp = .non)) :=
    et_test (ev_op (ev_var rfl) ev_c fun H2 _ Q' q' => ⟨rfl, q' H2 (Ex.refl H2)⟩)
  refine q_when test (fun c H2 e2 => ?_) fun c H2 e2 => ?_
  · cases wp with
    | none => simp [strV] at c
    | some t => exact ⟨.str t, rfl, fun d hd => bad t rfl d H2 (e1.trans e2) hd⟩
  cases wp with
  | some t => simp [strV] at c
  | none =>
    have g := good rfl
    obtain ⟨r1, r2, r3, r4, r5⟩ := right_of eW
    obtain ⟨ds, ed, okd⟩ := ch_list r4
    have e02 := e1.trans e2
    have h2a : H2 a = some (.ins C dx []) := e02 _ _ ha
    have s1 : x1 = .str (strOf p.sort) := by
      have := hp.sort
      rw [inT_str r1] at this
      cases this
      rfl
    have s2 : x2 = .int (intOf p.size) := by
      have := hp.size
      rw [betw_int r2] at this
      cases this
      rfl
    have s3 : x3 = .int (intOf p.start) := by
      have := hp.start
      rw [betw_int r3] at this
      cases this
      rfl
    have s5 : x5 = .str (strOf p.hold) := by
      have := hp.hold
      rw [hold_str r5] at this
      cases this
      rfl
    have hch := hp.changes
    rw [ed] at hch
    obtain ⟨l, xs, rfl, hl, hD⟩ : ∃ l xs, x4 = .ref l ∧ H l = some (.lst xs) ∧ DqAll H xs ds := by
      cases hch with
      | lst z h a => exact ⟨_, _, rfl, h, a⟩
    have la : l ≠ a := fun z => by
      rw [z, ha] at hl
      cases hl
    have kx := keyAll_of hD okd
    refine ⟨x1, rfl, .ref a, rfl, a, C, dx, [], rfl, h2a, T.cl, T.kind, by decide, ?_⟩
    refine ⟨x2, rfl, .ref a, rfl, a, C, dx, _, rfl, upd_same, T.cl, T.size, Nat.lt_of_le_of_lt (putF_len _ _ _) (by decide), ?_⟩
    refine ⟨x3, rfl, .ref a, rfl, a, C, dx, _, rfl, upd_same, T.cl, T.start, Nat.lt_of_le_of_lt (putF_len _ _ _) (by have := putF_len "_kind" x1 []; simp at this; omega), ?_⟩
    rw [upd_upd, upd_upd]
    have fl : (putF "_start" x3 (putF "_size" x2 (putF "_kind" x1 []))).length ≤ 3 := by
      have a1 := putF_len "_start" x3 (putF "_size" x2 (putF "_kind" x1 []))
      have a2 := putF_len "_size" x2 (putF "_kind" x1 [])
      have a3 := putF_len "_kind" x1 []
      simp only [List.length_nil] at a3
      omega
    generalize efs : putF "_start" x3 (putF "_size" x2 (putF "_kind" x1 [])) = fs at fl
    have stay : ∀ {b : Addr} {o : HO}, b ≠ a → H b = some o → (upd H2 a (.ins C dx fs)) b = some o := fun {b o} hb h => by
      rw [upd_ne hb]
      exact e02 _ _ h
    have kx' : KeyAll (upd H2 a (.ins C dx fs)) xs (ds.map keyOf) := ⟨kx.1, fun i x k hx hk => by
      obtain ⟨b, eb, hb⟩ := kx.2 i x k hx hk
      exact ⟨b, eb, stay (fun z => by rw [z, ha] at hb; cases hb) hb⟩⟩
    dsimp only [tSeq, sFld]
    refine p_dct (j := 7) (vs := [7]) (ev_var rfl) (stay la hl) kx' (by have := hp.short ds ed; rw [dqAll_len hD]; omega) ?w1 ?w2 fun D H3 hn e3 hd => ?_
    case w1 => exact fun _ => rfl
    case w2 => exact fun _ => rfl
    refine ⟨.ref a, rfl, a, C, dx, fs, rfl, e3 _ _ upd_same, T.cl, T.changes, by omega, ?_⟩
    refine ⟨x5, rfl, .ref a, rfl, a, C, dx, _, rfl, upd_same, T.cl, T.hold, by have := putF_len "_changes" (V.ref D) fs; omega, ?_⟩
    rw [upd_upd]
    refine g _ (fun b o hb h => ?_) ⟨dx, D, _, upd_same, ?_, ?_, ?_, ?_, ?_, ?_, ?_, ?_⟩
    · rw [upd_ne hb]
      exact e3 _ _ (stay hb h)
    · have : D ≠ a := fun z => by
        rw [z, upd_same] at hn
        cases hn
      rw [upd_ne this, hd]
      show _ = some (HO.dT (trues (onceK (keysOf p.changes))))
      rw [ed]
      rfl
    all_goals rw [← efs]
    all_goals repeat rw [lookup_putF]
    · rw [if_neg (by decide), if_neg (by decide), if_neg (by decide), if_neg (by decide), if_pos rfl, s1]; rfl
    · rw [if_neg (by decide), if_neg (by decide), if_neg (by decide), if_pos rfl, s2]; rfl
    · rw [if_neg (by decide), if_neg (by decide), if_pos rfl, s3]; rfl
    · rw [if_neg (by decide), if_pos rfl]
    · rw [if_pos rfl, s5]; rfl
    · rw [if_neg (by decide), if_neg (by decide), if_neg (by decide), if_neg (by decide), if_neg (by decide)]; rfl
    · rw [if_neg (by decide), if_neg (by decide), if_neg (by decide), if_neg (by decide), if_neg (by decide)]; rfl
end
end Chk
set_option maxHeartbeats 4000000
/-! a == b and a != b of an own class that has __eq__ alone, both answers. -/
namespace OwnNe
open PySem PySem.W PySem.Calls PyProof.Rows
section
variable {prog : Program} {w : World} {A : Around} {E : Value → Shared → Prop} {s : Shared} {K : Frag} {x C L f : Addr} {h₀ : Heap} {m : Str → Option Value} {ox : Obj} {od : Option Obj} {name : Str} {b tb : Value} {B id : String}
theorem bound_slot {M : Model} {args : List Value} {Q : Option Value → Shared → Prop} (X : K.In s.heap) (I : InstAt s.heap x ox C od) (hs : findIn K (.ref C) name = some (some (.builtin id))) (S : Slot B name id)
    (h : wpAny M A (call (.builtin id) (.ref x :: args)) (fun v => Q (some v)) E s) : wpAny M A (callSpecialIfBound? (.ref x) name args) Q E s := by
  simp only [callSpecialIfBound?, bindSpecialIfBound?]
  refine wpAny_holding (wpAny_bind (wpAny_bind (wpAny_bind (I.type.here ((looks_findIn X hs).here ?_)))))
  simp only [S.bind]
  refine wpAny_bind (wpAny_askSetting (wpAny_ite ?_))
  have last : wpAny M A (call (.builtin id) ([.ref x] ++ args) >>= fun v => pure (some v)) Q E s := wpAny_bind (wpAny_mono h (fun v s' h' => wpAny_pure h') fun _ _ e => e)
  split
  · exact wpAny_bind (wpAny_pure (wpAny_pure last))
  · exact wpAny_tryCatch (wpAny_bind (wpAny_pure (wpAny_pure last)))
structure EqC (K : Frag) (C f : Addr) : Prop where
  eq : findIn K (.ref C) "__eq__" = some (some (.ref f))
  ne : findIn K (.ref C) "__ne__" = some (some (.builtin "object.__ne__"))
  fn : isFn K (.ref f) = true
  ob : mroIn K C (.type "object") = some true
/-- object.__ne__ asks the own __eq__ -/
theorem ne_entry {Q : Fin → Shared → Prop} (X : K.In s.heap) (I : InstAt s.heap x ox C od) (T : EqC K C f) (hu : A.units < cLine)
    (hc : wpAny (model prog w) A (call (.ref f) [.ref x, b]) (fun v s' => ∃ r, v = .bool r ∧ Q (.done (.ret (.bool (!r)))) s') E s) : wpAny (model prog w) A (Builtin.«object.__ne__» ⟨[.ref x, b], []⟩) Q E s := by
  unfold Builtin.«object.__ne__»
  repeat (first
    | with_reducible refine wpAny_cRoomFor hu ?_
    | (refine wpAny_bind (m := callSpecialIfBound? (.ref x) (Str.ofString "__eq__") [b]) (ifBound_K X I T.eq T.fn (wpAny_mono hc (fun r s' hr => by
        obtain ⟨q, rfl, hq⟩ := hr
        repeat (first | exact hq | exact wpAny_pure hq | exact wpAny_truthy_bool hq | (refine wpAny_bind (m := truthy (.bool _)) (wpAny_truthy_bool ?_)) | wp_step)) fun _ _ e => e)))
    | wp_step)
theorem ne_K {Q : Value → Shared → Prop} (hu : A.units + 1 < cLine) (X : K.In s.heap) (I : InstAt s.heap x ox C od) (hb : Looks (model prog w) s.heap (typeOf b) tb) (hn : notFirst K C tb = true) (T : EqC K C f)
    (hc : wpAny (model prog w) A.in1 (call (.ref f) [.ref x, b]) (fun v s' => ∃ r, v = .bool r ∧ Q (.bool (!r)) s') E s) : wpAny (model prog w) A (richCompare .NotEq (.ref x) b) Q E s := by
  have sub : Looks (model prog w) s.heap (isInstance (.ref x) (.type "object")) true := I.type.andThen (looks_mroIn X T.ob)
  have one : wpAny (model prog w) A (tryCompare (.ref x) "__ne__" b) (fun r s' => ∃ v, r = some v ∧ Q v s') E s := by
    unfold tryCompare
    refine wpAny_bind (bound_slot X I T.ne PySem.F.cmp_object.ne (wpAny_call (codeAny_call_builtin PySem.F.cmp_object.ne.plain PySem.F.cmpEntry_ne
      (@check_slot (model prog w) _ _ s "object.__ne__" "object" "__ne__" (.ref x) [b] [] _ PySem.F.cmpKind_ne PySem.F.cmpSplit_ne sub (PySem.F.cmpArgs_ne _ _) (ne_entry (A := A.in1) X I T hu (wpAny_mono hc (fun v s' hv => ?_) fun _ _ e => e))))))
    obtain ⟨r, rfl, hq⟩ := hv
    first | exact ⟨r, rfl, wpAny_pure ⟨_, rfl, hq⟩⟩ | exact ⟨r, rfl, wpAny_pure (wpAny_pure ⟨_, rfl, hq⟩)⟩ | exact ⟨r, rfl, ⟨_, rfl, hq⟩⟩
  unfold richCompare
  simp only [oneThing_ref]
  refine wpAny_holding (wpAny_bind (wpAny_cRoomFor (Nat.lt_of_succ_lt hu) ?_))
  refine wpAny_bind (I.type.here (wpAny_bind (hb.here ?_)))
  split
  · rename_i q
    have e : subIn K tb (.ref C) = some false := by
      rcases Bool.or_eq_true_iff.mp hn with e | e
      · rw [beq_iff_eq.mp e] at q; simp at q
      · exact beq_iff_eq.mp e
    refine wpAny_bind ((looks_subIn X e).here ?_)
    simp only [Bool.false_eq_true, if_false]
    refine wpAny_bind (wpAny_mono one (fun r s' z => ?_) fun _ _ e => e)
    obtain ⟨v, rfl, hq⟩ := z
    exact wpAny_pure hq
  · refine wpAny_bind (wpAny_pure ?_)
    simp only [Bool.false_eq_true, if_false]
    refine wpAny_bind (wpAny_mono one (fun r s' z => ?_) fun _ _ e => e)
    obtain ⟨v, rfl, hq⟩ := z
    exact wpAny_pure hq
end
end OwnNe
set_option maxHeartbeats 4000000
namespace OwnNe
open PySem PySem.Spec PyProof.Rows L2 Evl Pd
/-- what stands beside an instance of the class at C: another one, or a list -/
def Beside (C : Addr) (y : V) (H : Hp) : Prop := (∃ b dy gs, y = .ref b ∧ H b = some (.ins C dy gs)) ∨ ∃ b xs, y = .ref b ∧ H b = some (.lst xs)
def rOwn (C : Addr) (sp : Sp) (neg : Bool) : R2 := fun x y H Q => ∃ (a dx : Addr) (fs : List (Str × V)), x = .ref a ∧ H a = some (.ins C dx fs) ∧ Beside C y H ∧ sp [.ref a, y] H (fun v H' => ∃ r, v = .bl r ∧ Q (.bl (if neg then !r else r)) H') (fun _ _ _ => False)
section
variable {X : Cx} {C f : Addr} {fd : FuncData} {ps : List Str} {sp : Sp} {n : Nat}
theorem look_beside {pins : List (Addr × Obj)} {σ : L2.St} {H : Hp} {s : Shared} {y : V} {u : Value} (I : Inv X pins σ H s) (ry : RelV y u) (h : Beside C y H) (nl : PySem.W.notFirst X.K C (.type "list") = true) :
    ∃ tb, PySem.W.Looks (model X.prog X.w) s.heap (typeOf u) tb ∧ PySem.W.notFirst X.K C tb = true := by
  rcases h with ⟨b, dy, gs, rfl, hb⟩ | ⟨b, xs, rfl, hb⟩
  · cases ry
    obtain ⟨mB, J, _⟩ := ins_get I.hok hb
    obtain ⟨od, J, _⟩ := J.look
    exact ⟨.ref C, J.type, by simp [PySem.W.notFirst]⟩
  · cases ry
    obtain ⟨_, its, k, _, ho⟩ := (show ObjOk X.prog X.w H s.heap b (.lst xs) from I.hok b _ hb)
    exact ⟨.type "list", fun A Q E s' kk q => wpAny_typeOf_ref (kk _ _ ho) q, nl⟩
theorem op_eqOwn (F : FnOk X.prog X.w X.K X.mg X.base CX0 n f fd ps sp) (T : EqC X.K C f) (hb : L2.Binds X.K fd ps []) (hr : Room n X.A) (nl : PySem.W.notFirst X.K C (.type "list") = true) : OpR X (compareOp .Eq) (rOwn C sp false) := by
  intro pins s σ H x y v u Q I rx ry h
  obtain ⟨a, dx, fs, rfl, ha, hy, q⟩ := h
  obtain rfl : v = Value.ref a := rx
  obtain ⟨tb, L, nf⟩ := look_beside I ry hy nl
  obtain ⟨mA, J, _⟩ := ins_get I.hok ha
  obtain ⟨od, J, _⟩ := J.look
  obtain ⟨m, hF⟩ := I.fr
  have hu := hr.un
  refine PySem.W.cmp_K (op := .Eq) (tb := tb) (by omega) hF I.ok.mod.kin J L nf T.eq T.fn ?_
  have r2 : Vals [V.ref a, y] [Value.ref a, u] := .cons rfl (.cons ry .nil)
  refine wpAny_mono (run_fn F hr hb .nil pass0 I r2 (by rw [List.append_nil]; exact q)) (fun z s1 hz => ?_) fun _ _ e => e
  obtain ⟨v, H1, I1, rz, r, rfl, q1⟩ := hz
  cases rz
  exact ⟨.bl r, H1, I1, rfl, q1⟩
theorem op_neOwn (F : FnOk X.prog X.w X.K X.mg X.base CX0 n f fd ps sp) (T : EqC X.K C f) (hb : L2.Binds X.K fd ps []) (hr : Room (n + 1) X.A) (nl : PySem.W.notFirst X.K C (.type "list") = true) : OpR X (compareOp .NotEq) (rOwn C sp true) := by
  intro pins s σ H x y v u Q I rx ry h
  obtain ⟨a, dx, fs, rfl, ha, hy, q⟩ := h
  obtain rfl : v = Value.ref a := rx
  obtain ⟨tb, L, nf⟩ := look_beside I ry hy nl
  obtain ⟨mA, J, _⟩ := ins_get I.hok ha
  obtain ⟨od, J, _⟩ := J.look
  have hu := hr.un
  refine ne_K (tb := tb) (by omega) I.kIn J L nf T ?_
  have r2 : Vals [V.ref a, y] [Value.ref a, u] := .cons rfl (.cons ry .nil)
  have hl := F.len _ _ _ _ q
  have e0 : Env0 X.prog X.w X.K X.mg X.base X.A.in1 X.stack s H := by
    have e := I.env0
    exact ⟨e.frames, e.mod, e.bs, e.bsz, e.funs, e.frf, e.hok, e.bare⟩
  refine wpAny_call (codeAny_mono (F.run X.A.in1 X.stack s H ⟨[.ref a, u], []⟩ [.ref a, u] [.ref a, y] _ _ hr.in1 e0 (by
    have := hb s [.ref a, u] I.kIn (by simpa using hl)
    simpa using this) r2 q) fun r s' hq => ?_)
  cases r with
  | error e => exact (show False from hq).elim
  | ok fl =>
    cases fl with
    | ret w =>
      obtain ⟨z, H', I', rz, r, rfl, q1⟩ := I.after hq
      cases rz
      exact ⟨r, rfl, .bl (!r), H', I', rfl, q1⟩
    | next => exact False.elim hq
    | brk => exact False.elim hq
    | cont => exact False.elim hq
end
end OwnNe
set_option maxHeartbeats 4000000
namespace Chk
open PySem PySem.Spec PyProof.Rows L2 Evl Pd Gd Us
abbrev mth (j : Nat) : Stmt := (Tp.clsBody Tp.c_Setting).getD j (.Pass ⟨0, 0, 0, 0⟩)
abbrev mKind : Stmt := mth 1
abbrev mSize : Stmt := mth 2
abbrev mStart : Stmt := mth 3
abbrev mHold : Stmt := mth 4
abbrev mChanges : Stmt := mth 5
abbrev mLets : Stmt := mth 6
abbrev mEq : Stmt := mth 7
theorem scKind : FnScope ["self"] ["self"] (defScope mKind) := ⟨rfl, rfl, rfl, by decide +kernel, rfl, by decide +kernel, by decide +kernel⟩
theorem scSize : FnScope ["self"] ["self"] (defScope mSize) := ⟨rfl, rfl, rfl, by decide +kernel, rfl, by decide +kernel, by decide +kernel⟩
theorem scStart : FnScope ["self"] ["self"] (defScope mStart) := ⟨rfl, rfl, rfl, by decide +kernel, rfl, by decide +kernel, by decide +kernel⟩
theorem scHoldP : FnScope ["self"] ["self"] (defScope mHold) := ⟨rfl, rfl, rfl, by decide +kernel, rfl, by decide +kernel, by decide +kernel⟩
theorem scChangesM : FnScope ["self"] ["self"] (defScope mChanges) := ⟨rfl, rfl, rfl, by decide +kernel, rfl, by decide +kernel, by decide +kernel⟩
theorem scLets : FnScope ["self", "one", "other"] ["self", "one", "other"] (defScope mLets) := ⟨rfl, rfl, rfl, by decide +kernel, rfl, by decide +kernel, by decide +kernel⟩
theorem scEq : FnScope ["self", "other"] ["self", "other"] (defScope mEq) := ⟨rfl, rfl, rfl, by decide +kernel, rfl, by decide +kernel, by decide +kernel⟩
section
variable {σ : L2.St} {H : Hp} {te ta tb : TE} {K : PySem.W.Frag} {C : Addr} {f : Str} {v : V}
theorem ev_fld {a dx : Addr} {fs : List (Str × V)} (c : Cls K C) (n : NoAttr K C f) (he : Ev te σ H (.ref a)) (h : H a = some (.ins C dx fs)) (l : fs.lookup f = some v) : Ev (tFld K te f) σ H v := fun H1 e Q q =>
  he H1 e _ fun H2 e2 => ⟨a, C, dx, fs, v, rfl, e2 _ _ (e _ _ h), c, n, l, q H2 e2⟩
def eqK (ks ls : List (List Key)) : Bool := ks.length == ls.length && ks.all fun k => ls.any fun j => decide (j = k)
def eqS (g h : Stg) : Bool := decide (g.kind = h.kind) && (decide (g.size = h.size) && (decide (g.start = h.start) && (eqK g.ks h.ks && decide (g.hold = h.hold))))
def hasK (g : Stg) (d e : PyData) : Bool := match d, e with
  | .int i, .int j => g.ks.any fun k => decide (k = [.inl i, .inl j])
  | _, _ => false
theorem val_true (ks : List (List Key)) (k : List Key) : (valV (trues ks) k).isSome = ks.any fun x => decide (x = k) := by
  unfold valV trues
  rw [Option.isSome_map, Bool.eq_iff_iff, List.find?_isSome]
  simp only [List.any_eq_true, List.mem_map, decide_eq_true_eq]
  constructor
  · rintro ⟨p, ⟨j, hj, rfl⟩, e⟩
    exact ⟨j, hj, e⟩
  · rintro ⟨j, hj, e⟩
    exact ⟨_, ⟨j, hj, rfl⟩, e⟩
end
def spEqS (C : Addr) : Sp := fun vs H Q _ => vs.length = 2 ∧ ∃ a g y, vs = [.ref a, y] ∧ SetAt C g a H ∧ ((∃ b g', y = .ref b ∧ SetAt C g' b H ∧ ∀ H', Ex H H' → Q (.bl (eqS g g')) H') ∨ ∃ b xs, y = .ref b ∧ H b = some (.lst xs) ∧ ∀ H', Ex H H' → Q (.bl false) H')
def spLets (K : PySem.W.Frag) (C : Addr) : Sp := fun vs H Q _ => vs.length = 3 ∧ ∃ a g y z d e, vs = [.ref a, y, z] ∧ SetAt C g a H ∧ Dp K H y d ∧ Dp K H z e ∧ ∀ H', Ex H H' → Q (.bl (hasK g d e)) H'
section
variable {P : Program} {w : World} {K : PySem.W.Frag} {mg : Str → Option Value} {base : Heap} {C f : Addr} {fd : FuncData}
theorem ok_get {x q : Str} {st : Stmt} {g : Str} {p1 p2 p3 : Pos} (F : Fun K x q st f fd) (S : FnScope ["self"] ["self"] (defScope st)) (hb : defBody st = [.Return (some (.Attribute (.Name "self" p1) g p2)) p3]) (c : Cls K C) (n : NoAttr K C g) : FnOk P w K mg base CX0 1 f fd ["self"] (getSp C g) := by
  refine F.ok S (fun vs H Q E h => ?_) (fun cdv A outer s H vs Q E hr h => ?_)
  · obtain ⟨a, dx, fs, v, rfl, _⟩ := h
    rfl
  · obtain ⟨a, dx, fs, v, rfl, ea, l, q⟩ := h
    rw [hb]
    refine ⟨_, pss_one (ps_ret (pe_fld (pe_var (i := 0) rfl ((S.par "self" (List.Mem.head _)).elim (fun z => .inl z) (fun z => .inr (.inl z)))) rfl)), ?_⟩
    exact ⟨.ref a, rfl, a, C, dx, fs, v, rfl, ea, c, n, l, q⟩
theorem ok_eqS (F : Fun K "__eq__" "Setting.__eq__" mEq f fd) (B : Bc mg) (mS : mg "Setting" = some (.ref C)) (T : ClsS K C) (I : C8.InsC K C) (nl : PySem.W.kitOne K (.type "list") (.ref C) = some false) : FnOk P w K mg base CX0 1 f fd ["self", "other"] (spEqS C) := by
  refine F.ok scEq (fun vs H Q E h => h.1) (fun cdv A outer s H vs Q E hr h => ?_)
  obtain ⟨_, a, g, y, rfl, hg, h⟩ := h
  refine ⟨_, pss_one (ps_ret (pe_and (pe_callB call_isi (by rfl) B.isi boot_isinstance (pa_cons (pv 1) (pa_cons (pe_gref (by rfl) mS) pa_nil)))
    (pe_and (pe_cmpR op_eq (pe_fld (pv 0) rfl) (pe_fld (pv 1) rfl) (nomark _)) (pe_and (pe_cmpR op_eq (pe_fld (pv 0) rfl) (pe_fld (pv 1) rfl) (nomark _)) (pe_and (pe_cmpR op_eq (pe_fld (pv 0) rfl) (pe_fld (pv 1) rfl) (nomark _))
    (pe_and (pe_cmpR (EqT.op_eqT (hu_of hr)) (pe_fld (pv 0) rfl) (pe_fld (pv 1) rfl) (nomark _)) (pe_one (pe_cmpR op_eq (pe_fld (pv 0) rfl) (pe_fld (pv 1) rfl) (nomark _)))))))))
    , ?_⟩
  have isi : ∀ {t : Value} {b : Bool}, TyX K H y t → PySem.W.kitOne K t (.ref C) = some b → (∀ H1, Ex H H1 → TyX K H1 y t) → Ev (tCB (rIsi K) (tCons (tVar 1) (tCons (tC (.ref C)) tNil))) (L2.start ["self", "other"] [.ref a, y]) H (.bl b) := fun {t b} _ hk up H1 e Q q =>
    ⟨y, rfl, y, .ref C, t, .ref C, b, rfl, .own C, up H1 e, hk, q H1 (Ex.refl H1)⟩
  obtain ⟨dx, d, fs, ha, hd, f1, f2, f3, f4, f5, _⟩ := hg.ex
  have sf : ∀ {n : Str} {v : V}, NoAttr K C n → fs.lookup n = some v → Ev (tFld K (tVar 0) n) (L2.start ["self", "other"] [.ref a, y]) H v := fun n l => ev_fld T.cl n (ev_var rfl) ha l
  rcases h with ⟨b, g', rfl, hg', q⟩ | ⟨b, xs, rfl, hb, q⟩
  · obtain ⟨dy, e, gs, hb, he, k1, k2, k3, k4, k5, _⟩ := hg'.ex
    have ty : ∀ H1, Ex H H1 → TyX K H1 (.ref b) (.ref C) := fun H1 ex => .base (.ins (ex _ _ hb) T.cl I.ha I.hn I.htk I.hm)
    have of_ : ∀ {n : Str} {v : V}, NoAttr K C n → gs.lookup n = some v → Ev (tFld K (tVar 1) n) (L2.start ["self", "other"] [.ref a, .ref b]) H v := fun n l => ev_fld T.cl n (ev_var rfl) hb l
    have dicts : Ev (tOp EqT.rEqT (tFld K (tVar 0) "_changes") (tFld K (tVar 1) "_changes")) (L2.start ["self", "other"] [.ref a, .ref b]) H (.bl (eqK g.ks g'.ks)) :=
      ev_op (sf T.changes f4) (of_ T.changes k4) fun H1 ex Q q => ⟨d, e, g.ks, g'.ks, rfl, rfl, ex _ _ hd, ex _ _ he, q H1 (Ex.refl H1)⟩
    refine s_ret (ev_is (ev_andV (isi (ty H (Ex.refl H)) I.me ty) fun _ => ev_andV (ev_op (sf T.kind f1) (of_ T.kind k1) (rv_eq rfl)) fun _ => ev_andV (ev_op (sf T.size f2) (of_ T.size k2) (rv_eq rfl)) fun _ => ev_andV (ev_op (sf T.start f3) (of_ T.start k3) (rv_eq rfl)) fun _ =>
      ev_andV dicts fun _ => ev_op (sf T.hold f5) (of_ T.hold k5) (rv_eq rfl)) ?_) fun H1 ex => q H1 ex
    unfold eqS
    rw [Bool.true_and]
    simp
  · have ty : ∀ H1, Ex H H1 → TyX K H1 (.ref b) (.type "list") := fun H1 ex => .base (.lst (ex _ _ hb))
    exact s_ret (ev_is (ev_andV (b := false) (isi (ty H (Ex.refl H)) nl ty) fun c => nomatch c) rfl) fun H1 ex => q H1 ex
theorem ok_lets (F : Fun K "lets" "Setting.lets" mLets f fd) (T : ClsS K C) (UI : Use P w K mg base 1 "is_integer" ["value"] (spAsk K 1 (rInteger K))) : FnOk P w K mg base CX0 2 f fd ["self", "one", "other"] (spLets K C) := by
  refine F.ok scLets (fun vs H Q E h => h.1) (fun cdv A outer s H vs Q E hr h => ?_)
  obtain ⟨_, a, g, y, z, d, e, rfl, hg, hy, hz, q⟩ := h
  refine ⟨_, pss_one (ps_ret (pe_and (pe_use UI hr (by decide) (by rfl) (pa_cons (pv 1) pa_nil)) (pe_and (pe_use UI hr (by decide) (by rfl) (pa_cons (pv 2) pa_nil))
    (pe_one (pe_cmp (pc_din (hu_of hr) (pe_tup (pa_cons (pv 1) (pa_cons (pv 2) pa_nil))) (pe_fld (pv 0) rfl)) (by rfl)))))), ?_⟩
  obtain ⟨dx, dd, fs, ha, hd, f1, f2, f3, f4, f5, _⟩ := hg.ex
  have int : ∀ {j : Nat} {v : V} {c : PyData}, (L2.start ["self", "one", "other"] [.ref a, y, z])[j]? = some (some v) → Dp K H v c → Ev (tCall (spAsk K 1 (rInteger K)) [] (fun _ _ _ => False) (tCons (tVar j) tNil)) (L2.start ["self", "one", "other"] [.ref a, y, z]) H (.bl (isI c)) := fun {j v c} hj hc =>
    ev_ask (Ps := [De K c]) rfl (ps_cons mo_de (p_var hj mo_de hc) ps_nil) fun xs H1 ex ps => by
      match xs, ps with
      | [u], ⟨pu, _⟩ => exact ⟨u, c, rfl, pu, rfl⟩
  refine s_ret (ev_is (ev_andV (b := isI e && hasK g d e) (int rfl hy) fun c1 => ev_andV (b := hasK g d e) (int rfl hz) fun c2 => ?_) ?_) fun H1 ex => q H1 ex
  · cases d with
    | int i =>
      cases e with
      | int j =>
        rw [dp_int hy, dp_int hz]
        refine fun H1 e1 Q q => ⟨_, rfl, _, rfl, show 2 ≤ sizeLine from by decide, fun p hp => ?_⟩
        have e2 : Ex H (upd H1 p (.tup [.int i, .int j])) := e1.trans (Ex.new hp)
        refine ⟨.ref a, rfl, a, C, dx, fs, .ref dd, rfl, e2 _ _ ha, T.cl, T.changes, f4, dd, _, rfl, DGet.t (k := [.inl i, .inl j]) (e2 _ _ hd) upd_same, ?_⟩
        rw [val_true]
        exact q _ (Ex.new hp)
      | _ => cases c2
    | _ => cases c1
  · cases d <;> first | rfl | (cases e <;> rfl)
end
end Chk
set_option maxHeartbeats 4000000
namespace Chk
open PySem PySem.Spec PyProof.Rows L2 Evl Pd Gd Us
def keyD : Key → PyData
  | .inl i => .int i
  | .inr s => .str s
def pairD (k : List Key) : PyData := .tuple (k.map keyD)
/-- by their texts -/
def sortD (ds : List PyData) : List PyData := ds.mergeSort (PySem.W.dataLe false fun d => PyData.str (txt d))
theorem dqAll_pairs {H : Hp} : ∀ {l : List (V × PyData)}, (∀ p ∈ l, Dq H p.1 p.2) → DqAll H (l.map (·.1)) (l.map (·.2))
  | [], _ => .nil
  | p :: l, h => .cons (h p List.mem_cons_self) (dqAll_pairs fun q hq => h q (List.mem_cons_of_mem _ hq))
theorem dqAll_zip {H : Hp} : ∀ {xs : List V} {ds : List PyData}, DqAll H xs ds → ∀ p ∈ xs.zip ds, Dq H p.1 p.2
  | _, _, .nil, p, hp => by cases hp
  | _, _, .cons h t, p, hp => by
    rcases List.mem_cons.mp hp with rfl | hp
    · exact h
    · exact dqAll_zip t p hp
theorem dq_sorted {H : Hp} {xs : List V} {ds : List PyData} (h : DqAll H xs ds) : DqAll H ((bySt (xs.zip ds)).map (·.1)) (sortD ds) := by
  have e : (bySt (xs.zip ds)).map (·.2) = sortD ds := by
    unfold bySt sortD
    have z := List.map_mergeSort (r := PySem.W.dataLe false fun b : V × PyData => PyData.str (txt b.2)) (s := PySem.W.dataLe false fun d => PyData.str (txt d)) (f := fun x : V × PyData => x.2) (l := xs.zip ds) (fun a _ b _ => rfl)
    rw [z]
    rw [List.map_snd_zip (by rw [dqAll_len h]; exact Nat.le_refl _)]
  rw [← e]
  refine dqAll_pairs fun p hp => dqAll_zip h p ?_
  exact List.mem_mergeSort.mp hp
theorem dq_keys {H : Hp} : ∀ k : List Key, DqAll H (k.map kV) (k.map keyD)
  | [] => .nil
  | .inl i :: k => .cons (.int i) (dq_keys k)
  | .inr s :: k => .cons (.str s) (dq_keys k)
theorem dq_isKeys {H : Hp} : ∀ {ks : List (List Key)} {bs : List Addr}, IsKeys H (trues ks) bs → DqAll H (bs.map V.ref) (ks.map pairD)
  | [], _, h => by
    cases h
    exact .nil
  | k :: ks, _, h => by
    cases h with
    | cons a t => exact .cons (.tup a (dq_keys k)) (dq_isKeys t)
def spChs (C : Addr) : Sp := fun vs H Q _ => vs.length = 1 ∧ ∃ a g, vs = [.ref a] ∧ SetAt C g a H ∧ (∀ k ∈ g.ks, Showy (pairD k)) ∧ g.ks.length ≤ 1000 ∧ ∀ x H', Ex H H' → (∃ r, x = .ref r ∧ H r = none) → Qe (.list (sortD (g.ks.map pairD))) x H' → Q x H'
section
variable {P : Program} {w : World} {K : PySem.W.Frag} {mg : Str → Option Value} {base : Heap} {C f : Addr} {fd : FuncData}
theorem ok_chs (F : Fun K "changes" "Setting.changes" mChanges f fd) (T : ClsS K C) (bs : mg "sorted" = none) (bl : mg "list" = none) (bt : mg "str" = none) : FnG P w K mg base CX0 1 f fd ["self"] (spChs C) := by
  refine okG F scChangesM (fun vs H Q E h => h.1) (fun cdv A outer s H vs Q E hr hg h => ?_)
  obtain ⟨_, a, g, rfl, hgA, hs, hl, q⟩ := h
  have hu : (A.deeper (envOfC "Setting.changes" (defScope mChanges) s.heap.objs.size f cdv)).units + 64 < cLine := by have := hr.un; omega
  refine ⟨_, pss_one (ps_ret (pe_callBK (cr_sortS hg hu) (by rfl) bs (by decide +kernel) (pa_cons (pe_callTy (call_list_dT rfl) (by rfl) bl boot_list (pa_cons (pe_fld (pv 0) rfl) pa_nil)) pa_nil) (pk_cons (pe_bltn (v := .ty "str") (by rfl) bt boot_str rfl) pk_nil))), ?_⟩
  obtain ⟨dx, d, fs, ha, hd, f1, f2, f3, f4, f5, _⟩ := hgA.ex
  refine ⟨.ref a, rfl, a, C, dx, fs, .ref d, rfl, ha, T.cl, T.changes, f4, d, trues g.ks, rfl, .inl hd, fun p bs hp hk => ?_⟩
  have hq := dq_isKeys hk
  have e1 : Ex H (upd H p (.lst (bs.map V.ref))) := Ex.new hp
  refine ⟨p, bs.map V.ref, g.ks.map pairD, rfl, rfl, sq_of upd_same, dqAll_dp (dqAll_up e1 hq), fun e he => ?_, fun r hr2 => ?_⟩
  · obtain ⟨k, hk, rfl⟩ := List.mem_map.mp he
    exact hs k hk
  · refine q (.ref r) _ (e1.trans (Ex.new hr2)) ⟨r, rfl, fresh_back e1 hr2⟩ (.lst ?_ upd_same (dqAll_up (e1.trans (Ex.new hr2)) (dq_sorted hq)))
    rw [List.length_map]
    unfold bySt
    rw [List.length_mergeSort, List.length_zip, dqAll_len hq, Nat.min_self, List.length_map]
    omega
end
end Chk
set_option maxHeartbeats 4000000
namespace Chk
open PySem PySem.Spec PyProof.Rows L2 Evl Pd Gd Us
def ptsV (p : Pts) : List PV := [Qe p.sort, Qe p.size, Qe p.start, Qe p.changes, Qe p.hold]
theorem dqP_of {H : Hp} {xs : List V} {p : Pts} (h : AllP (ptsV p) xs H) (hs : Short p.changes) : ∃ a b c d e, xs = [a, b, c, d, e] ∧ DqP H a b c d e p := by
  match xs, h with
  | [a, b, c, d, e], ⟨h1, h2, h3, h4, h5, _⟩ => exact ⟨a, b, c, d, e, rfl, h1, h2, h3, h4, h5, hs⟩
theorem dqP_up {H H' : Hp} {a b c d e : V} {p : Pts} (x : Ex H H') (h : DqP H a b c d e p) : DqP H' a b c d e p := ⟨dq_up x h.sort, dq_up x h.size, dq_up x h.start, dq_up x h.changes, dq_up x h.hold, h.short⟩
section
variable {σ : L2.St} {H : Hp} {ta : TA} {C CB : Addr} {p : Pts} {E : XK}
theorem ex_laid {H1 : Hp} {x dx : Addr} (h1 : H1 x = none) (h2 : H1 dx = none) : Ex H1 (upd (upd H1 dx (.own x)) x (.ins C dx [])) := fun b o e => by
  rw [upd_ne (ne_of_none e h1), upd_ne (ne_of_none e h2)]
  exact e
/-- Setting(..) of right parts -/
theorem p_make (h : EvPs ta σ H (ptsV p)) (hs : Short p.changes) (ok : wrong p = none) : EvP (tMake C (spInit C CB) [] E ta) σ H (SetV C (settingOf p)) := fun H1 e Q q => h H1 e _ fun xs H2 e2 ps x dx n1 n2 _ => by
  obtain ⟨a, b, c, d, f, rfl, hp⟩ := dqP_of ps hs
  have up := ex_laid (C := C) n1 n2
  refine ⟨rfl, x, dx, a, b, c, d, f, p, rfl, upd_same, dqP_up up hp, fun t ht => (by rw [ok] at ht; cases ht), fun _ H3 kp at_ => ⟨rfl, q _ H3 ?_ ⟨x, rfl, at_⟩⟩⟩
  exact e2.trans fun b o eb => kp b o (ne_of_none eb n1) (up b o eb)
/-- Setting(..) of parts of which one is wrong -/
theorem make_bad {Q : VK} {t : Str} (h : EvPs ta σ H (ptsV p)) (hs : Short p.changes) (bad : wrong p = some t) (hE : ∀ d H', Ex H H' → H' d = none → E (.ref CB) (some d) (upd H' d (.xd [("part", V.str t)]))) : tMake C (spInit C CB) [] E ta σ H Q :=
  h H (Ex.refl H) _ fun xs H2 e2 ps x dx n1 n2 _ => by
    obtain ⟨a, b, c, d, f, rfl, hp⟩ := dqP_of ps hs
    have up := ex_laid (C := C) n1 n2
    refine ⟨rfl, x, dx, a, b, c, d, f, p, rfl, upd_same, dqP_up up hp, fun u hu d H3 ex hd => ?_, fun ok => (by rw [bad] at ok; cases ok)⟩
    rw [bad] at hu
    cases hu
    exact hE d H3 (e2.trans (up.trans ex)) hd
end
/-! ### what is asked of a setting -/
section
variable {σ : L2.St} {H : Hp} {te ta tb : TE} {K : PySem.W.Frag} {C : Addr} {g h : Stg} {E : XK}
/-- its parts -/
theorem ev_prop {n : Str} {v : V} (he : EvP te σ H (SetV C g)) (l : ∀ {a : Addr} {H : Hp}, SetAt C g a H → ∃ dx fs, H a = some (.ins C dx fs) ∧ fs.lookup n = some v) : Ev (tProp C (getSp C n) [] E te) σ H v := fun H1 e Q q =>
  he H1 e _ fun x H2 e2 ⟨a, ex, at_⟩ => by
    obtain ⟨dx, fs, ha, hl⟩ := l at_
    exact ⟨a, dx, fs, ex, ha, a, dx, fs, v, rfl, ha, hl, q H2 e2⟩
theorem get_kind {a : Addr} {H : Hp} (h : SetAt C g a H) : ∃ dx fs, H a = some (.ins C dx fs) ∧ fs.lookup ("_kind" : Str) = some (V.str g.kind) := let ⟨dx, _, fs, h1, _, f1, _⟩ := h.ex; ⟨dx, fs, h1, f1⟩
theorem get_size {a : Addr} {H : Hp} (h : SetAt C g a H) : ∃ dx fs, H a = some (.ins C dx fs) ∧ fs.lookup ("_size" : Str) = some (V.int g.size) := let ⟨dx, _, fs, h1, _, _, f1, _⟩ := h.ex; ⟨dx, fs, h1, f1⟩
theorem get_start {a : Addr} {H : Hp} (h : SetAt C g a H) : ∃ dx fs, H a = some (.ins C dx fs) ∧ fs.lookup ("_start" : Str) = some (V.int g.start) := let ⟨dx, _, fs, h1, _, _, _, f1, _⟩ := h.ex; ⟨dx, fs, h1, f1⟩
theorem get_hold {a : Addr} {H : Hp} (h : SetAt C g a H) : ∃ dx fs, H a = some (.ins C dx fs) ∧ fs.lookup ("_hold" : Str) = some (V.str g.hold) := let ⟨dx, _, fs, h1, _, _, _, _, _, f1, _⟩ := h.ex; ⟨dx, fs, h1, f1⟩
/-- two settings, == and != -/
theorem ev_own {neg : Bool} (h1 : EvP ta σ H (SetV C g)) (h2 : EvP tb σ H (SetV C h)) : Ev (tOp (OwnNe.rOwn C (spEqS C) neg) ta tb) σ H (.bl (if neg then !eqS g h else eqS g h)) := fun H1 e Q q =>
  h1 H1 e _ fun x H2 e2 p1 => h2 H2 (e.trans e2) _ fun y H3 e3 ⟨b, eb, at2⟩ => by
    obtain ⟨a, rfl, at1⟩ := mo_set _ _ _ e3 p1
    subst eb
    obtain ⟨dx, d, fs, ha, _⟩ := at1.ex
    obtain ⟨dy, d2, gs, hb, _⟩ := at2.ex
    exact ⟨a, dx, fs, rfl, ha, .inl ⟨b, dy, gs, rfl, hb⟩, rfl, a, g, .ref b, rfl, at1, .inl ⟨b, h, rfl, at2, fun H4 e4 => ⟨_, rfl, q H4 (e2.trans (e3.trans e4))⟩⟩⟩
/-- a setting beside a list -/
theorem ev_ownL {neg : Bool} {P : PV} (hP : ∀ x H, P x H → ∃ b xs, x = .ref b ∧ H b = some (.lst xs)) (h1 : EvP ta σ H (SetV C g)) (h2 : EvP tb σ H P) : Ev (tOp (OwnNe.rOwn C (spEqS C) neg) ta tb) σ H (.bl neg) := fun H1 e Q q =>
  h1 H1 e _ fun x H2 e2 p1 => h2 H2 (e.trans e2) _ fun y H3 e3 p2 => by
    obtain ⟨a, rfl, at1⟩ := mo_set _ _ _ e3 p1
    obtain ⟨b, xs, rfl, hb⟩ := hP y H3 p2
    obtain ⟨dx, d, fs, ha, _⟩ := at1.ex
    refine ⟨a, dx, fs, rfl, ha, .inr ⟨b, xs, rfl, hb⟩, rfl, a, g, .ref b, rfl, at1, .inr ⟨b, xs, rfl, hb, fun H4 e4 => ⟨_, rfl, ?_⟩⟩⟩
    have := q H4 (e2.trans (e3.trans e4))
    cases neg <;> exact this
theorem p_chs (he : EvP te σ H (SetV C g)) (hs : ∀ k ∈ g.ks, Showy (pairD k)) (hl : g.ks.length ≤ 1000) : EvP (tMeth C "changes" (spChs C) [] E te tNil) σ H (Qe (.list (sortD (g.ks.map pairD)))) := fun H1 e Q q => he H1 e _ fun x H2 e2 ⟨a, ex, at_⟩ => by
  obtain ⟨dx, d, fs, ha, _, _, _, _, _, _, n, _⟩ := at_.ex
  exact ⟨a, dx, fs, ex, ha, n, rfl, a, g, by rw [ex]; rfl, at_, hs, hl, fun y H3 e3 _ p => q y H3 (e2.trans e3) p⟩
/-- the same, and the list is new -/
theorem p_chsN (he : EvP te σ H (SetV C g)) (hs : ∀ k ∈ g.ks, Showy (pairD k)) (hl : g.ks.length ≤ 1000) : EvP (tMeth C "changes" (spChs C) [] E te tNil) σ H (fun y H' => (∃ r, y = .ref r ∧ H r = none) ∧ Qe (.list (sortD (g.ks.map pairD))) y H') := fun H1 e Q q => he H1 e _ fun x H2 e2 ⟨a, ex, at_⟩ => by
  obtain ⟨dx, d, fs, ha, _, _, _, _, _, _, n, _⟩ := at_.ex
  exact ⟨a, dx, fs, ex, ha, n, rfl, a, g, by rw [ex]; rfl, at_, hs, hl, fun y H3 e3 ⟨r, er, nr⟩ p => q y H3 (e2.trans e3) ⟨⟨r, er, fresh_back (e.trans e2) nr⟩, p⟩⟩
theorem ev_lets {d e : PyData} (he : EvP te σ H (SetV C g)) (h1 : EvP ta σ H (De K d)) (h2 : EvP tb σ H (De K e)) : Ev (tMeth C "lets" (spLets K C) [] E te (tCons ta (tCons tb tNil))) σ H (.bl (hasK g d e)) := fun H1 e1 Q q => he H1 e1 _ fun x H2 e2 ⟨a, ex, at_⟩ => by
  obtain ⟨dx, dd, fs, ha, _, _, _, _, _, _, _, n⟩ := at_.ex
  refine ⟨a, dx, fs, ex, ha, n, h1 H2 (e1.trans e2) _ fun y H3 e3 p1 => h2 H3 (e1.trans (e2.trans e3)) _ fun z H4 e4 p2 => ⟨rfl, a, g, y, z, d, e, by rw [ex]; rfl, ?_, dp_up e4 p1, p2, fun H5 e5 => q H5 (e2.trans (e3.trans (e4.trans e5)))⟩⟩
  obtain ⟨b, eb, at2⟩ := mo_set (C := C) (g := g) _ _ _ (e3.trans e4) ⟨a, rfl, at_⟩
  cases eb
  exact at2
end
end Chk
set_option maxHeartbeats 4000000
/-! xs[::-1] of a list. -/
namespace RevSl
open PySem PySem.Spec PyProof.Rows L2 Evl Pd
section
variable {X : Cx} {e : Expr} {kc : Nat} {p0 : Pos} {te : TE} {tk : TO} {p1 p2 pos : Pos}
def tRevL (K : PySem.W.Frag) (te : TE) (tk : TO) : TE := fun σ H Q => te σ H fun x H1 => tk σ H1 fun o H2 => o = some (-1) ∧ ∃ a xs, x = .ref a ∧ SqL K H2 a xs ∧ ∀ p, H2 p = none → Q (.ref p) (upd H2 p (.lst xs.reverse))
theorem pe_rev (he : PE X e te) (hk : PO X (some (.UnaryOp .USub (.Constant (.int 1) kc p0) p1)) tk) : PE X (.Subscript e (.Slice none none (some (.UnaryOp .USub (.Constant (.int 1) kc p0) p1)) p2) pos) (tRevL X.K te tk) := by
  refine ⟨fun pins s σ H Q I h => ?_⟩
  refine Subscript_ (thn (he.run pins s σ H _ I h) fun v s1 ⟨x, H1, I1, r1, q1⟩ => ?_)
  refine wpAny_Slice ?_
  rw [evalPart_none]
  refine wpAny_pure (wpAny_pure (thn (hk.run pins s1 σ H1 _ I1 q1) fun vk s3 ⟨o, H3, I3, pk, eo, a, xs, ex, hx, q⟩ => ?_))
  subst eo ex
  obtain rfl : v = Value.ref a := r1
  have I4 : Inv X pins σ H3 { s3 with heap := s3.heap.push { cls := .type "slice", data := .fields #[.none, .none, vk] } } := I3.kept (t' := s3.toks) fun b ob q => Heap.get?_push_of_some _ q
  obtain ⟨its, r, ht, hz⟩ := I4.list hx
  have hlen := r.length
  show wpAny (model X.prog X.w) X.A (subscriptTail e (.Slice none none (some (.UnaryOp .USub (.Constant (.int 1) kc p0) p1)) p2) (.ref a) (.ref s3.heap.objs.size)) (EP X pins σ Q) X.xe { s3 with heap := s3.heap.push { cls := .type "slice", data := .fields #[.none, .none, vk] } }
  refine tail_any (ops := [.ref a, .ref s3.heap.objs.size]) ht.isList.typeIs slot_list_getitem.lookup ?_ (by with_unfolding_all rfl)
  refine wpAny_getItem_list_slice ht.isList (Heap.IsSliceOf.new ..) .none .none pk (by simp) ?_ ?_
  · rw [PySem.W.krv_pick]
    have I5 : Inv X pins σ (upd H3 (s3.heap.push { cls := .type "slice", data := .fields #[.none, .none, vk] }).objs.size (.lst xs.reverse)) _ :=
      I4.laid (t' := s3.toks) (o := .lst xs.reverse) (fun b ob q => Heap.get?_push_of_some _ q) (Nat.le_refl _) ⟨by rw [List.length_reverse]; exact hz, its.reverse, 0, Vals.reverse r, Heap.get?_push_size _ rfl⟩
    exact ⟨.ref _, _, I5, rfl, q _ (I4.hok.fresh (Nat.le_refl _))⟩
  · rw [List.size_toArray]
    omega
end
end RevSl
set_option maxHeartbeats 4000000
namespace Lw
open PySem PySem.Spec PyProof.Rows L2 Evl Pd Gd Us Chk
abbrev sChanges : Stmt := Tp.s__law_changes
abbrev sSetting : Stmt := Tp.s__law_setting
abbrev sTurnPool : Stmt := Tp.s__law_turn_pool
/-! ### draws as values -/
def RgV (lo hi : Int) : PV := fun x _ => ∃ n, x = .int n ∧ lo ≤ n ∧ n < hi
theorem mo_rg {lo hi : Int} : Mo (RgV lo hi) := fun _ _ _ _ h => h
/-- one of these -/
def OneOf (ds : List PyData) : PV := fun x H => ∃ d ∈ ds, Dq H x d
theorem mo_one {ds : List PyData} : Mo (OneOf ds) := fun _ _ _ e ⟨d, h1, h2⟩ => ⟨d, h1, dq_up e h2⟩
section
variable {σ : L2.St} {H : Hp} {ta tb : TE} {K : PySem.W.Frag} {E : XK} {m : Int} {ds : List PyData}
theorem p_draw (h1 : EvP ta σ H (PoolV K)) (h2 : Ev tb σ H (.int m)) (hm : 0 < m) : EvP (tCall (spDraw K) [] E (tCons ta (tCons tb tNil))) σ H (RgV 0 m) := fun H1 e Q q =>
  h1 H1 e _ fun x H2 e2 p1 => h2 H2 (e.trans e2) _ fun H3 e3 => ⟨x, m, rfl, mo_pool _ _ _ e3 p1, hm, fun n H4 n0 n1 e4 => q _ H4 (e2.trans (e3.trans e4)) ⟨n, rfl, n0, n1⟩⟩
theorem p_pick (h1 : EvP ta σ H (PoolV K)) (h2 : EvP tb σ H (Qe (.list ds))) (hm : ds ≠ []) : EvP (tCall (spPick K) [] E (tCons ta (tCons tb tNil))) σ H (OneOf ds) := fun H1 e Q q =>
  h1 H1 e _ fun x H2 e2 p1 => h2 H2 (e.trans e2) _ fun y H3 e3 p2 => by
    cases p2 with
    | lst z hl hd =>
      refine ⟨x, _, _, rfl, mo_pool _ _ _ e3 p1, sq_of hl, fun z => hm (by have := dqAll_len hd; rw [z] at this; exact List.length_eq_zero_iff.mp this.symm), fun v H4 i hv e4 => ?_⟩
      obtain ⟨d, h1, h2⟩ := dqAll_at hd hv
      exact q v H4 (e2.trans (e3.trans e4)) ⟨d, List.mem_of_getElem? h1, dq_up e4 h2⟩
end
theorem s_retP {σ : L2.St} {H : Hp} {te : TE} {P : PV} {D : Ends} (h : EvP te σ H P) (k : ∀ x H1, Ex H H1 → P x H1 → D.rt x H1) : tRet te D σ H := d_ret h k
/-! ### a pool a turn -/
def spTurn (K : PySem.W.Frag) : Sp := fun vs H Q _ => vs.length = 2 ∧ ∃ (a : Addr) (ns : List Int) (k : Int), vs = [.ref a, .int k] ∧ SqL K H a (ns.map V.int) ∧ ns.length ≤ 100000 ∧ 0 ≤ k ∧ k ≤ 100 ∧ ∀ x H', Ex H H' → PoolV K x H' → Q x H'
theorem scTurn : FnScope ["script", "k", "cell"] ["script", "k"] (defScope sTurnPool) := ⟨rfl, rfl, rfl, by decide +kernel, rfl, by decide +kernel, by decide +kernel⟩
section
variable {P : Program} {w : World} {K : PySem.W.Frag} {mg : Str → Option Value} {base : Heap}
theorem ok_turn (D : Dn K mg "_law_turn_pool" sTurnPool) (B : Bt mg) (UP : Use P w K mg base 2 "_law_pool" ["cell", "salt", "many"] (spPool K)) : Use P w K mg base 3 "_law_turn_pool" ["script", "k"] (spTurn K) := by
  refine use_of D scTurn (fun f fd F => F.binds (ps := ["script", "k"]) fun _ _ _ _ _ _ us hl => match us, hl with | [_, _], _ => rfl) (fun vs H Q E h => h.1) (fun f cdv A outer s H vs Q E hr h => ?_)
  obtain ⟨_, a, ns, k, rfl, hS, hn, k0, k1, q⟩ := h
  have hu : (A.deeper (envOfC "_law_turn_pool" (defScope sTurnPool) s.heap.objs.size f cdv)).units < cLine := by have := hr.un; omega
  refine ⟨_, pss_cons (ps_set (i := 2) scTurn.nd rfl (Or.inl rfl) (pe_ifExp (pt_cmpR (op_neNil hu) (pv 0) (pe_lst pa_nil) (nomark _))
      (pe_ix ix_list (pv 0) (pe_op op_mod (pe_callTy call_int1 (by rfl) B.int PyProof.Rows.boot_int (pa_cons (pv 1) pa_nil)) (pe_callB call_len_seq (by rfl) B.len PySem.boot_len (pa_cons (pv 0) pa_nil))) (fun _ _ => rfl)) (pe_op op_add pe_int (pv 1))))
    (pss_one (ps_ret (pe_use UP hr (by decide) (by rfl) (pa_cons (pv 2) (pa_cons (pv 1) (pa_cons pe_int pa_nil)))))), ?_⟩
  refine d_asg (P := fun x _ => ∃ c : Int, x = .int c) ?any fun x H1 e1 ⟨c, hc⟩ => ?_
  case any =>
    refine p_ife (b := !(ns.map V.int).isEmpty) (et_test fun H1 e Q q => ⟨_, rfl, show 0 ≤ sizeLine from Nat.zero_le _, fun p hp => ⟨a, p, ns.map V.int, rfl, rfl, ex_l (e.trans (Ex.new hp)) hS, sq_of upd_same, fun z hz => ?_, q _ (Ex.new hp)⟩⟩) (fun c => ?_) fun c => ?_
    · obtain ⟨n, _, rfl⟩ := List.mem_map.mp hz
      exact .inl rfl
    · have pos : 0 < ns.length := by
        cases ns with
        | nil => cases c
        | cons _ _ => simp
      have r0 : 0 ≤ k % (ns.length : Int) := Int.emod_nonneg _ (by omega)
      have r1 : k % (ns.length : Int) < ns.length := Int.emod_lt_of_pos _ (by omega)
      obtain ⟨j, ej⟩ : ∃ j : Nat, k % (ns.length : Int) = (j : Int) := ⟨(k % (ns.length : Int)).toNat, by omega⟩
      have jl : j < ns.length := by omega
      have len : Ev (tCB (rLenS K) (tCons (tVar 0) tNil)) (L2.start ["script", "k", "cell"] [.ref a, .int k]) H (.int (ns.length : Int)) := ev_is (ev_len (ev_var rfl) hS) (by rw [List.length_map])
      refine .of (ev_op (ev_var rfl) (ev_is (ev_op (ev_int (ev_var rfl)) len (rv_I (show (0 : Int) < ns.length by omega))) (congrArg V.int ej)) (rv_ixL hS (atI_nat (x := .int ns[j]) (by simp [jl])))) (fun _ _ _ _ h => h) ⟨_, rfl⟩
    · exact .of (ev_op ev_c (ev_var rfl) rv_I0) (fun _ _ _ _ h => h) ⟨_, rfl⟩
  subst hc
  exact s_retP (P := PoolV K) (p_call (P := PoolV K) (Ps := [Is (.int c), Is (.int k), Is (.int 420)]) (ps_cons mo_is (p_is rfl) (ps_cons mo_is (p_is rfl) (ps_cons mo_is p_c ps_nil))) fun xs H2 e2 ps Q' q' => by
    match xs, ps with
    | [y, z, u], ⟨py, pz, pu, _⟩ => exact ⟨c, k, 420, by rw [show y = _ from py, show z = _ from pz, show u = _ from pu], k0, k1, by decide, by decide, fun x H3 e3 p => q' x H3 e3 p⟩) fun x H2 e2 p => q x H2 (e1.trans e2) p
end
/-! ### [x for x in xs if ..] of data -/
section
variable {K : PySem.W.Frag} {σ : L2.St} {H : Hp} {tl : TE} {tt : TT} {j : Nat} {vs : List Nat} {l : Addr} {xs : List V} {ds : List PyData}
theorem p_lcQ (R : Nat → List PyData → Prop) (Fl : Nat → Bool → Prop) (h : Ev tl σ H (.ref l)) (hl : H l = some (.lst xs)) (hD : DqAll H xs ds) (hz : ds.length ≤ 40000) (r0 : R 0 [])
    (rt : ∀ i es d, R i es → ds[i]? = some d → Fl i true → R (i + 1) (es ++ [d])) (rf : ∀ i es, i < ds.length → R i es → Fl i false → R (i + 1) es)
    (hw : ∀ x, wipe ((wipe σ vs).set j (some x)) vs = wipe σ vs) (hv : ∀ x, ((wipe σ vs).set j (some x))[j]? = some (some x))
    (ht : ∀ i x d H1, Ex H H1 → xs[i]? = some x → ds[i]? = some d → ∀ Q : Bool → Hp → Prop, (∀ b H2, Ex H1 H2 → Fl i b → Q b H2) → tt ((wipe σ vs).set j (some x)) H1 Q) :
    EvP (tLc (iList K tl) (gName j) tt (tVar j) vs) σ H (fun x H' => ∃ es, R ds.length es ∧ Dq H' x (.list es)) := fun H1 e Q q => h H1 e _ fun H2 e2 => by
  have e02 := e.trans e2
  have ln := dqAll_len hD
  refine ⟨l, rfl, ⟨xs, sq_of (e02 _ _ hl)⟩, fun D hn => ?_⟩
  have n0 : H D = none := fresh_back e02 hn
  refine lc_list (xs := xs) (fun i H3 => Ex H2 H3 ∧ ∃ ys es, H3 D = some (.lst ys) ∧ R i es ∧ DqAll H ys es ∧ ys.length ≤ i) ⟨Ex.new hn, [], [], upd_same, r0, .nil, Nat.le_refl _⟩ (fun i H3 _ p => sq_of (p.1 _ _ (e02 _ _ hl))) (fun i x H3 hx p => ?_) fun H3 p => ?_
  · obtain ⟨e3, ys, es, hy, hr, hd, hl2⟩ := p
    obtain ⟨d, hd1, hd2⟩ := dqAll_at hD hx
    have il : i < xs.length := (List.getElem?_eq_some_iff.mp hx).1
    refine ⟨hw x, ht i x d H3 (e02.trans e3) hx hd1 _ fun b H4 e4 fl => ?_⟩
    cases b with
    | true =>
      simp only [if_true]
      refine ⟨x, hv x, ys, e4 _ _ hy, sz_lt (by omega), (e3.trans e4).mut hn, ys ++ [x], es ++ [d], upd_same, rt i es d hr hd1 fl, ?_, by simp; omega⟩
      clear hr hy hl2 e4 e3 fl q ht
      induction hd using DqAll.rec (motive_1 := fun _ _ _ => True) with
      | nil => exact .cons hd2 .nil
      | cons a _ _ ih => exact .cons a ih
      | _ => trivial
    | false =>
      simp only [Bool.false_eq_true, if_false]
      exact ⟨e3.trans e4, ys, es, e4 _ _ hy, rf i es (by omega) hr fl, hd, by omega⟩
  · obtain ⟨e3, ys, es, hy, hr, hd, hl2⟩ := p
    exact q (.ref D) H3 (e2.trans e3) ⟨es, by rw [← ln]; exact hr, .lst (by omega) hy (dqAll_up (e02.trans e3) hd)⟩
end
end Lw
set_option maxHeartbeats 4000000
namespace Lw
open PySem PySem.Spec PyProof.Rows L2 Evl Pd Gd Us Chk
def pr (i j : Int) : PyData := .tuple [.int i, .int j]
def base6 : List PyData := [pr 0 1, pr 1 0, pr 0 2, pr 2 0, pr 1 2, pr 2 1]
def chBase (n : Int) : List PyData := if n = 2 then base6.take 2 else base6
def ChV (n : Int) : PV := fun x H => ∃ es, es.Sublist (chBase n) ∧ Dq H x (.list es)
theorem mo_ch {n : Int} : Mo (ChV n) := fun _ _ _ e ⟨es, h1, h2⟩ => ⟨es, h1, dq_up e h2⟩
def cutA {α : Type} (xs : List α) (lo hi : Option Int) : List α := (xs.drop (HT.sIx xs.length 0 lo)).take (HT.sIx xs.length xs.length hi - HT.sIx xs.length 0 lo)
theorem dqAll_drop {H : Hp} : ∀ (n : Nat) {xs : List V} {ds : List PyData}, DqAll H xs ds → DqAll H (xs.drop n) (ds.drop n)
  | 0, _, _, h => h
  | n + 1, _, _, .nil => .nil
  | n + 1, _, _, .cons _ t => dqAll_drop n t
theorem dqAll_take {H : Hp} : ∀ (n : Nat) {xs : List V} {ds : List PyData}, DqAll H xs ds → DqAll H (xs.take n) (ds.take n)
  | 0, _, _, _ => by simp only [List.take_zero]; exact .nil
  | n + 1, _, _, .nil => .nil
  | n + 1, _, _, .cons h t => .cons h (dqAll_take n t)
theorem dqAll_cut {H : Hp} {xs : List V} {ds : List PyData} (lo hi : Option Int) (h : DqAll H xs ds) : DqAll H (cutV xs lo hi) (cutA ds lo hi) := by
  unfold cutV cutA
  rw [dqAll_len h]
  exact dqAll_take _ (dqAll_drop _ h)
section
variable {σ : L2.St} {H : Hp} {te : TE} {tl th : TO} {K : PySem.W.Frag} {ds : List PyData} {lo hi : Option Int}
theorem p_slQ (h : EvP te σ H (Qe (.list ds))) (h1 : EvO tl σ H lo) (h2 : EvO th σ H hi) : EvP (tSl (rSlL K) te tl th) σ H (Qe (.list (cutA ds lo hi))) := fun H1 e Q q =>
  h H1 e _ fun x H2 e2 p => h1 H2 (e.trans e2) _ fun H3 e3 => h2 H3 (e.trans (e2.trans e3)) _ fun H4 e4 => by
    cases p with
    | @lst a xs _ z hl hd =>
      refine ⟨a, xs, rfl, sq_of ((e3.trans e4) _ _ hl), fun p hp => q _ _ (e2.trans (e3.trans (e4.trans (Ex.new hp)))) (.lst ?_ upd_same (dqAll_up (e3.trans (e4.trans (Ex.new hp))) (dqAll_cut lo hi hd)))⟩
      exact Nat.le_trans (cutV_length xs lo hi) z
theorem q_pr {i j : Int} : EvP (tTup (tCons (tC (.int i)) (tCons (tC (.int j)) tNil))) σ H (Qe (pr i j)) := q_tup (ds := [.int i, .int j]) (ps_cons mo_qe q_int (ps_cons mo_qe q_int ps_nil))
end
def spCh (K : PySem.W.Frag) : Sp := fun vs H Q _ => vs.length = 2 ∧ ∃ (x : V) (n : Int), vs = [x, .int n] ∧ PoolV K x H ∧ (n = 2 ∨ n = 3) ∧ ∀ y H', Ex H H' → ChV n y H' → Q y H'
theorem scCh : FnScope ["pool", "size", "pairs", "pair"] ["pool", "size"] (defScope sChanges) := ⟨rfl, rfl, rfl, by decide +kernel, rfl, by decide +kernel, by decide +kernel⟩
section
variable {P : Program} {w : World} {K : PySem.W.Frag} {mg : Str → Option Value} {base : Heap}
theorem ok_ch (D : Dn K mg "_law_changes" sChanges) (UD : Use P w K mg base 1 "_law_draw" ["pool", "many"] (spDraw K)) : Use P w K mg base 2 "_law_changes" ["pool", "size"] (spCh K) := by
  refine use_of D scCh (fun f fd F => F.binds (ps := ["pool", "size"]) fun _ _ _ _ _ _ us hl => match us, hl with | [_, _], _ => rfl) (fun vs H Q E h => h.1) (fun f cdv A outer s H vs Q E hr h => ?_)
  obtain ⟨_, x, n, rfl, hp, hn, q⟩ := h
  refine ⟨_, pss_cons (ps_set (i := 2) scCh.nd rfl (Or.inl rfl) (pe_slice sl_list (pe_lst (pa_cons (pe_tup (pa_cons pe_int (pa_cons pe_int pa_nil))) (pa_cons (pe_tup (pa_cons pe_int (pa_cons pe_int pa_nil))) (pa_cons (pe_tup (pa_cons pe_int (pa_cons pe_int pa_nil))) (pa_cons (pe_tup (pa_cons pe_int (pa_cons pe_int pa_nil))) (pa_cons (pe_tup (pa_cons pe_int (pa_cons pe_int pa_nil))) (pa_cons (pe_tup (pa_cons pe_int (pa_cons pe_int pa_nil))) pa_nil)))))))
      po_none (po_some (pe_op op_mul (pv 1) (pe_op op_sub (pv 1) pe_int)))))
    (pss_one (ps_ret (pe_lc (own := [("pair", 3)]) (g := gName 3) rfl scCh.nd (pi_list (pv 2)) (blkOk_by (N := ["pool", "size", "pairs", "pair"]) (sc := defScope sChanges) (by decide +kernel))
      (fun _ _ _ _ _ => pg_name (i := 3) scCh.nd rfl (Or.inl rfl)) (fun _ _ _ _ _ => pts_one (pt_cmpR op_gt (pe_use UD hr (by decide) (by rfl) (pa_cons (pv 0) (pa_cons pe_int pa_nil))) pe_int (nomark _))) (fun _ _ _ _ _ => pv 3)))), ?_⟩
  refine d_asg (P := Qe (.list (chBase n))) ?list fun y H1 e1 py => ?_
  case list =>
    have all : EvP (tLst (tCons (tTup (tCons (tC (.int 0)) (tCons (tC (.int 1)) tNil))) (tCons (tTup (tCons (tC (.int 1)) (tCons (tC (.int 0)) tNil))) (tCons (tTup (tCons (tC (.int 0)) (tCons (tC (.int 2)) tNil))) (tCons (tTup (tCons (tC (.int 2)) (tCons (tC (.int 0)) tNil))) (tCons (tTup (tCons (tC (.int 1)) (tCons (tC (.int 2)) tNil))) (tCons (tTup (tCons (tC (.int 2)) (tCons (tC (.int 1)) tNil))) tNil)))))))
        (L2.start ["pool", "size", "pairs", "pair"] [x, .int n]) H (Qe (.list base6)) := q_lst (ds := base6) (ps_cons mo_qe q_pr (ps_cons mo_qe q_pr (ps_cons mo_qe q_pr (ps_cons mo_qe q_pr (ps_cons mo_qe q_pr (ps_cons mo_qe q_pr ps_nil))))))
    rcases hn with rfl | rfl
    · have cut : EvP _ (L2.start ["pool", "size", "pairs", "pair"] [x, .int 2]) H (Qe (.list (cutA base6 none (some 2)))) := p_slQ (K := K) (hi := some 2) all eo_none (eo_some (ev_is (ev_op (ev_var (i := 1) rfl) (ev_is (ev_op (ev_var (i := 1) rfl) (ev_c (v := .int 1)) (rv_I0 (g := fun i j => V.int (i - j)))) (w := .int 1) rfl) (rv_I (C := CMul) (g := fun i j => .int (i * j)) (Or.inl ⟨by decide, by decide⟩))) rfl))
      exact cut
    · have cut : EvP _ (L2.start ["pool", "size", "pairs", "pair"] [x, .int 3]) H (Qe (.list (cutA base6 none (some 6)))) := p_slQ (K := K) (hi := some 6) all eo_none (eo_some (ev_is (ev_op (ev_var (i := 1) rfl) (ev_is (ev_op (ev_var (i := 1) rfl) (ev_c (v := .int 1)) (rv_I0 (g := fun i j => V.int (i - j)))) (w := .int 2) rfl) (rv_I (C := CMul) (g := fun i j => .int (i * j)) (Or.inl ⟨by decide, by decide⟩))) rfl))
      exact cut
  cases py with
  | lst z hl hd =>
    refine s_retP (P := ChV n) ((p_lcQ (K := K) (fun i es => es.Sublist ((chBase n).take i)) (fun _ _ => True) (ev_var rfl) hl hd ?short (List.Sublist.refl _) ?rt ?rf (fun _ => rfl) (fun _ => rfl) ?ht).imp fun v H2 e2 ⟨es, h1, h2⟩ => ⟨es, by rw [List.take_length] at h1; exact h1, h2⟩) fun v H2 e2 p => q v H2 (e1.trans e2) p
    case short => rcases hn with rfl | rfl <;> decide
    case rt =>
      intro i es d hs hd' _
      have il := (List.getElem?_eq_some_iff.mp hd').1
      have e0 := (List.getElem?_eq_some_iff.mp hd').2
      rw [← List.take_append_getElem il, e0]
      exact hs.append (List.Sublist.refl _)
    case rf =>
      intro i es il hs _
      exact hs.trans (List.take_sublist_take_left (by omega))
    case ht =>
      intro i v d H2 e2 hv hd' Q' q'
      refine p_draw (H := H2) (p_var rfl mo_pool (mo_pool _ _ _ (e1.trans e2) hp)) ev_c (by decide) H2 (Ex.refl H2) _ fun u H3 e3 ⟨m, hm, _⟩ => ?_
      exact ⟨m, 0, hm, rfl, _, rfl, q' _ H3 e3 trivial⟩
end
end Lw
set_option maxHeartbeats 4000000
namespace Lw
open PySem PySem.Spec PyProof.Rows L2 Evl Pd Gd Us Chk
mutual
theorem dq_by {H H' : Hp} (hl : ∀ b xs, H b = some (.lst xs) → H' b = some (.lst xs)) (ht : ∀ b xs, H b = some (.tup xs) → H' b = some (.tup xs)) : ∀ {x : V} {d : PyData}, Dq H x d → Dq H' x d
  | _, _, .non => .non
  | _, _, .bl b => .bl b
  | _, _, .int i => .int i
  | _, _, .str x => .str x
  | _, _, .lst z h a => .lst z (hl _ _ h) (dqAll_by hl ht a)
  | _, _, .tup h a => .tup (ht _ _ h) (dqAll_by hl ht a)
theorem dqAll_by {H H' : Hp} (hl : ∀ b xs, H b = some (.lst xs) → H' b = some (.lst xs)) (ht : ∀ b xs, H b = some (.tup xs) → H' b = some (.tup xs)) : ∀ {xs : List V} {ds : List PyData}, DqAll H xs ds → DqAll H' xs ds
  | _, _, .nil => .nil
  | _, _, .cons h a => .cons (dq_by hl ht h) (dqAll_by hl ht a)
end
def holdsOf (so : Str) : List Str := if so = ("table" : Str) then ["sent", "answered", "answered"] else ["sent", "answered", "open"]
def drawnK (so : Str) (n k : Int) (l : V) (h : Str) : List (Key × V) := [(.inr "sort", .str so), (.inr "size", .int n), (.inr "start", .int k), (.inr "changes", l), (.inr "hold", .str h)]
/-- a drawn setting -/
def DrawnS (so : Str) : PV := fun x H => ∃ (p : Addr) (n k : Int) (l : V) (h : Str), x = .ref p ∧ H p = some (.dK (drawnK so n k l h)) ∧ ChV n l H ∧ (n = 2 ∨ n = 3) ∧ 0 ≤ k ∧ k < n ∧ h ∈ holdsOf so
theorem mo_drawn {so : Str} : Mo (DrawnS so) := fun _ _ _ e ⟨p, n, k, l, h, h1, h2, h3, h4⟩ => ⟨p, n, k, l, h, h1, e _ _ h2, mo_ch _ _ _ e h3, h4⟩
def spSetting (K : PySem.W.Frag) : Sp := fun vs H Q _ => vs.length = 2 ∧ ∃ (x : V) (so : Str), vs = [x, .str so] ∧ PoolV K x H ∧ ∀ y H', Ex H H' → DrawnS so y H' → Q y H'
theorem scSetting : FnScope ["pool", "sort", "size", "some"] ["pool", "sort"] (defScope sSetting) := ⟨rfl, rfl, rfl, by decide +kernel, rfl, by decide +kernel, by decide +kernel⟩
section
variable {P : Program} {w : World} {K : PySem.W.Frag} {mg : Str → Option Value} {base : Heap}
theorem ok_setting (D : Dn K mg "_law_setting" sSetting) (UD : Use P w K mg base 1 "_law_draw" ["pool", "many"] (spDraw K)) (UC : Use P w K mg base 2 "_law_changes" ["pool", "size"] (spCh K)) (UP : Use P w K mg base 2 "_law_pick" ["pool", "some"] (spPick K)) :
    Use P w K mg base 3 "_law_setting" ["pool", "sort"] (spSetting K) := by
  refine use_of D scSetting (fun f fd F => F.binds (ps := ["pool", "sort"]) fun _ _ _ _ _ _ us hl => match us, hl with | [_, _], _ => rfl) (fun vs H Q E h => h.1) (fun f cdv A outer s H vs Q E hr h => ?_)
  obtain ⟨_, x, so, rfl, hp, q⟩ := h
  refine ⟨_, pss_cons (ps_set (i := 2) scSetting.nd rfl (Or.inl rfl) (pe_op op_add pe_int (pe_use UD hr (by decide) (by rfl) (pa_cons (pv 0) (pa_cons pe_int pa_nil)))))
    (pss_cons (ps_set (i := 3) scSetting.nd rfl (Or.inl rfl) (pe_ifExp (pt_cmpR op_eq (pv 1) pe_str (nomark _)) (pe_lst (pa_cons pe_str (pa_cons pe_str (pa_cons pe_str pa_nil)))) (pe_lst (pa_cons pe_str (pa_cons pe_str (pa_cons pe_str pa_nil))))))
    (pss_one (ps_ret (pe_disp (pps_cons pe_str (pv 1) (pps_cons pe_str (pv 2) (pps_cons pe_str (pe_use UD hr (by decide) (by rfl) (pa_cons (pv 0) (pa_cons (pv 2) pa_nil))) (pps_cons pe_str (pe_use UC hr (by decide) (by rfl) (pa_cons (pv 0) (pa_cons (pv 2) pa_nil)))
      (pps_cons pe_str (pe_use UP hr (by decide) (by rfl) (pa_cons (pv 0) (pa_cons (pv 3) pa_nil))) pps_nil))))) (by rfl) (by rfl) (fun z => by cases z) (by decide))))), ?_⟩
  have h0 : ∀ {σ : L2.St} {H1 : Hp}, σ[0]? = some (some x) → Ex H H1 → EvP (tVar 0) σ H1 (PoolV K) := fun hv e => p_var hv mo_pool (mo_pool _ _ _ e hp)
  refine d_asg (P := fun x _ => x = .int 2 ∨ x = .int 3) (p_op (P1 := Is (.int 2)) (P2 := RgV 0 2) mo_is p_c (p_draw (h0 rfl (Ex.refl H)) ev_c (by decide)) fun y z H1 e py ⟨m, hm, m0, m1⟩ Q' q' => ⟨2, m, py, hm, q' _ H1 (Ex.refl H1) ?_⟩) fun y H1 e1 hy => ?_
  · have : m = 0 ∨ m = 1 := by omega
    rcases this with rfl | rfl
    · exact .inl rfl
    · exact .inr rfl
  obtain ⟨n, hn, rfl⟩ : ∃ n : Int, (n = 2 ∨ n = 3) ∧ y = .int n := by
    rcases hy with h | h
    · exact ⟨2, .inl rfl, h⟩
    · exact ⟨3, .inr rfl, h⟩
  have txts : ∀ {σ : L2.St} {a b c : Str}, EvP (tLst (tCons (tC (.str a)) (tCons (tC (.str b)) (tCons (tC (.str c)) tNil)))) σ H1 (Qe (.list (([a, b, c] : List Str).map PyData.str))) := fun {σ a b c} => q_lst (ds := ([a, b, c] : List Str).map PyData.str) (ps_cons mo_qe q_str (ps_cons mo_qe q_str (ps_cons mo_qe q_str ps_nil)))
  refine d_asg (P := Qe (.list ((holdsOf so).map PyData.str))) (p_ife (b := decide (V.str so = .str "table")) (et_test (ev_op (ev_var rfl) ev_c (rv_eq rfl))) (fun c => ?_) fun c => ?_) fun z H2 e2 hz => ?_
  · have : so = ("table" : Str) := by simpa using c
    unfold holdsOf
    rw [if_pos this]
    exact txts
  · have : so ≠ ("table" : Str) := by simpa using c
    unfold holdsOf
    rw [if_neg this]
    exact txts
  have e02 := e1.trans e2
  refine fun p np => ?_
  have e3 : Ex H2 (upd H2 p (.dK [])) := Ex.new np
  refine ⟨.str so, rfl, .int n, rfl, ?_⟩
  refine p_draw (H := upd H2 p (.dK [])) (h0 rfl (e02.trans e3)) (ev_var rfl) (by omega) _ (Ex.refl _) _ fun k' H3 e4 ⟨k, ek, k0, k1⟩ => ?_
  have e5 := e02.trans (e3.trans e4)
  refine ⟨x, rfl, .int n, rfl, rfl, x, n, rfl, mo_pool _ _ _ e5 hp, hn, fun l H4 e6 hl => ?_⟩
  have e7 := e5.trans e6
  have ne : holdsOf so ≠ [] := by unfold holdsOf; split <;> simp
  refine p_pick (H := H4) (h0 rfl e7) (p_var rfl mo_qe (mo_qe _ _ _ (e3.trans (e4.trans e6)) hz)) (by intro z; exact ne (List.map_eq_nil_iff.mp z)) _ (Ex.refl _) _ fun v H5 e8 ⟨d, hd, dv⟩ => ?_
  obtain ⟨t, ht, rfl⟩ := List.mem_map.mp hd
  cases dv
  have hpD : H5 p = some (.dK []) := e8 _ _ (e6 _ _ (e4 _ _ upd_same))
  refine ⟨hpD, drawnK so n k l t, by rw [ek]; rfl, show 5 ≤ 15 from by decide, ?_⟩
  have fr : H2 p = none := np
  have up : Ex H (upd H5 p (.dK (mergeK [] (drawnK so n k l t)))) := (e7.trans e8).mut (fresh_back e02 fr)
  refine q (.ref p) _ up ⟨p, n, k, l, t, rfl, ?_, ?_, hn, k0, k1, ht⟩
  · rw [upd_same]
    rfl
  · obtain ⟨es, h1, h2⟩ := mo_ch _ _ _ e8 hl
    refine ⟨es, h1, dq_by (fun b xs hb => ?_) (fun b xs hb => ?_) h2⟩
    · rw [upd_ne (fun z => by rw [z, hpD] at hb; cases hb)]; exact hb
    · rw [upd_ne (fun z => by rw [z, hpD] at hb; cases hb)]; exact hb
end
end Lw
set_option maxHeartbeats 4000000
namespace Chk
open PySem PySem.Spec PyProof.Rows L2 Evl Pd Gd Us
def psInit : List Str := ["self", "sort", "size", "start", "changes", "hold"]
/-- all that a caller of the class asks -/
structure SetC (P : Program) (w : World) (K : PySem.W.Frag) (mg : Str → Option Value) (base : Heap) (C CB : Addr) : Prop where
  mS : mg "Setting" = some (.ref C)
  T : ClsS K C
  make : ∃ fI fd, Mk K C fI ∧ L2.Binds K fd psInit [] ∧ FnOk P w K mg base (L2.CX P w) 6 fI fd psInit (spInit C CB)
  lets : ∃ f fd, Meth K C "lets" f ∧ L2.Binds K fd ["self", "one", "other"] [] ∧ FnOk P w K mg base CX0 2 f fd ["self", "one", "other"] (spLets K C)
  chs : ∃ f fd, Meth K C "changes" f ∧ L2.Binds K fd ["self"] [] ∧ FnG P w K mg base CX0 1 f fd ["self"] (spChs C)
  eq : ∃ f fd, OwnNe.EqC K C f ∧ L2.Binds K fd ["self", "other"] [] ∧ FnOk P w K mg base CX0 1 f fd ["self", "other"] (spEqS C)
  nl : PySem.W.notFirst K C (.type "list") = true
  kind : ∃ p g fd, PropOf K C "kind" p g ∧ L2.Binds K fd ["self"] [] ∧ FnOk P w K mg base CX0 1 g fd ["self"] (getSp C "_kind")
  size : ∃ p g fd, PropOf K C "size" p g ∧ L2.Binds K fd ["self"] [] ∧ FnOk P w K mg base CX0 1 g fd ["self"] (getSp C "_size")
  start : ∃ p g fd, PropOf K C "start" p g ∧ L2.Binds K fd ["self"] [] ∧ FnOk P w K mg base CX0 1 g fd ["self"] (getSp C "_start")
  hold : ∃ p g fd, PropOf K C "hold" p g ∧ L2.Binds K fd ["self"] [] ∧ FnOk P w K mg base CX0 1 g fd ["self"] (getSp C "_hold")
section
variable {X : Cx} {C CB : Addr} {e o : Expr} {es : List Expr} {p pos apos : Pos} {ta tb : TE} {t : TA} {j : Nat}
theorem pe_setting {E : XK} (S : SetC X.prog X.w X.K X.mg X.base C CB) (hr : Room j X.A) (hk : 7 ≤ j) (hg : Gl X "Setting") (hx : Passes (L2.CX X.prog X.w) X E) (ha : PA X (e :: es) t)
    (he : starEach (e :: es) X.env = (false, eval e X.env) :: starEach es X.env := by rfl) (hpl : (backTo pos (starEach es X.env)).any (·.1) = false := by rfl) :
    PE X (.Call (.Name "Setting" p) (e :: es) [] pos) (tMake C (spInit C CB) [] E t) := by
  obtain ⟨fI, fd, M, b, F⟩ := S.make
  exact pe_make M F (hr.mono hk) hg S.mS b .nil hx ha (by decide) he hpl
theorem pe_lets {pl : Sem Bool} (S : SetC X.prog X.w X.K X.mg X.base C CB) (hr : Room j X.A) (hk : 2 ≤ j) (ho : PE X o ta) (ha : PA X (e :: es) t)
    (hst : starEach (e :: es) X.env = (false, eval e X.env) :: starEach es X.env := by rfl) (hpl : (backTo pos (starEach es X.env)).any (·.1) = false := by rfl)
    (ht : eval (.Call (.Attribute o "lets" apos) (e :: es) [] pos) X.env = (do
      let ov ← eval o X.env
      standAt apos.atName
      let (f, first) ← holding [ov] (getMethod ov "lets" pl)
      callWith pos f first (backTo pos (starEach (e :: es) X.env)) (backToKw pos (keywordEach [] X.env))) := by rfl) :
    PE X (.Call (.Attribute o "lets" apos) (e :: es) [] pos) (tMeth C "lets" (spLets X.K C) [] (fun _ _ _ => False) ta t) := by
  obtain ⟨f, fd, M, b, F⟩ := S.lets
  exact pe_meth ho S.T.cl M F (hr.mono hk) b .nil pass0 ha hst hpl ht
theorem pe_chs {pl : Sem Bool} (S : SetC X.prog X.w X.K X.mg X.base C CB) (hr : Room j X.A) (hk : 1 ≤ j) (hu : X.A.guards = some []) (ho : PE X o ta)
    (ht : eval (.Call (.Attribute o "changes" apos) [] [] pos) X.env = (do
      let ov ← eval o X.env
      standAt apos.atName
      let (f, first) ← holding [ov] (getMethod ov "changes" pl)
      callWith pos f first (backTo pos (starEach [] X.env)) (backToKw pos (keywordEach [] X.env))) := by rfl) :
    PE X (.Call (.Attribute o "changes" apos) [] [] pos) (tMeth C "changes" (spChs C) [] (fun _ _ _ => False) ta tNil) := by
  obtain ⟨f, fd, M, b, F⟩ := S.chs
  exact pe_meth0G ho S.T.cl M F (hr.mono hk) hu b pass0 ht
theorem op_eqSet (S : SetC X.prog X.w X.K X.mg X.base C CB) (hr : Room j X.A) (hk : 1 ≤ j) : OpR X (compareOp .Eq) (OwnNe.rOwn C (spEqS C) false) := by
  obtain ⟨f, fd, M, b, F⟩ := S.eq
  exact OwnNe.op_eqOwn F M b (hr.mono hk) S.nl
theorem op_neSet (S : SetC X.prog X.w X.K X.mg X.base C CB) (hr : Room j X.A) (hk : 2 ≤ j) : OpR X (compareOp .NotEq) (OwnNe.rOwn C (spEqS C) true) := by
  obtain ⟨f, fd, M, b, F⟩ := S.eq
  exact OwnNe.op_neOwn F M b (hr.mono hk) S.nl
theorem pe_kindP (S : SetC X.prog X.w X.K X.mg X.base C CB) (hr : Room j X.A) (hk : 2 ≤ j) (ho : PE X o ta) (hab : attributeBase o "kind" X.env (eval o X.env) = eval o X.env := by rfl) : PE X (.Attribute o "kind" pos) (tProp C (getSp C "_kind") [] (fun _ _ _ => False) ta) := by
  obtain ⟨pp, g, fd, M, b, F⟩ := S.kind
  exact pe_prop ho S.T.cl M F (hr.mono hk) b .nil pass0 hab
theorem pe_sizeP (S : SetC X.prog X.w X.K X.mg X.base C CB) (hr : Room j X.A) (hk : 2 ≤ j) (ho : PE X o ta) (hab : attributeBase o "size" X.env (eval o X.env) = eval o X.env := by rfl) : PE X (.Attribute o "size" pos) (tProp C (getSp C "_size") [] (fun _ _ _ => False) ta) := by
  obtain ⟨pp, g, fd, M, b, F⟩ := S.size
  exact pe_prop ho S.T.cl M F (hr.mono hk) b .nil pass0 hab
theorem pe_startP (S : SetC X.prog X.w X.K X.mg X.base C CB) (hr : Room j X.A) (hk : 2 ≤ j) (ho : PE X o ta) (hab : attributeBase o "start" X.env (eval o X.env) = eval o X.env := by rfl) : PE X (.Attribute o "start" pos) (tProp C (getSp C "_start") [] (fun _ _ _ => False) ta) := by
  obtain ⟨pp, g, fd, M, b, F⟩ := S.start
  exact pe_prop ho S.T.cl M F (hr.mono hk) b .nil pass0 hab
theorem pe_holdP (S : SetC X.prog X.w X.K X.mg X.base C CB) (hr : Room j X.A) (hk : 2 ≤ j) (ho : PE X o ta) (hab : attributeBase o "hold" X.env (eval o X.env) = eval o X.env := by rfl) : PE X (.Attribute o "hold" pos) (tProp C (getSp C "_hold") [] (fun _ _ _ => False) ta) := by
  obtain ⟨pp, g, fd, M, b, F⟩ := S.hold
  exact pe_prop ho S.T.cl M F (hr.mono hk) b .nil pass0 hab
/-- repr of True, False -/
def rReprB : List V → Hp → VK → Prop := fun xs H Q => ∃ b : Bool, xs = [.bl b] ∧ Q (.str (if b then "True" else "False")) H
theorem cr_reprB : CallR X (.builtin "repr") rReprB := by
  intro pins s σ H xs us Q I r h
  obtain ⟨b, rfl, q⟩ := h
  obtain ⟨u, rfl, ru⟩ := vals1 r
  cases ru
  exact PySem.P.repr_of_bool ⟨.str _, H, I.tok _, ⟨_, rfl⟩, q⟩
end
section
variable {σ : L2.St} {H : Hp} {te ta tb : TE} {K : PySem.W.Frag}
theorem ev_reprB {b : Bool} (h : Ev te σ H (.bl b)) : Ev (tCB rReprB (tCons te tNil)) σ H (.str (if b then "True" else "False")) := fun H1 e Q q => h H1 e _ fun H2 e2 => ⟨b, rfl, q H2 e2⟩
theorem ev_inD {d : PyData} {ds : List PyData} (h1 : EvP ta σ H (De K d)) (h2 : EvP tb σ H (De K (.list ds))) (s1 : SeqAt.shaped d = true) (s2 : SeqAt.shaped (.list ds) = true) : Ev (tOp (rInD K) ta tb) σ H (.bl (ds.any fun z => PyData.eqv z d)) := fun H1 e Q q =>
  h1 H1 e _ fun x H2 e2 p1 => h2 H2 (e.trans e2) _ fun y H3 e3 p2 => ⟨d, ds, dp_up e3 p1, p2, s1, s2, q H3 (e2.trans e3)⟩
theorem ev_ninD {d : PyData} {ds : List PyData} (h1 : EvP ta σ H (De K d)) (h2 : EvP tb σ H (De K (.list ds))) (s1 : SeqAt.shaped d = true) (s2 : SeqAt.shaped (.list ds) = true) : Ev (tOp (rNotInD K) ta tb) σ H (.bl (!ds.any fun z => PyData.eqv z d)) := fun H1 e Q q =>
  h1 H1 e _ fun x H2 e2 p1 => h2 H2 (e.trans e2) _ fun y H3 e3 p2 => ⟨d, ds, dp_up e3 p1, p2, s1, s2, q H3 (e2.trans e3)⟩
theorem s_forRange {D : Ends} {tu : TS} {ta : TA} {j : Nat} {lo n : Int} (h : EvA ta σ H [.int lo, .int n]) (hn : -100000 ≤ lo ∧ lo ≤ 100000 ∧ -100000 ≤ n ∧ n ≤ 100000) (Pv : Nat → L2.St → Hp → Prop) (h0 : ∀ H1, Ex H H1 → Pv 0 σ H1)
    (hs : ∀ (i : Nat) σ' H', lo + (i : Int) < n → Pv i σ' H' → tu { D with nx := Pv (i + 1), ct := Pv (i + 1), bk := D.nx } (σ'.set j (some (.int (lo + (i : Int))))) H') (hd : ∀ σ' H', Pv (n - lo).toNat σ' H' → D.nx σ' H') : tFor (iRng2 ta) (gName j) tu D σ H :=
  h H (Ex.refl H) _ fun H1 e => ⟨lo, n, rfl, ⟨by omega, by omega, by omega, by omega⟩, for_range (lo := lo) (n := (n - lo).toNat) Pv (h0 H1 e) (fun i σ' H' hi p => hs i σ' H' (by omega) p) hd⟩
theorem q_forRange {D : Ends} {tz tu : TS} {ta : TA} {j : Nat} {lo n : Int} (h : EvA ta σ H [.int lo, .int n]) (hn : -100000 ≤ lo ∧ lo ≤ 100000 ∧ -100000 ≤ n ∧ n ≤ 100000) (Pv : Nat → L2.St → Hp → Prop) (h0 : ∀ H1, Ex H H1 → Pv 0 σ H1)
    (hs : ∀ (i : Nat) σ' H', lo + (i : Int) < n → Pv i σ' H' → tu { D with nx := Pv (i + 1), ct := Pv (i + 1), bk := tz D } (σ'.set j (some (.int (lo + (i : Int))))) H') (hd : ∀ σ' H', Pv (n - lo).toNat σ' H' → tz D σ' H') : tSeq (tFor (iRng2 ta) (gName j) tu) tz D σ H :=
  s_forRange (D := { D with nx := tz D }) h hn Pv h0 hs hd
end
end Chk
set_option maxHeartbeats 4000000
/-! Loops over a dict that is locked. -/
namespace Wlk
open PySem PySem.Spec PyProof.Rows L2 Evl Pd
section
variable {K : PySem.W.Frag} {σ : L2.St} {H H' : Hp} {td te : TE} {t : TT} {d : Addr} {vs : List (Key × V)} {od : Obj} {D : Ends} {g : TG} {tb tz : TS}
/-- the heap while d is locked -/
abbrev lk (H : Hp) (d : Addr) (od : Obj) (vs : List (Key × V)) : Hp := upd H d (.frz od (.dK vs))
/-- the ends of a body inside a lock -/
def lkD (d : Addr) (od : Obj) (vs : List (Key × V)) (N : L2.St → Hp → Prop) (D : Ends) : Ends :=
  { nx := N, rt := fun x H3 => H3 d = some (.frz od (.dK vs)) ∧ D.rt x (upd H3 d (.dK vs)), bk := fun σ3 H3 => H3 d = some (.frz od (.dK vs)) ∧ D.nx σ3 (upd H3 d (.dK vs)), ct := N }
/-- for k, v in d.items() -/
theorem s_lockItems (h : ∀ od, Ev td σ (lk H d od vs) (.ref d)) (hd : H d = some (.dK vs)) (Pv : Obj → Nat → L2.St → Hp → Prop) (hP : ∀ od n σ' H', Pv od n σ' H' → H' d = some (.frz od (.dK vs)))
    (h0 : ∀ od H1, Ex (lk H d od vs) H1 → Pv od 0 σ H1)
    (turn : ∀ od (n : Nat) (k : Key) (v : V) (T : Addr) σ' H', vs[n]? = some (k, v) → Pv od n σ' H' → H' T = none → g (.ref T) σ' (upd H' T (.tup [kV k, v])) fun σ2 H2 => tb (lkD d od vs (Pv od (n + 1)) D) σ2 H2)
    (fin : ∀ od σ' H', Pv od vs.length σ' H' → D.nx σ' (upd H' d (.dK vs))) : tLock (tFor (iItems td) g tb) D σ H :=
  ⟨d, .dK vs, hd, trivial, fun od => h od _ (Ex.refl _) _ fun H1 e1 => ⟨d, od, vs, rfl, e1 _ _ upd_same, for_it walk_items (Pv od) (h0 od H1 e1) (fun n σ' H' _ p => hP od n σ' H' p)
    (fun n x σ' H2 H3 hn p y => by
      obtain ⟨T, x1, x2, rfl, hT, rfl, e1, e2⟩ := y
      dsimp only at e1 e2
      rw [List.getElem?_eq_getElem hn] at e1 e2
      cases e1
      cases e2
      exact turn od n _ _ T σ' H2 (List.getElem?_eq_getElem hn) p hT) (fun σ' H' p => ⟨hP od _ _ _ p, fin od σ' H' p⟩)⟩⟩
/-- for k in d -/
theorem s_lockKeys (h : ∀ od, Ev td σ (lk H d od vs) (.ref d)) (hd : H d = some (.dK vs)) (Pv : Obj → Nat → L2.St → Hp → Prop) (hP : ∀ od n σ' H', Pv od n σ' H' → H' d = some (.frz od (.dK vs)))
    (h0 : ∀ od H1, Ex (lk H d od vs) H1 → Pv od 0 σ H1)
    (turn : ∀ od (n : Nat) (k : Key) (v : V) σ' H', vs[n]? = some (k, v) → Pv od n σ' H' → g (kV k) σ' H' fun σ2 H2 => tb (lkD d od vs (Pv od (n + 1)) D) σ2 H2)
    (fin : ∀ od σ' H', Pv od vs.length σ' H' → D.nx σ' (upd H' d (.dK vs))) : tLock (tFor (iKeys td) g tb) D σ H :=
  ⟨d, .dK vs, hd, trivial, fun od => h od _ (Ex.refl _) _ fun H1 e1 => ⟨d, od, rfl, .inl ⟨vs, e1 _ _ upd_same, for_it walk_keys (Pv od) (h0 od H1 e1) (fun n σ' H' _ p => hP od n σ' H' p)
    (fun n x σ' H2 H3 hn p y => by
      obtain ⟨rfl, k, v, e, rfl⟩ := y
      exact turn od n k v σ' _ e p) (fun σ' H' p => ⟨hP od _ _ _ p, fin od σ' H' p⟩)⟩⟩⟩
theorem q_lockItems (h : ∀ od, Ev td σ (lk H d od vs) (.ref d)) (hd : H d = some (.dK vs)) (Pv : Obj → Nat → L2.St → Hp → Prop) (hP : ∀ od n σ' H', Pv od n σ' H' → H' d = some (.frz od (.dK vs)))
    (h0 : ∀ od H1, Ex (lk H d od vs) H1 → Pv od 0 σ H1)
    (turn : ∀ od (n : Nat) (k : Key) (v : V) (T : Addr) σ' H', vs[n]? = some (k, v) → Pv od n σ' H' → H' T = none → g (.ref T) σ' (upd H' T (.tup [kV k, v])) fun σ2 H2 => tb (lkD d od vs (Pv od (n + 1)) { D with nx := tz D }) σ2 H2)
    (fin : ∀ od σ' H', Pv od vs.length σ' H' → tz D σ' (upd H' d (.dK vs))) : tSeq (tLock (tFor (iItems td) g tb)) tz D σ H :=
  s_lockItems (D := { D with nx := tz D }) h hd Pv hP h0 turn fin
theorem q_lockKeys (h : ∀ od, Ev td σ (lk H d od vs) (.ref d)) (hd : H d = some (.dK vs)) (Pv : Obj → Nat → L2.St → Hp → Prop) (hP : ∀ od n σ' H', Pv od n σ' H' → H' d = some (.frz od (.dK vs)))
    (h0 : ∀ od H1, Ex (lk H d od vs) H1 → Pv od 0 σ H1)
    (turn : ∀ od (n : Nat) (k : Key) (v : V) σ' H', vs[n]? = some (k, v) → Pv od n σ' H' → g (kV k) σ' H' fun σ2 H2 => tb (lkD d od vs (Pv od (n + 1)) { D with nx := tz D }) σ2 H2)
    (fin : ∀ od σ' H', Pv od vs.length σ' H' → tz D σ' (upd H' d (.dK vs))) : tSeq (tLock (tFor (iKeys td) g tb)) tz D σ H :=
  s_lockKeys (D := { D with nx := tz D }) h hd Pv hP h0 turn fin
/-- a, b = the pair -/
theorem two_go {i j : Nat} {T : Addr} {x y : V} {H1 : Hp} {Q : L2.St → Hp → Prop} (hT : H1 T = some (.tup [x, y])) (q : Q ((σ.set i (some x)).set j (some y)) H1) : gTup K 2 (gCons (gName i) (gCons (gName j) gNil)) (.ref T) σ H1 Q :=
  ⟨T, [x, y], rfl, st_of hT, rfl, x, [y], rfl, y, [], rfl, rfl, q⟩
/-- comprehensions over the keys, the items, inside the lock -/
theorem el_lcKeys {vs' : List Nat} {j : Nat} (f : Nat → Bool) (v : Nat → V) (h : Ev td σ H (.ref d)) (hd : H d = some (.frz od (.dK vs))) (hn : vs.length ≤ 40000) (hw : ∀ x, wipe ((wipe σ vs').set j (some x)) vs' = wipe σ vs')
    (ht : ∀ (i : Nat) (k : Key) (x : V) H1, Ex H H1 → vs[i]? = some (k, x) → EvT t ((wipe σ vs').set j (some (kV k))) H1 (f i)) (he : ∀ (i : Nat) (k : Key) (x : V) H1, Ex H H1 → vs[i]? = some (k, x) → f i = true → Ev te ((wipe σ vs').set j (some (kV k))) H1 (v i)) :
    EvL (tLc (iKeys td) (gName j) t te vs') σ H (given vs.length f v) :=
  el_lcW (J := Itk d od vs) f v walk_keys hn (fun H1 e1 R r => h H1 e1 _ fun H2 e2 => ⟨d, od, rfl, .inl ⟨vs, (e1.trans e2) _ _ hd, r H2 e2⟩⟩) (fun H1 e1 => e1 _ _ hd) fun i x H1 H2 hi e1 y => by
    obtain ⟨rfl, k, z, e, rfl⟩ := y
    exact ⟨Ex.refl _, _, fun _ q => q, hw _, ht i k z _ e1 e, he i k z _ e1 e⟩
theorem el_lcItems {vs' : List Nat} {j l : Nat} (f : Nat → Bool) (v : Nat → V) (h : Ev td σ H (.ref d)) (hd : H d = some (.frz od (.dK vs))) (hn : vs.length ≤ 40000) (hw : ∀ x y, wipe (((wipe σ vs').set j (some x)).set l (some y)) vs' = wipe σ vs')
    (ht : ∀ (i : Nat) (k : Key) (x : V) H1, Ex H H1 → vs[i]? = some (k, x) → EvT t (((wipe σ vs').set j (some (kV k))).set l (some x)) H1 (f i)) (he : ∀ (i : Nat) (k : Key) (x : V) H1, Ex H H1 → vs[i]? = some (k, x) → f i = true → Ev te (((wipe σ vs').set j (some (kV k))).set l (some x)) H1 (v i)) :
    EvL (tLc (iItems td) (gTup K 2 (gCons (gName j) (gCons (gName l) gNil))) t te vs') σ H (given vs.length f v) :=
  el_lcW (J := Iti d od vs) f v walk_items hn (fun H1 e1 R r => h H1 e1 _ fun H2 e2 => ⟨d, od, vs, rfl, (e1.trans e2) _ _ hd, r H2 e2⟩) (fun H1 e1 => e1 _ _ hd) fun i x H1 H2 hi e1 y => by
    obtain ⟨T, x1, x2, rfl, hT, rfl, c1, c2⟩ := y
    dsimp only at c1 c2
    rw [List.getElem?_eq_getElem hi] at c1 c2
    cases c1
    cases c2
    have ex : Ex H1 (upd H1 T (.tup [kV vs[i].1, vs[i].2])) := Ex.new hT
    exact ⟨ex, _, fun k q => two_go upd_same q, hw _ _, ht i _ _ _ (e1.trans ex) (List.getElem?_eq_getElem hi), he i _ _ _ (e1.trans ex) (List.getElem?_eq_getElem hi)⟩
end
end Wlk
set_option maxHeartbeats 4000000
/-! == of dicts whose values are texts, settings, or dicts of pairs. -/
namespace EqE
open PySem PySem.W PySem.Calls PyProof.Rows PySem.Spec L2 Evl Pd Chk EqD
/-- two values of which b tells whether they are equal -/
def OkVal (C : Addr) (x y : V) (b : Bool) (H : Hp) : Prop := (∃ s t : Str, x = .str s ∧ y = .str t ∧ b = (s == t)) ∨ (∃ g h, SetV C g x H ∧ SetV C h y H ∧ b = eqS g h) ∨
  ∃ (p q : Addr) (ks ls : List (List Key)), x = .ref p ∧ y = .ref q ∧ H p = some (.dT (trues ks)) ∧ H q = some (.dT (trues ls)) ∧ b = eqK ks ls
theorem eqK_self (ks : List (List Key)) : eqK ks ks = true := by
  unfold eqK
  rw [Bool.and_eq_true]
  exact ⟨by simp, List.all_eq_true.mpr fun k hk => List.any_eq_true.mpr ⟨k, hk, by simp⟩⟩
theorem eqS_self (g : Stg) : eqS g g = true := by simp [eqS, eqK_self]
theorem trues_inj {ks ls : List (List Key)} (h : trues ks = trues ls) : ks = ls := by
  have := congrArg (List.map (·.1)) h
  simpa [trues, List.map_map, Function.comp_def] using this
theorem setAt_inj {C : Addr} {g h : Stg} {a : Addr} {H : Hp} (h1 : SetAt C g a H) (h2 : SetAt C h a H) : g = h := by
  obtain ⟨dx, d, fs, p1, p2, p3, p4, p5, p6, p7, _⟩ := h1.ex
  obtain ⟨dy, e, gs, q1, q2, q3, q4, q5, q6, q7, _⟩ := h2.ex
  rw [p1] at q1
  cases q1
  rw [p3] at q3
  rw [p4] at q4
  rw [p5] at q5
  rw [p6] at q6
  rw [p7] at q7
  cases q6
  rw [p2] at q2
  have k : g.ks = h.ks := trues_inj (by injection q2 with z; injection z)
  cases g
  cases h
  simp only at *
  injection q3 with q3; injection q3 with q3
  injection q4 with q4; injection q4 with q4
  injection q5 with q5; injection q5 with q5
  injection q7 with q7; injection q7 with q7
  subst q3 q4 q5 q7 k
  rfl
section
variable {X : Cx} {C CB : Addr} {j : Nat}
theorem step_str {A : Around} {pins : List (Addr × Obj)} {σ : L2.St} {H : Hp} (s t : Str) : StepOk X A pins σ H (s == t) (.str s) (.str t) := fun s1 H1 v u Q e I rv ru q => by
  obtain ⟨t1, rfl⟩ := rv
  obtain ⟨t2, rfl⟩ := ru
  exact (SeqAt.EqAt.str_str s t1 t t2) X.prog X.w _ Q (q s1 H1 (Ex.refl _) I)
theorem eqBool_self {M : Model} {A : Around} {v : Value} {Q : Bool → Shared → Prop} {E : Value → Shared → Prop} {s : Shared} (h : Q true s) (hv : (v == v) = true) : wpAny M A (eqBool v v) Q E s := by
  unfold eqBool
  refine wpAny_holding (wpAny_ite_split (fun _ => wpAny_bind (wpAny_rule (wpAny_pure h))) fun n => absurd hv n)
theorem eqBool_refs {M : Model} {A : Around} {a b : Addr} {Q : Bool → Shared → Prop} {E : Value → Shared → Prop} {s : Shared} (ne : a ≠ b) (h : wpAny M A (richCompare .Eq (.ref a) (.ref b)) (fun v s' => ∃ r, v = .bool r ∧ Q r s') E s) : wpAny M A (eqBool (.ref a) (.ref b)) Q E s := by
  unfold eqBool
  refine wpAny_holding (wpAny_ite_split (fun hab => absurd (by have := eq_of_beq hab; injection this) ne) fun _ => ?_)
  refine wpAny_bind (wpAny_mono h (fun v s' hv => ?_) fun _ _ e => e)
  obtain ⟨r, rfl, hq⟩ := hv
  exact wpAny_truthy_bool hq
theorem step_dT {pins : List (Addr × Obj)} {σ : L2.St} {H : Hp} {p q : Addr} {ks ls : List (List Key)} (hu : X.A.units + 2 < cLine) (hp : H p = some (.dT (trues ks))) (hq : H q = some (.dT (trues ls))) : StepOk X X.A.in1 pins σ H (eqK ks ls) (.ref p) (.ref q) := fun s1 H1 v u Q e I rv ru k => by
  obtain rfl : v = Value.ref p := rv
  obtain rfl : u = Value.ref q := ru
  by_cases z : p = q
  · subst z
    rw [hp] at hq
    have : ks = ls := trues_inj (by injection hq with z; injection z)
    subst this
    have := k s1 H1 (Ex.refl _) I
    rw [eqK_self] at this
    exact eqBool_self this (by simp)
  · refine eqBool_refs z ?_
    obtain ⟨_, na, xs, ra, da⟩ := dt_of I.hok (e _ _ hp)
    obtain ⟨_, nb, ys, rb, db⟩ := dt_of I.hok (e _ _ hq)
    have ka : xs.map (·.1) = ks := (EqT.keys_of ra).symm.trans (by unfold trues; rw [List.map_map]; exact List.map_id' ks)
    have kb : ys.map (·.1) = ls := (EqT.keys_of rb).symm.trans (by unfold trues; rw [List.map_map]; exact List.map_id' ls)
    refine EqT.eq_dicts (A := X.A.in1) (knd := tupleKind (mixKind X.prog X.w)) na nb (show X.A.units + 1 < cLine by omega) (tupleKind_room_in1 (A := X.A.in1) (show X.A.units + 1 + 1 < cLine from hu)) da db (EqT.vals_true ra) (EqT.vals_true rb) ?_
    rw [EqT.allIn_keys, ka, kb, ← List.length_map (f := fun x => x.1) (as := xs), ← List.length_map (f := fun x => x.1) (as := ys), ka, kb]
    exact ⟨_, rfl, k s1 H1 (Ex.refl _) I⟩
theorem step_set {pins : List (Addr × Obj)} {σ : L2.St} {H : Hp} {x y : V} {g h : Stg} (S : SetC X.prog X.w X.K X.mg X.base C CB) (hr : Room j X.A) (hj : 2 ≤ j) (h1 : SetV C g x H) (h2 : SetV C h y H) : StepOk X X.A.in1 pins σ H (eqS g h) x y := fun s1 H1 v u Q e I rv ru k => by
  obtain ⟨a, rfl, at1⟩ := mo_set _ _ _ e h1
  obtain ⟨b, rfl, at2⟩ := mo_set _ _ _ e h2
  obtain rfl : v = Value.ref a := rv
  obtain rfl : u = Value.ref b := ru
  by_cases z : a = b
  · subst z
    have : g = h := setAt_inj at1 at2
    subst this
    have := k s1 H1 (Ex.refl _) I
    rw [eqS_self] at this
    exact eqBool_self this (by simp)
  · refine eqBool_refs z ?_
    obtain ⟨f, fd, T, hb, F⟩ := S.eq
    obtain ⟨dx, d, fs, ha, _⟩ := at1.ex
    obtain ⟨dy, d2, gs, hbb, _⟩ := at2.ex
    obtain ⟨tb, L, nf⟩ := OwnNe.look_beside I (show RelV (.ref b) (.ref b) from rfl) (.inl ⟨b, dy, gs, rfl, hbb⟩) S.nl
    obtain ⟨mA, J, _⟩ := ins_get I.hok ha
    obtain ⟨od, J, _⟩ := J.look
    obtain ⟨m, hF⟩ := I.fr
    have hu := hr.un
    refine PySem.W.cmp_K (op := .Eq) (A := X.A.in1) (tb := tb) (show X.A.units + 1 < cLine by omega) hF I.ok.mod.kin J L nf T.eq T.fn ?_
    have r2 : Vals [V.ref a, V.ref b] [Value.ref a, Value.ref b] := .cons rfl (.cons rfl .nil)
    have e0 : Env0 X.prog X.w X.K X.mg X.base X.A.in1 X.stack s1 H1 := by
      have e := I.env0
      exact ⟨e.frames, e.mod, e.bs, e.bsz, e.funs, e.frf, e.hok, e.bare⟩
    have hsp : spEqS C [.ref a, .ref b] H1 (fun v H' => Ex H1 H' ∧ v = .bl (eqS g h)) (fun _ _ _ => False) := ⟨rfl, a, g, .ref b, rfl, at1, .inl ⟨b, h, rfl, at2, fun H' e' => ⟨e', rfl⟩⟩⟩
    refine wpAny_call (codeAny_mono (F.run X.A.in1 X.stack s1 H1 ⟨[.ref a, .ref b], []⟩ [.ref a, .ref b] [.ref a, .ref b] _ _ ((hr.mono hj).in1) e0 (by
      have := hb s1 [.ref a, .ref b] I.kIn rfl
      simpa using this) r2 hsp) fun r s' hq => ?_)
    cases r with
    | error e => exact (show False from hq).elim
    | ok fl =>
      cases fl with
      | ret w =>
        obtain ⟨z, H', I', rz, e3, q1⟩ := I.after hq
        subst q1
        cases rz
        exact ⟨_, rfl, k s' H' e3 I'⟩
      | next => exact False.elim hq
      | brk => exact False.elim hq
      | cont => exact False.elim hq
theorem op_eqVal (S : SetC X.prog X.w X.K X.mg X.base C CB) (hr : Room j X.A) (hj : 2 ≤ j) : OpR X (compareOp .Eq) (rEqD (OkVal C)) :=
  op_eqD (by have := hr.un; omega) fun pins σ H x y b ok => by
    rcases ok H (Ex.refl _) with ⟨s, t, rfl, rfl, rfl⟩ | ⟨g, h, h1, h2, rfl⟩ | ⟨p, q, ks, ls, rfl, rfl, h1, h2, rfl⟩
    · exact step_str s t
    · exact step_set S hr hj h1 h2
    · exact step_dT (by have := hr.un; omega) h1 h2
end
end EqE
set_option maxHeartbeats 4000000
/-! What an end is made of: data, or a dict of keys with data or settings; what its checks say of it. -/
namespace Chk
open PySem PySem.Spec PyProof.Rows L2 Evl Pd Gd Us Wlk
/-- a dict of tuples with True -/
def DtV (ks : List (List Key)) : PV := fun x H => ∃ t, x = .ref t ∧ H t = some (.dT (trues ks))
theorem mo_dt {ks : List (List Key)} : Mo (DtV ks) := fun _ _ _ e ⟨t, h1, h2⟩ => ⟨t, h1, e _ _ h2⟩
theorem lk_dt {ks : List (List Key)} : Lk (DtV ks) := fun _ _ _ _ _ hd ⟨t, h1, h2⟩ => ⟨t, h1, at_lock hd h2 fun _ z => nomatch z⟩
theorem lk_qe {d : PyData} : Lk (Qe d) := fun _ _ _ _ _ hd h => Lw.dq_by (fun _ _ h => at_lock hd h fun _ z => nomatch z) (fun _ _ h => at_lock hd h fun _ z => nomatch z) h
abbrev sAreSettings : Stmt := Tp.s_are_settings
abbrev sAreUses : Stmt := Tp.s_are_uses
abbrev sArePairs : Stmt := Tp.s_are_pairs
abbrev sAreRules : Stmt := Tp.s_are_rules
abbrev sWrongEnd : Stmt := Tp.s_wrong_part_ends
abbrev sCheckDeed : Stmt := Tp.s_check_deed
inductive Itm where
  | d (d : PyData)
  | set (g : Stg)
  | dt (ks : List (List Key))
abbrev Its' := List (Key × Itm)
inductive Arg where
  | d (d : PyData)
  | dct (kvs : Its')
def ItmV (K : PySem.W.Frag) (C : Addr) : Itm → PV
  | .d d => Qe d
  | .set g => SetV C g
  | .dt ks => DtV ks
theorem mo_itm {K : PySem.W.Frag} {C : Addr} {t : Itm} : Mo (ItmV K C t) := by
  cases t with
  | d d => exact mo_qe
  | set g => exact mo_set
  | dt ks => exact mo_dt
theorem lk_set {C : Addr} {g : Stg} : Lk (SetV C g) := fun x H d kvs od hd ⟨a, ex, dx, e, fs, h1, h2, h3⟩ => ⟨a, ex, dx, e, fs, at_lock hd h1 (fun _ z => nomatch z), at_lock hd h2 (fun _ z => nomatch z), h3⟩
theorem lk_itm {K : PySem.W.Frag} {C : Addr} {t : Itm} : Lk (ItmV K C t) := by
  cases t with
  | d d => exact lk_qe
  | set g => exact lk_set
  | dt ks => exact lk_dt
/-- the i-th pair of the dict is the i-th of kvs -/
structure ItemsV (K : PySem.W.Frag) (C : Addr) (kvs : Its') (vs : List (Key × V)) (H : Hp) : Prop where
  len : vs.length = kvs.length
  at_ : ∀ (i : Nat) (k : Key) (t : Itm), kvs[i]? = some (k, t) → ∃ v, vs[i]? = some (k, v) ∧ ItmV K C t v H
section
variable {K : PySem.W.Frag} {C : Addr} {kvs : Its'} {vs : List (Key × V)} {H H' : Hp}
theorem ItemsV.up (h : ItemsV K C kvs vs H) (e : Ex H H') : ItemsV K C kvs vs H' := ⟨h.len, fun i k t hi => let ⟨v, h1, h2⟩ := h.at_ i k t hi; ⟨v, h1, mo_itm _ _ _ e h2⟩⟩
theorem ItemsV.lock {d : Addr} {ws : List (Key × V)} {od : Obj} (h : ItemsV K C kvs vs H) (hd : H d = some (.dK ws)) : ItemsV K C kvs vs (lk H d od ws) := ⟨h.len, fun i k t hi => let ⟨v, h1, h2⟩ := h.at_ i k t hi; ⟨v, h1, lk_itm _ _ _ _ _ hd h2⟩⟩
theorem ItemsV.from (h : ItemsV K C kvs vs H) {i : Nat} {k : Key} {v : V} (hi : vs[i]? = some (k, v)) : ∃ t, kvs[i]? = some (k, t) ∧ ItmV K C t v H := by
  have lt : i < kvs.length := by rw [← h.len]; exact (List.getElem?_eq_some_iff.mp hi).1
  obtain ⟨k2, t, e⟩ : ∃ k2 t, kvs[i] = (k2, t) := ⟨_, _, rfl⟩
  have e' : kvs[i]? = some (k2, t) := by rw [List.getElem?_eq_getElem lt, e]
  obtain ⟨v2, h1, h2⟩ := h.at_ i k2 t e'
  rw [hi] at h1
  cases h1
  exact ⟨t, e', h2⟩
theorem ItemsV.keys (h : ItemsV K C kvs vs H) : vs.map (·.1) = kvs.map (·.1) := by
  refine List.ext_getElem? fun i => ?_
  rw [List.getElem?_map, List.getElem?_map]
  cases e : kvs[i]? with
  | some p =>
    obtain ⟨v, h1, _⟩ := h.at_ i p.1 p.2 e
    rw [h1]
    rfl
  | none =>
    have : vs[i]? = none := by
      rw [List.getElem?_eq_none_iff] at e ⊢
      rw [h.len]
      exact e
    rw [this]
    rfl
/-- no key twice: what stands at a key -/
theorem valV_at {vs : List (Key × V)} (hn : (vs.map (·.1)).Nodup) : ∀ {i : Nat} {k : Key} {v : V}, vs[i]? = some (k, v) → valV vs k = some v := by
  induction vs with
  | nil => intro i k v h; simp at h
  | cons p r ih =>
    intro i k v h
    rw [List.map_cons, List.nodup_cons] at hn
    cases i with
    | zero => cases h; exact valV_pos rfl
    | succ i =>
      have m : k ∈ r.map (·.1) := List.mem_map.mpr ⟨(k, v), List.mem_of_getElem? h, rfl⟩
      rw [valV_neg (fun z => hn.1 (by rw [z]; exact m))]
      exact ih hn.2 h
end
/-- strict, or read under a lock -/
abbrev AtP := Hp → Addr → HO → Prop
abbrev Sr : AtP := fun H a u => H a = some u
def FewK : Key → Prop
  | .inl _ => True
  | .inr s => s.length ≤ 10000
/-- not too long -/
def SmallI : Itm → Prop
  | .d d => Few d ∧ Short d
  | _ => True
def Small (kvs : Its') : Prop := kvs.length ≤ 1000 ∧ (∀ p ∈ kvs, FewK p.1 ∧ SmallI p.2) ∧ (kvs.map (·.1)).Nodup
def DctV (at_ : AtP) (K : PySem.W.Frag) (C : Addr) (kvs : Its') : PV := fun x H => ∃ a vs, x = .ref a ∧ at_ H a (.dK vs) ∧ ItemsV K C kvs vs H
def ArgV (K : PySem.W.Frag) (C : Addr) : Arg → PV
  | .d d => fun x H => Qe d x H ∧ Few d ∧ Short d
  | .dct kvs => fun x H => DctV Sr K C kvs x H ∧ Small kvs
theorem mo_dct {K : PySem.W.Frag} {C : Addr} {kvs : Its'} : Mo (DctV Sr K C kvs) := fun _ _ _ e ⟨a, vs, h1, h2, h3⟩ => ⟨a, vs, h1, e _ _ h2, h3.up e⟩
theorem mo_arg {K : PySem.W.Frag} {C : Addr} {A : Arg} : Mo (ArgV K C A) := by
  cases A with
  | d d => exact fun _ _ _ e h => ⟨mo_qe _ _ _ e h.1, h.2⟩
  | dct kvs => exact fun _ _ _ e h => ⟨mo_dct _ _ _ e h.1, h.2⟩
def isDA : Arg → Bool
  | .d _ => false
  | .dct _ => true
def isSetI : Itm → Bool
  | .set _ => true
  | _ => false
def roomI : Itm → Bool
  | .set g => decide (g.kind = ("room" : Str))
  | _ => false
def isWordK : Key → Bool
  | .inl _ => false
  | .inr s => isWordS s
theorem dp_key {K : PySem.W.Frag} {H : Hp} (k : Key) : Dp K H (kV k) (keyD k) := by
  cases k with
  | inl i => exact .int i
  | inr s => exact .str s
theorem word_key (k : Key) : isWord (keyD k) = isWordK k := by cases k <;> rfl
theorem few_key {k : Key} (h : FewK k) : Few (keyD k) := by
  cases k with
  | inl i => exact fun s e => by cases e
  | inr s => exact fun t e => by cases e; exact h
def okItem (p : Key × Itm) : Bool := isWordK p.1 && isSetI p.2
def roomsOf (kvs : Its') : Nat := ((List.range kvs.length).filter fun i => (kvs[i]?).elim false fun p => roomI p.2).length
def okSets : Arg → Bool
  | .dct kvs => decide (kvs.length ≤ 2) && (kvs.all okItem && decide (roomsOf kvs ≤ 1))
  | .d _ => false
theorem okSets_dct (kvs : Its') : okSets (.dct kvs) = (decide (kvs.length ≤ 2) && (kvs.all okItem && decide (roomsOf kvs ≤ 1))) := rfl
structure Bd (mg : Str → Option Value) : Prop where
  dict : mg "dict" = none
  sorted : mg "sorted" = none
theorem boot_dict : bootBuiltins "dict" = some (.type "dict") := by decide +kernel
/-- no built-in value is one of these -/
structure NotB (K : PySem.W.Frag) (C : Addr) : Prop where
  non : PySem.W.kitOne K (.type "NoneType") (.ref C) = some false
  bl : PySem.W.kitOne K (.type "bool") (.ref C) = some false
  int : PySem.W.kitOne K (.type "int") (.ref C) = some false
  str : PySem.W.kitOne K (.type "str") (.ref C) = some false
  list : PySem.W.kitOne K (.type "list") (.ref C) = some false
  tuple : PySem.W.kitOne K (.type "tuple") (.ref C) = some false
  dict : PySem.W.kitOne K (.type "dict") (.ref C) = some false
theorem NotB.de {K : PySem.W.Frag} {C : Addr} (N : NotB K C) (d : PyData) : PySem.W.kitOne K (.type (tyD d)) (.ref C) = some false := by
  cases d with
  | none => exact N.non
  | bool _ => exact N.bl
  | int _ => exact N.int
  | str _ => exact N.str
  | list _ => exact N.list
  | tuple _ => exact N.tuple
  | dict _ => exact N.dict
section
variable {σ : L2.St} {H : Hp} {te ta td ty : TE} {K : PySem.W.Frag} {C : Addr} {A : Arg} {kvs : Its'} {vs : List (Key × V)} {P : PV}
theorem kit_dictN {x : V} {d : PyData} (h : Dp K H x d) : kitB (tyD d) "dict" = some false := by cases h <;> kernel_rfl
theorem kit_dict : kitB "dict" "dict" = some true := by kernel_rfl
/-- isinstance(x, dict) -/
theorem ev_isDA (h : EvP te σ H (ArgV K C A)) : Ev (tCB (rIsi K) (tCons te (tCons (tC (.ty "dict")) tNil))) σ H (.bl (isDA A)) := fun H1 e Q q =>
  h H1 e _ fun x H2 e2 p => by
    cases A with
    | d d => exact ⟨x, .ty "dict", _, .type "dict", false, rfl, .ty "dict", ty_de (dq_dp (K := K) p.1), kit_ty (kit_dictN (dq_dp (K := K) p.1)), q H2 e2⟩
    | dct kvs =>
      obtain ⟨⟨a, vs, rfl, ha, _⟩, _⟩ := p
      exact ⟨.ref a, .ty "dict", _, .type "dict", true, rfl, .ty "dict", .base (.dK ha), kit_ty kit_dict, q H2 e2⟩
/-- len of a dict -/
def rLenDK : List V → Hp → VK → Prop := fun xs H Q => ∃ a kvs, xs = [V.ref a] ∧ H a = some (.dK kvs) ∧ Q (.int kvs.length) H
theorem ev_lenDct (h : EvP te σ H (DctV Sr K C kvs)) : Ev (tCB rLenDK (tCons te tNil)) σ H (.int (kvs.length : Int)) := fun H1 e Q q =>
  h H1 e _ fun x H2 e2 ⟨a, vs, ex, ha, hi⟩ => ⟨a, vs, by rw [ex], ha, by rw [hi.len]; exact q H2 e2⟩
/-- isinstance(x, Setting) -/
theorem ev_isSet {t : Itm} (T : ClsS K C) (I : C8.InsC K C) (N : NotB K C) (h : EvP te σ H (ItmV K C t)) : Ev (tCB (rIsi K) (tCons te (tCons (tC (.ref C)) tNil))) σ H (.bl (isSetI t)) := fun H1 e Q q =>
  h H1 e _ fun x H2 e2 p => by
    cases t with
    | d d => exact ⟨x, .ref C, _, .ref C, false, rfl, .own C, ty_de (dq_dp p), N.de d, q H2 e2⟩
    | dt ks =>
      obtain ⟨a, rfl, ha⟩ := p
      exact ⟨.ref a, .ref C, _, .ref C, false, rfl, .own C, .base (.dT ha), N.dict, q H2 e2⟩
    | set g =>
      obtain ⟨a, rfl, at_⟩ := p
      obtain ⟨dx, _, fs, ha, _⟩ := at_.ex
      exact ⟨.ref a, .ref C, .ref C, .ref C, true, rfl, .own C, .base (.ins ha T.cl I.ha I.hn I.htk I.hm), I.me, q H2 e2⟩
theorem rd_get {a : Addr} {k : Key} {v : V} (h : Rd H a (.dK vs)) (e : valV vs k = some v) : DGet H a (kV k) (some v) := .inl ⟨vs, k, h, rfl, e.symm⟩
/-- d[k] -/
theorem p_dget {a : Addr} {k : Key} {v : V} (h1 : Ev td σ H (.ref a)) (h2 : Ev ty σ H (kV k)) (hr : Rd H a (.dK vs)) (e : valV vs k = some v) (hm : Mo P) (hp : P v H) : EvP (tDGet td ty) σ H P := fun H1 e1 Q q =>
  h1 H1 e1 _ fun H2 e2 => h2 H2 (e1.trans e2) _ fun H3 e3 => ⟨a, v, rfl, rd_get (ex_rd (e1.trans (e2.trans e3)) hr) e, q v H3 (e2.trans e3) (hm v H H3 (e1.trans (e2.trans e3)) hp)⟩
/-- k in d, k not in d -/
theorem ev_din {a : Addr} {k : Key} (h2 : Ev ty σ H (kV k)) (h1 : Ev td σ H (.ref a)) (hr : Rd H a (.dK vs)) : Ev (tDIn ty td) σ H (.bl (valV vs k).isSome) := fun H1 e1 Q q =>
  h2 H1 e1 _ fun H2 e2 => h1 H2 (e1.trans e2) _ fun H3 e3 => ⟨a, valV vs k, rfl, .inl ⟨vs, k, ex_rd (e1.trans (e2.trans e3)) hr, rfl, rfl⟩, q H3 (e2.trans e3)⟩
theorem ev_dnin {a : Addr} {k : Key} (h2 : Ev ty σ H (kV k)) (h1 : Ev td σ H (.ref a)) (hr : Rd H a (.dK vs)) : Ev (tDNotIn ty td) σ H (.bl (!(valV vs k).isSome)) := fun H1 e1 Q q =>
  h2 H1 e1 _ fun H2 e2 => h1 H2 (e1.trans e2) _ fun H3 e3 => ⟨a, valV vs k, rfl, .inl ⟨vs, k, ex_rd (e1.trans (e2.trans e3)) hr, rfl, rfl⟩, q H3 (e2.trans e3)⟩
end
def rSettings (K : PySem.W.Frag) (C : Addr) : List V → Hp → Bool → Prop := fun vs H b => ∃ x A, vs = [x] ∧ ArgV K C A x H ∧ b = okSets A
theorem scSettings : FnScope ["value", "word", "setting"] ["value"] (defScope sAreSettings) := ⟨rfl, rfl, rfl, by decide +kernel, rfl, by decide +kernel, by decide +kernel⟩
theorem str_dec (a b : Str) : decide (V.str a = V.str b) = decide (a = b) := by
  rw [Bool.eq_iff_iff, decide_eq_true_iff, decide_eq_true_iff]
  exact ⟨fun h => by injection h, fun h => by rw [h]⟩
theorem all_range {α : Type} (f : α → Bool) (l : List α) : l.all f = (List.range l.length).all fun i => (l[i]?).elim false f := by
  rw [Bool.eq_iff_iff]
  simp only [List.all_eq_true, List.mem_range]
  constructor
  · intro h i hi
    rw [List.getElem?_eq_getElem hi]
    exact h _ (List.getElem_mem hi)
  · intro h x hx
    obtain ⟨i, hi, rfl⟩ := List.getElem_of_mem hx
    have := h i hi
    rw [List.getElem?_eq_getElem hi] at this
    exact this
theorem all_take {α : Type} (f : α → Bool) (l : List α) {n : Nat} {x : α} (h : l[n]? = some x) : (l.take (n + 1)).all f = ((l.take n).all f && f x) := by
  have k1 := (List.getElem?_eq_some_iff.mp h).1
  have k2 := (List.getElem?_eq_some_iff.mp h).2
  rw [← List.take_append_getElem k1, k2, List.all_append]
  simp
theorem given_length (n : Nat) (f : Nat → Bool) (v : Nat → V) : (given n f v).length = ((List.range n).filter f).length := by
  unfold given
  rw [List.length_map]
section
variable {P : Program} {w : World} {K : PySem.W.Frag} {mg : Str → Option Value} {base : Heap} {C CB : Addr}
theorem ok_settings (D : Dn K mg "are_settings" sAreSettings) (B : Bc mg) (B2 : Bd mg) (S : SetC P w K mg base C CB) (I : C8.InsC K C) (N : NotB K C) (UW : Use P w K mg base 1 "is_word" ["value"] (spAsk K 1 (rWord K))) : Use P w K mg base 3 "are_settings" ["value"] (spAsk K 1 (rSettings K C)) := by
  refine use_of D scSettings (fun f fd F => F.binds (ps := ["value"]) fun _ _ _ _ _ _ us hl => match us, hl with | [_], _ => rfl) (fun vs H Q E h => h.1) (fun f cdv A outer s H vs Q E hr h => ?_)
  obtain ⟨_, b, ⟨x, Ar, rfl, hd, rfl⟩, q⟩ := h
  have hu : (A.deeper (envOfC "are_settings" (defScope sAreSettings) s.heap.objs.size f cdv)).units + 1 < cLine := by have := hr.un; omega
  have nd := scSettings.nd
  refine ⟨_, pss_cons (ps_if (PW.pt (pw_or (pt_not (pt_val (pe_isi (by rfl) B.isi (by rfl) B2.dict boot_dict (pv 0)))) (pw_or1 (pt_cmpR op_gt (pe_callB call_lenD (by rfl) B.len PySem.boot_len (pa_cons (pv 0) pa_nil)) pe_int (nomark _))))) (pss_one (ps_ret pe_bl)) pss_nil)
    (pss_cons (ps_lock (ps_for PassesOwn.never rfl (pi_items (pv 0)) (pg_tup rfl (pgs_cons (pg_name (i := 1) nd rfl (Or.inl rfl)) (pgs_cons (pg_name (i := 2) nd rfl (Or.inl rfl)) pgs_nil)))
      (pss_one (ps_if (PW.pt (pw_or (pt_not (pt_val (pe_use UW hr (by decide) (by rfl) (pa_cons (pv 1) pa_nil)))) (pw_or1 (pt_not (pt_val (pe_callB call_isi (by rfl) B.isi boot_isinstance (pa_cons (pv 2) (pa_cons (pe_gref (by rfl) S.mS) pa_nil)))))))) (pss_one (ps_ret pe_bl)) pss_nil))))
    (pss_one (ps_ret (pe_cmpR op_le (pe_callB call_len_seq (by rfl) B.len PySem.boot_len (pa_cons (pe_lock (pe_lc (own := [("word", 1)]) (g := gName 1) rfl nd (pi_keys (pv 0)) (blkOk_by (N := ["value", "word", "setting"]) (sc := defScope sAreSettings) (by decide +kernel))
      (fun _ _ _ _ _ => pg_name (i := 1) nd rfl (Or.inl rfl)) (fun _ _ _ _ _ => pts_one (pt_cmpR op_eq (pe_kindP S hr (by decide) (pe_dget hu (pv 0) (pv 1) (fun _ _ => rfl))) pe_str (nomark _))) (fun _ _ _ _ _ => pv 1))) pa_nil)) pe_int (nomark _))))), ?_⟩
  have hx : EvP (tVar 0) (L2.start ["value", "word", "setting"] [x]) H (ArgV K C Ar) := p_var rfl mo_arg hd
  cases Ar with
  | d d => exact q_when (b := true) (et_is (et_or (b := false) (et_not (et_B (ev_isDA hx))) (fun c => by cases c)) rfl) (fun _ H1 e1 => s_ret ev_c fun H2 e2 => q H2 (e1.trans e2)) (fun c => by cases c)
  | dct kvs =>
    obtain ⟨⟨a, vs, rfl, ha, hi⟩, sm⟩ := hd
    refine q_when (b := decide ((kvs.length : Int) > 2)) (et_is (et_or (a := !true) (et_not (et_B (ev_isDA hx))) fun _ => et_test (ev_op (ev_lenDct (hx.imp fun _ _ _ p => p.1)) ev_c rv_I0)) (by simp)) (fun c H1 e1 => ?_) fun c H1 e1 => ?_
    · refine s_ret ev_c fun H2 e2 => ?_
      have : okSets (.dct kvs) = false := by
        have c' : (kvs.length : Int) > 2 := of_decide_eq_true c
        rw [okSets_dct, decide_eq_false (show ¬ kvs.length ≤ 2 by omega), Bool.false_and]
      rw [← this]
      exact q H2 (e1.trans e2)
    · have two : kvs.length ≤ 2 := by
        have c' : ¬ (kvs.length : Int) > 2 := of_decide_eq_false c
        omega
      have ha1 := e1 _ _ ha
      refine q_lockItems (d := a) (vs := vs) (fun od => ev_var rfl) ha1 (fun od n σ' H' => (∃ k t, σ' = [some (.ref a), k, t]) ∧ Ex (lk H1 a od vs) H' ∧ (kvs.take n).all okItem = true) (fun od n σ' H' p => p.2.1 _ _ upd_same)
        (fun od H2 e2 => ⟨⟨_, _, rfl⟩, e2, rfl⟩) ?turn ?fin
      case turn =>
        rintro od n k v T σ' H' hvs ⟨⟨k0, t0, rfl⟩, ex, al⟩ hT
        refine two_go upd_same ?_
        have ex2 : Ex (lk H1 a od vs) (upd H' T (.tup [kV k, v])) := ex.trans (Ex.new hT)
        obtain ⟨t, hk, pv0⟩ := (((hi.up e1).lock (od := od) ha1).up ex2).from hvs
        have fk := (sm.2.1 (k, t) (List.mem_of_getElem? hk)).1
        refine s_when (b := !okItem (k, t)) (et_is (et_or (a := !isWordK k) (b := !isSetI t) (et_not (et_B (ev_ask (Ps := [De K (keyD k)]) rfl (ps_cons mo_de (p_var rfl mo_de (dp_key k)) ps_nil) fun xs H4 e4 ps => ?_))) fun _ => et_not (et_B (ev_isSet S.T I N (p_var rfl mo_itm pv0)))) (by unfold okItem; cases isWordK k <;> cases isSetI t <;> rfl)) (fun c H4 e4 => ?_) fun c H4 e4 => ?_
        · match xs, ps with
          | [y], ⟨py, _⟩ => exact ⟨y, keyD k, rfl, py, few_key fk, (word_key k).symm⟩
        · refine s_ret ev_c fun H5 e5 => ⟨(ex2.trans (e4.trans e5)) _ _ upd_same, ?_⟩
          have no : okSets (.dct kvs) = false := by
            have : kvs.all okItem = false := by
              rw [← Bool.not_eq_true]
              intro z
              have := (List.all_eq_true.mp z) (k, t) (List.mem_of_getElem? hk)
              rw [this] at c
              cases c
            rw [okSets_dct, this, Bool.false_and, Bool.and_false]
          rw [← no]
          exact q _ (e1.trans (EqD.ex_lock ha1 (ex2.trans (e4.trans e5))))
        · refine ⟨⟨_, _, rfl⟩, ex2.trans e4, ?_⟩
          rw [all_take okItem kvs hk, al]
          simpa using c
      case fin =>
        rintro od σ' H' ⟨⟨k0, t0, rfl⟩, ex, al⟩
        have e3 : Ex H1 (upd H' a (.dK vs)) := EqD.ex_lock ha1 ex
        have al' : kvs.all okItem = true := by
          rw [hi.len, List.take_length] at al
          exact al
        have nodup : (vs.map (·.1)).Nodup := by rw [hi.keys]; exact sm.2.2
        refine s_ret (ev_op (ev_lenN (el_lock (d := a) (u := .dK vs) upd_same trivial fun od2 => el_lcKeys (d := a) (vs := vs) (od := od2) (fun i => (kvs[i]?).elim false fun p => roomI p.2) (fun i => (kvs[i]?).elim .non fun p => kV p.1) (ev_var rfl) upd_same (by rw [hi.len]; omega) (fun _ => rfl) (fun i k z H4 e4 hz => ?_) fun i k z H4 e4 hz _ => ?_)) ev_c rv_I0) fun H4 e4 => ?_
        · obtain ⟨t, hk, pv0⟩ := (((hi.up (e1.trans e3)).lock (od := od2) upd_same).up e4).from hz
          have okt := (List.all_eq_true.mp al') (k, t) (List.mem_of_getElem? hk)
          rw [hk]
          cases t with
          | d _ =>
            unfold okItem at okt
            rw [Bool.and_eq_true] at okt
            cases okt.2
          | dt _ =>
            unfold okItem at okt
            rw [Bool.and_eq_true] at okt
            cases okt.2
          | set g => exact et_test (ev_is (ev_op (ev_prop (p_dget (vs := vs) (ev_var rfl) (ev_var rfl) (.inr ⟨od2, e4 _ _ upd_same⟩) (valV_at nodup hz) mo_set pv0) get_kind) ev_c (rv_eq rfl)) (congrArg V.bl (str_dec g.kind "room")))
        · obtain ⟨t, hk, _⟩ := (((hi.up (e1.trans e3)).lock (od := od2) upd_same).up e4).from hz
          rw [hk]
          exact ev_var rfl
        · have : okSets (.dct kvs) = decide (((given vs.length (fun i => (kvs[i]?).elim false fun p => roomI p.2) (fun i => (kvs[i]?).elim .non fun p => kV p.1)).length : Int) ≤ 1) := by
            rw [okSets_dct, decide_eq_true two, al', Bool.true_and, Bool.true_and, given_length, hi.len]
            unfold roomsOf
            rw [Bool.eq_iff_iff, decide_eq_true_iff, decide_eq_true_iff]
            omega
          rw [← this]
          exact q _ ((e1.trans e3).trans e4)
end
end Chk
set_option maxHeartbeats 4000000
namespace Chk
open PySem PySem.Spec PyProof.Rows L2 Evl Pd Gd Us Wlk
def usesT : List Str := ["heard", "answered"]
def deedsT : List Str := ["set", "back", "answer", "frame", "done"]
def dataI : Itm → PyData
  | .d d => d
  | _ => .none
/-- its items are data -/
def PlainA : Arg → Prop
  | .d _ => True
  | .dct kvs => ∀ p ∈ kvs, ∃ d, p.2 = .d d
def okUse (own : List Key) (p : Key × Itm) : Bool := isWordK p.1 && (!(own.any fun k => decide (k = p.1)) && inT usesT (dataI p.2))
def okUses (own : List Key) : Arg → Bool
  | .dct kvs => decide (kvs.length ≤ 2) && kvs.all (okUse own)
  | .d _ => false
theorem okUses_dct (own : List Key) (kvs : Its') : okUses own (.dct kvs) = (decide (kvs.length ≤ 2) && kvs.all (okUse own)) := rfl
def okPairs : PyData → Bool
  | .list ds => ds.all (isPair 0 3)
  | _ => false
def okRule (p : Key × Itm) : Bool := inT deedsT (keyD p.1) && okPairs (dataI p.2)
def okRules : Arg → Bool
  | .dct kvs => kvs.all okRule
  | .d _ => false
def KeysV (own : List Key) : PV := fun y H => ∃ a vs, y = .ref a ∧ Rd H a (.dK vs) ∧ vs.map (·.1) = own
theorem mo_keys {own : List Key} : Mo (KeysV own) := fun _ _ _ e ⟨a, vs, h1, h2, h3⟩ => ⟨a, vs, h1, ex_rd e h2, h3⟩
theorem lk_keys {own : List Key} : Lk (KeysV own) := fun _ _ _ _ _ hd ⟨a, vs, h1, h2, h3⟩ => ⟨a, vs, h1, rd_lock hd h2 (fun _ _ z => nomatch z), h3⟩
def rUses (K : PySem.W.Frag) (C : Addr) : List V → Hp → Bool → Prop := fun vs H b => ∃ x A y own, vs = [x, y] ∧ ArgV K C A x H ∧ PlainA A ∧ KeysV own y H ∧ b = okUses own A
def rPairs (K : PySem.W.Frag) : List V → Hp → Bool → Prop := fun vs H b => ∃ x d, vs = [x] ∧ Dp K H x d ∧ Short d ∧ b = okPairs d
def rRules (K : PySem.W.Frag) (C : Addr) : List V → Hp → Bool → Prop := fun vs H b => ∃ x A, vs = [x] ∧ ArgV K C A x H ∧ PlainA A ∧ b = okRules A
theorem scUses : FnScope ["value", "settings", "word", "use"] ["value", "settings"] (defScope sAreUses) := ⟨rfl, rfl, rfl, by decide +kernel, rfl, by decide +kernel, by decide +kernel⟩
theorem scPairs : FnScope ["value", "pair"] ["value"] (defScope sArePairs) := ⟨rfl, rfl, rfl, by decide +kernel, rfl, by decide +kernel, by decide +kernel⟩
theorem scRules : FnScope ["value", "deed", "pairs"] ["value"] (defScope sAreRules) := ⟨rfl, rfl, rfl, by decide +kernel, rfl, by decide +kernel, by decide +kernel⟩
theorem plain_at {kvs : Its'} {i : Nat} {k : Key} {t : Itm} (h : PlainA (.dct kvs)) (e : kvs[i]? = some (k, t)) : ∃ d, t = .d d := h (k, t) (List.mem_of_getElem? e)
/-- is_one_of(x, T), T a tuple of texts of the top -/
theorem ev_oneG {K : PySem.W.Frag} {σ : L2.St} {H : Hp} {te : TE} {d : PyData} {xs : List Str} {p : Addr} {E : XK} (hp : ∀ H, SqT K H p (xs.map V.str)) (h : EvP te σ H (De K d)) : Ev (tCall (spAsk K 2 (rOneOf K)) [] E (tCons te (tCons (tC (.ref p)) tNil))) σ H (.bl (inT xs d)) :=
  ev_ask (Ps := [De K d, Is (.ref p)]) rfl (ps_cons mo_de h (ps_cons mo_is p_c ps_nil)) fun zs H1 e1 ps => by
    match zs, ps with
    | [y, z], ⟨py, pz, _⟩ => exact ⟨y, d, p, xs.map V.str, by rw [show z = _ from pz], py, hp H1, by rw [List.all_map]; exact List.all_eq_true.mpr fun _ _ => rfl, (inT_of py).symm⟩
theorem ev_word {K : PySem.W.Frag} {σ : L2.St} {H : Hp} {te : TE} {k : Key} {E : XK} (h : Ev te σ H (kV k)) (fk : FewK k) : Ev (tCall (spAsk K 1 (rWord K)) [] E (tCons te tNil)) σ H (.bl (isWordK k)) :=
  ev_ask (Ps := [De K (keyD k)]) rfl (ps_cons mo_de (.of h mo_de (dp_key k)) ps_nil) fun zs H1 e1 ps => by
    match zs, ps with
    | [y], ⟨py, _⟩ => exact ⟨y, keyD k, rfl, py, few_key fk, (word_key k).symm⟩
theorem map_range_all {α : Type} (f : α → Bool) (l : List α) : ((List.range l.length).map fun i => ((l[i]?).elim false f)).all id = l.all f := by
  rw [all_range f l, List.all_map]
  rfl
section
variable {P : Program} {w : World} {K : PySem.W.Frag} {mg : Str → Option Value} {base : Heap} {C CB : Addr}
theorem ok_uses (D : Dn K mg "are_uses" sAreUses) (B : Bc mg) (B2 : Bd mg) (TU : TxG K mg "USES" usesT) (UW : Use P w K mg base 1 "is_word" ["value"] (spAsk K 1 (rWord K))) (UO : Use P w K mg base 1 "is_one_of" ["value", "texts"] (spAsk K 2 (rOneOf K))) : Use P w K mg base 2 "are_uses" ["value", "settings"] (spAsk K 2 (rUses K C)) := by
  refine use_of D scUses (fun f fd F => F.binds (ps := ["value", "settings"]) fun _ _ _ _ _ _ us hl => match us, hl with | [_, _], _ => rfl) (fun vs H Q E h => h.1) (fun f cdv A outer s H vs Q E hr h => ?_)
  obtain ⟨_, b, ⟨x, Ar, y, own, rfl, hd, pl, hy, rfl⟩, q⟩ := h
  have hu : (A.deeper (envOfC "are_uses" (defScope sAreUses) s.heap.objs.size f cdv)).units + 1 < cLine := by have := hr.un; omega
  have nd := scUses.nd
  obtain ⟨pU, mU, hU⟩ := TU
  refine ⟨_, pss_cons (ps_if (PW.pt (pw_or (pt_not (pt_val (pe_isi (by rfl) B.isi (by rfl) B2.dict boot_dict (pv 0)))) (pw_or1 (pt_cmpR op_gt (pe_callB call_lenD (by rfl) B.len PySem.boot_len (pa_cons (pv 0) pa_nil)) pe_int (nomark _))))) (pss_one (ps_ret pe_bl)) pss_nil)
    (pss_one (ps_ret (pe_callB (cr_all rfl) (by rfl) B.all (by decide +kernel) (pa_cons (pe_lock (pe_lc (own := [("word", 2), ("use", 3)]) (g := gTup K 2 (gCons (gName 2) (gCons (gName 3) gNil))) (tt := tYes) rfl nd (pi_items (pv 0)) (blkOk_by (N := ["value", "settings", "word", "use"]) (sc := defScope sAreUses) (by decide +kernel))
      (fun _ _ _ _ _ => pg_tup rfl (pgs_cons (pg_name (i := 2) nd rfl (Or.inl rfl)) (pgs_cons (pg_name (i := 3) nd rfl (Or.inl rfl)) pgs_nil))) (fun _ _ _ _ _ => pts_nil)
      (fun _ _ _ _ _ => pe_and (pe_use UW hr (by decide) (by rfl) (pa_cons (pv 2) pa_nil)) (pe_and (pe_cmp (pc_dnotin hu (pv 2) (pv 1)) (by rfl)) (pe_one (pe_use UO hr (by decide) (by rfl) (pa_cons (pv 3) (pa_cons (pe_gref (by rfl) mU) pa_nil)))))))) pa_nil)))), ?_⟩
  have hx : EvP (tVar 0) (L2.start ["value", "settings", "word", "use"] [x, y]) H (ArgV K C Ar) := p_var rfl mo_arg hd
  cases Ar with
  | d d => exact q_when (b := true) (et_is (et_or (b := false) (et_not (et_B (ev_isDA hx))) (fun c => by cases c)) rfl) (fun _ H1 e1 => s_ret ev_c fun H2 e2 => q H2 (e1.trans e2)) (fun c => by cases c)
  | dct kvs =>
    obtain ⟨⟨a, vs, rfl, ha, hi⟩, sm⟩ := hd
    refine q_when (b := decide ((kvs.length : Int) > 2)) (et_is (et_or (a := !true) (et_not (et_B (ev_isDA hx))) fun _ => et_test (ev_op (ev_lenDct (hx.imp fun _ _ _ p => p.1)) ev_c rv_I0)) (by simp)) (fun c H1 e1 => ?_) fun c H1 e1 => ?_
    · refine s_ret ev_c fun H2 e2 => ?_
      have : okUses own (.dct kvs) = false := by
        have c' : (kvs.length : Int) > 2 := of_decide_eq_true c
        rw [okUses_dct, decide_eq_false (show ¬ kvs.length ≤ 2 by omega), Bool.false_and]
      rw [← this]
      exact q H2 (e1.trans e2)
    · have two : kvs.length ≤ 2 := by
        have c' : ¬ (kvs.length : Int) > 2 := of_decide_eq_false c
        omega
      have ha1 := e1 _ _ ha
      obtain ⟨ay, ws, rfl, hw, ek⟩ := mo_keys _ _ _ e1 hy
      refine s_ret (ev_all (bs := (List.range kvs.length).map fun i => (kvs[i]?).elim false (okUse own)) ?_) fun H2 e2 => ?_
      · have key := el_lock (te := tLc (iItems (tVar 0)) (gTup K 2 (gCons (gName 2) (gCons (gName 3) gNil))) tYes (tAndV (tCall (spAsk K 1 (rWord K)) [] (fun _ _ _ => False) (tCons (tVar 2) tNil)) (tAndV (tDNotIn (tVar 2) (tVar 1)) (tCall (spAsk K 2 (rOneOf K)) [] (fun _ _ _ => False) (tCons (tVar 3) (tCons (tC (.ref pU)) tNil))))) [2, 3]) (σ := L2.start ["value", "settings", "word", "use"] [.ref a, .ref ay]) ha1 trivial fun od2 => el_lcItems (K := K) (d := a) (vs := vs) (od := od2) (fun _ => true) (fun i => V.bl ((kvs[i]?).elim false (okUse own))) (ev_var rfl) upd_same (by rw [hi.len]; omega) (fun _ _ => rfl) (fun i k z H4 e4 hz H5 _ Q5 q5 => q5 H5 (Ex.refl _)) fun i k z H4 e4 hz _ => ?_
        · intro H2 e2 Q' q'
          refine key H2 e2 Q' fun p H3 h1 h2 h3 => q' p H3 h1 h2 ?_
          rw [h3, given_map, List.map_map, hi.len]
          rfl
        · obtain ⟨t, hk, pv0⟩ := (((hi.up e1).lock (od := od2) ha1).up e4).from hz
          obtain ⟨d, rfl⟩ := plain_at pl hk
          have fk := (sm.2.1 _ (List.mem_of_getElem? hk)).1
          rw [hk]
          refine ev_is (ev_andV (a := isWordK k) (ev_word (ev_var rfl) fk) fun _ => ev_andV (ev_dnin (vs := ws) (ev_var rfl) (ev_var rfl) (ex_rd e4 (rd_lock ha1 hw (fun _ _ z => nomatch z)))) fun _ => ev_oneG hU (p_var rfl mo_de (dq_dp pv0))) ?_
          rw [← valV_any]
          have : (ws.any fun kv => decide (kv.1 = k)) = own.any fun j => decide (j = k) := by rw [← ek, List.any_map]; rfl
          rw [this]
          rfl
      · have : okUses own (.dct kvs) = (((List.range kvs.length).map fun i => (kvs[i]?).elim false (okUse own)).all id) := by
          rw [okUses_dct, decide_eq_true two, Bool.true_and, map_range_all]
        rw [← this]
        exact q H2 (e1.trans e2)
theorem ok_pairs (D : Dn K mg "are_pairs" sArePairs) (B : Bc mg) (TG : IntG mg "GREATEST" 3) (UP : Use P w K mg base 3 "is_pair" ["value", "low", "high"] (spAsk K 3 (rPair K))) : Use P w K mg base 4 "are_pairs" ["value"] (spAsk K 1 (rPairs K)) := by
  refine use_of D scPairs (fun f fd F => F.binds (ps := ["value"]) fun _ _ _ _ _ _ us hl => match us, hl with | [_], _ => rfl) (fun vs H Q E h => h.1) (fun f cdv A outer s H vs Q E hr h => ?_)
  obtain ⟨_, b, ⟨x, d, rfl, hd, hs, rfl⟩, q⟩ := h
  obtain ⟨u, mG, rG⟩ := TG
  have nd := scPairs.nd
  refine ⟨_, pss_one (ps_ret (pe_and (pe_isi (by rfl) B.isi (by rfl) B.list boot_list (pv 0)) (pe_one (pe_callB (cr_all rfl) (by rfl) B.all (by decide +kernel) (pa_cons (pe_lc (own := [("pair", 1)]) (g := gName 1) (tt := tYes) rfl nd (pi_list (pv 0)) (blkOk_by (N := ["value", "pair"]) (sc := defScope sArePairs) (by decide +kernel))
      (fun _ _ _ _ _ => pg_name (i := 1) nd rfl (Or.inl rfl)) (fun _ _ _ _ _ => pts_nil) (fun _ _ _ _ _ => pe_use UP hr (by decide) (by rfl) (pa_cons (pv 1) (pa_cons pe_int (pa_cons (pe_glob (by rfl) mG rG) pa_nil))))) pa_nil))))), ?_⟩
  have hx : EvP (tVar 0) (L2.start ["value", "pair"] [x]) H (De K d) := p_var rfl mo_de hd
  refine s_ret (ev_is (ev_andV (a := isL d) (b := okPairs d) (ev_isi (kit_list d) hx) fun c => ?_) (by cases d <;> rfl)) fun H1 e => q H1 e
  match d, hd, hs, c with
  | .list ds, .lst (a := a) (xs := xs) hS hD, hs, _ =>
    refine ev_is (ev_all (bs := (List.range ds.length).map fun i => (ds[i]?.elim false (isPair 0 3))) (fun H2 e2 Q' q' => el_lcL (K := K) (xs := xs) (a := a) (fun _ => true) (fun i => V.bl (ds[i]?.elim false (isPair 0 3))) (ev_var rfl) hS ?len (fun _ => rfl) ?tt ?te H2 e2 Q' ?fin)) (congrArg V.bl (range_all (isPair 0 3) ds))
    case len => have := hs ds rfl; rw [dpAll_len hD]; omega
    case tt => exact fun i y H3 e3 hy H4 e4 Q4 q4 => q4 H4 (Ex.refl _)
    case fin => intro p H3 h1 h2 h3; exact q' p H3 h1 h2 (by rw [h3, given_map, List.map_map, dpAll_len hD]; rfl)
    case te =>
      intro i y H3 e3 hy _
      obtain ⟨e, he, hy2⟩ := dpAll_at hD hy
      rw [he]
      exact ev_ask (Ps := [De K e, Is (.int 0), Is (.int 3)]) rfl (ps_cons mo_de (p_var rfl mo_de (dp_up e3 hy2)) (ps_cons mo_is p_c (ps_cons mo_is p_c ps_nil))) fun zs H4 e4 ps => by
        match zs, ps with
        | [y, z, u], ⟨py, pz, pu, _⟩ => exact ⟨y, e, 0, 3, by rw [show z = _ from pz, show u = _ from pu], py, rfl⟩
theorem ok_rules (D : Dn K mg "are_rules" sAreRules) (B : Bc mg) (B2 : Bd mg) (TD : TxG K mg "DEEDS" deedsT) (UO : Use P w K mg base 1 "is_one_of" ["value", "texts"] (spAsk K 2 (rOneOf K))) (UP : Use P w K mg base 4 "are_pairs" ["value"] (spAsk K 1 (rPairs K))) : Use P w K mg base 5 "are_rules" ["value"] (spAsk K 1 (rRules K C)) := by
  refine use_of D scRules (fun f fd F => F.binds (ps := ["value"]) fun _ _ _ _ _ _ us hl => match us, hl with | [_], _ => rfl) (fun vs H Q E h => h.1) (fun f cdv A outer s H vs Q E hr h => ?_)
  obtain ⟨_, b, ⟨x, Ar, rfl, hd, pl, rfl⟩, q⟩ := h
  have nd := scRules.nd
  obtain ⟨pU, mU, hU⟩ := TD
  refine ⟨_, pss_cons (ps_if (pt_not (pt_val (pe_isi (by rfl) B.isi (by rfl) B2.dict boot_dict (pv 0)))) (pss_one (ps_ret pe_bl)) pss_nil)
    (pss_one (ps_ret (pe_callB (cr_all rfl) (by rfl) B.all (by decide +kernel) (pa_cons (pe_lock (pe_lc (own := [("deed", 1), ("pairs", 2)]) (g := gTup K 2 (gCons (gName 1) (gCons (gName 2) gNil))) (tt := tYes) rfl nd (pi_items (pv 0)) (blkOk_by (N := ["value", "deed", "pairs"]) (sc := defScope sAreRules) (by decide +kernel))
      (fun _ _ _ _ _ => pg_tup rfl (pgs_cons (pg_name (i := 1) nd rfl (Or.inl rfl)) (pgs_cons (pg_name (i := 2) nd rfl (Or.inl rfl)) pgs_nil))) (fun _ _ _ _ _ => pts_nil)
      (fun _ _ _ _ _ => pe_and (pe_use UO hr (by decide) (by rfl) (pa_cons (pv 1) (pa_cons (pe_gref (by rfl) mU) pa_nil))) (pe_one (pe_use UP hr (by decide) (by rfl) (pa_cons (pv 2) pa_nil)))))) pa_nil)))), ?_⟩
  have hx : EvP (tVar 0) (L2.start ["value", "deed", "pairs"] [x]) H (ArgV K C Ar) := p_var rfl mo_arg hd
  refine q_when (et_not (et_B (ev_isDA hx))) (fun c H1 e1 => ?_) fun c H1 e1 => ?_
  · cases Ar with
    | d d => exact s_ret ev_c fun H2 e2 => q H2 (e1.trans e2)
    | dct kvs => cases c
  · cases Ar with
    | d d => cases c
    | dct kvs =>
      obtain ⟨⟨a, vs, rfl, ha, hi⟩, sm⟩ := hd
      have ha1 := e1 _ _ ha
      refine s_ret (ev_all (bs := (List.range kvs.length).map fun i => (kvs[i]?).elim false okRule) ?_) fun H2 e2 => ?_
      · have key := el_lock (te := tLc (iItems (tVar 0)) (gTup K 2 (gCons (gName 1) (gCons (gName 2) gNil))) tYes (tAndV (tCall (spAsk K 2 (rOneOf K)) [] (fun _ _ _ => False) (tCons (tVar 1) (tCons (tC (.ref pU)) tNil))) (tCall (spAsk K 1 (rPairs K)) [] (fun _ _ _ => False) (tCons (tVar 2) tNil))) [1, 2]) (σ := L2.start ["value", "deed", "pairs"] [.ref a]) ha1 trivial fun od2 => el_lcItems (K := K) (d := a) (vs := vs) (od := od2) (fun _ => true) (fun i => V.bl ((kvs[i]?).elim false okRule)) (ev_var rfl) upd_same (by rw [hi.len]; have := sm.1; omega) (fun _ _ => rfl) (fun i k z H4 e4 hz H5 _ Q5 q5 => q5 H5 (Ex.refl _)) fun i k z H4 e4 hz _ => ?_
        · intro H2 e2 Q' q'
          refine key H2 e2 Q' fun p H3 h1 h2 h3 => q' p H3 h1 h2 ?_
          rw [h3, given_map, List.map_map, hi.len]
          rfl
        · obtain ⟨t, hk, pv0⟩ := (((hi.up e1).lock (od := od2) ha1).up e4).from hz
          obtain ⟨d, rfl⟩ := plain_at pl hk
          have sd := (sm.2.1 _ (List.mem_of_getElem? hk)).2
          rw [hk]
          refine ev_andV (ev_oneG hU (.of (ev_var rfl) mo_de (dp_key k))) fun _ => ev_ask (Ps := [De K d]) rfl (ps_cons mo_de (p_var rfl mo_de (dq_dp pv0)) ps_nil) fun zs H5 e5 ps => ?_
          match zs, ps with
          | [y], ⟨py, _⟩ => exact ⟨y, d, rfl, py, sd.2, rfl⟩
      · have : okRules (.dct kvs) = (((List.range kvs.length).map fun i => (kvs[i]?).elim false okRule).all id) := by
          rw [map_range_all]
          rfl
        rw [← this]
        exact q H2 (e1.trans e2)
/-! ### the first part that is wrong -/
structure PtsE where
  settings : Arg
  uses : Arg
  rules : Arg
  most : PyData
def keysA : Arg → List Key
  | .dct kvs => kvs.map (·.1)
  | .d _ => []
def wrongE (p : PtsE) : Option Str :=
  if !okSets p.settings then some "settings" else if !okUses (keysA p.settings) p.uses then some "uses" else if !okRules p.rules then some "rules" else if !betw 1 3 p.most then some "most" else none
structure ArgsE (K : PySem.W.Frag) (C : Addr) (H : Hp) (a b c d : V) (p : PtsE) : Prop where
  settings : ArgV K C p.settings a H
  uses : ArgV K C p.uses b H
  rules : ArgV K C p.rules c H
  most : Dp K H d p.most
  plU : PlainA p.uses
  plR : PlainA p.rules
theorem ArgsE.up {K : PySem.W.Frag} {C : Addr} {H H' : Hp} {a b c d : V} {p : PtsE} (h : ArgsE K C H a b c d p) (e : Ex H H') : ArgsE K C H' a b c d p := ⟨mo_arg _ _ _ e h.settings, mo_arg _ _ _ e h.uses, mo_arg _ _ _ e h.rules, dp_up e h.most, h.plU, h.plR⟩
def spWrongE (K : PySem.W.Frag) (C : Addr) : Sp := fun vs H Q _ => vs.length = 4 ∧ ∃ a b c d p, vs = [a, b, c, d] ∧ ArgsE K C H a b c d p ∧ ∀ H', Ex H H' → Q (strV (wrongE p)) H'
theorem scWrongE : FnScope ["settings", "uses", "rules", "most"] ["settings", "uses", "rules", "most"] (defScope sWrongEnd) := ⟨rfl, rfl, rfl, by decide +kernel, rfl, by decide +kernel, by decide +kernel⟩
theorem ok_wrongE (D : DnY K mg "wrong_part_ends" "wrong_part" sWrongEnd) (B : Bc mg) (TG : IntG mg "GREATEST" 3) (US : Use P w K mg base 3 "are_settings" ["value"] (spAsk K 1 (rSettings K C))) (UU : Use P w K mg base 2 "are_uses" ["value", "settings"] (spAsk K 2 (rUses K C)))
    (UR : Use P w K mg base 5 "are_rules" ["value"] (spAsk K 1 (rRules K C))) (UB : Use P w K mg base 2 "is_between" ["value", "low", "high"] (spAsk K 3 (rBetween K))) : Use P w K mg base 6 "wrong_part_ends" ["settings", "uses", "rules", "most"] (spWrongE K C) := by
  refine useY_of D scWrongE (fun f fd F => F.binds (ps := ["settings", "uses", "rules", "most"]) fun _ _ _ _ _ _ us hl => match us, hl with | [_, _, _, _], _ => rfl) (fun vs H Q E h => h.1) (fun f cdv A outer s H vs Q E hr h => ?_)
  obtain ⟨_, a, b, c, d, p, rfl, hp, q⟩ := h
  obtain ⟨u, mG, rG⟩ := TG
  refine ⟨_, pss_cons (ps_if (pt_not (pt_val (pe_use US hr (by decide) (by rfl) (pa_cons (pv 0) pa_nil)))) (pss_one (ps_ret pe_str)) pss_nil)
    (pss_cons (ps_if (pt_not (pt_val (pe_use UU hr (by decide) (by rfl) (pa_cons (pv 1) (pa_cons (pv 0) pa_nil))))) (pss_one (ps_ret pe_str)) pss_nil)
    (pss_cons (ps_if (pt_not (pt_val (pe_use UR hr (by decide) (by rfl) (pa_cons (pv 2) pa_nil)))) (pss_one (ps_ret pe_str)) pss_nil)
    (pss_cons (ps_if (pt_not (pt_val (pe_use UB hr (by decide) (by rfl) (pa_cons (pv 3) (pa_cons pe_int (pa_cons (pe_glob (by rfl) mG rG) pa_nil)))))) (pss_one (ps_ret pe_str)) pss_nil)
    (pss_one (ps_ret pe_non))))), ?_⟩
  have ask1 : ∀ H1, Ex H H1 → EvP (tVar 0) (L2.start ["settings", "uses", "rules", "most"] [a, b, c, d]) H1 (ArgV K C p.settings) := fun H1 e1 => p_var rfl mo_arg (hp.up e1).settings
  unfold wrongE at q
  refine q_when (et_not (et_B (ev_ask (b := okSets p.settings) (Ps := [ArgV K C p.settings]) rfl (ps_cons mo_arg (ask1 H (Ex.refl _)) ps_nil) fun zs H1 e1 ps => ?_))) (fun k H1 e1 => ?_) fun k H1 e1 => ?_
  · match zs, ps with
    | [y], ⟨py, _⟩ => exact ⟨y, p.settings, rfl, py, rfl⟩
  · rw [if_pos k] at q
    exact s_ret ev_c fun H2 e2 => q H2 (e1.trans e2)
  rw [if_neg (by rw [k]; decide)] at q
  refine q_when (et_not (et_B (ev_ask (b := okUses (keysA p.settings) p.uses) (Ps := [ArgV K C p.uses, ArgV K C p.settings]) rfl (ps_cons mo_arg (p_var rfl mo_arg (hp.up e1).uses) (ps_cons mo_arg (ask1 H1 e1) ps_nil)) fun zs H2 e2 ps => ?_))) (fun k2 H2 e2 => ?_) fun k2 H2 e2 => ?_
  · match zs, ps with
    | [y, z], ⟨py, pz, _⟩ =>
      refine ⟨y, p.uses, z, keysA p.settings, rfl, py, hp.plU, ?_, rfl⟩
      cases e : p.settings with
      | d d => rw [e] at k; cases k
      | dct kvs =>
        rw [e] at pz
        obtain ⟨⟨az, vs, ez, hz, hi⟩, _⟩ := pz
        exact ⟨az, vs, ez, .inl hz, hi.keys⟩
  · rw [if_pos k2] at q
    exact s_ret ev_c fun H3 e3 => q H3 (e1.trans (e2.trans e3))
  rw [if_neg (by rw [k2]; decide)] at q
  have e02 := e1.trans e2
  refine q_when (et_not (et_B (ev_ask (b := okRules p.rules) (Ps := [ArgV K C p.rules]) rfl (ps_cons mo_arg (p_var rfl mo_arg (hp.up e02).rules) ps_nil) fun zs H3 e3 ps => ?_))) (fun k3 H3 e3 => ?_) fun k3 H3 e3 => ?_
  · match zs, ps with
    | [y], ⟨py, _⟩ => exact ⟨y, p.rules, rfl, py, hp.plR, rfl⟩
  · rw [if_pos k3] at q
    exact s_ret ev_c fun H4 e4 => q H4 (e02.trans (e3.trans e4))
  rw [if_neg (by rw [k3]; decide)] at q
  have e03 := e02.trans e3
  refine q_when (et_not (et_B (ev_ask (b := betw 1 3 p.most) (Ps := [De K p.most, Is (.int 1), Is (.int 3)]) rfl (ps_cons mo_de (p_var rfl mo_de (hp.up e03).most) (ps_cons mo_is p_c (ps_cons mo_is p_c ps_nil))) fun zs H4 e4 ps => ?_))) (fun k4 H4 e4 => ?_) fun k4 H4 e4 => ?_
  · match zs, ps with
    | [y, z, u], ⟨py, pz, pu, _⟩ => exact ⟨y, p.most, 1, 3, by rw [show z = _ from pz, show u = _ from pu], py, rfl⟩
  · rw [if_pos k4] at q
    exact s_ret ev_c fun H5 e5 => q H5 (e03.trans (e4.trans e5))
  rw [if_neg (by rw [k4]; decide)] at q
  exact s_ret ev_c fun H5 e5 => q H5 (e03.trans (e4.trans e5))
end
end Chk
set_option maxHeartbeats 4000000
/-! sorted(xs, key=lambda x: str(x)) -/
namespace LamK
open PySem PySem.Spec PyProof.Rows L2 Evl Pd Gd Chk LamX
section
variable {X : Cx} {pins : List (Addr × Obj)} {σ : L2.St} {H : Hp} {s : Shared}
/-- the lambda is called: str(v) in a frame of its own -/
theorem lam_str {A : Around} {E : Value → Shared → Prop} {f c' : Addr} {q x : Str} {params : Arguments} {scope : Scope} {cl : List (Str × Addr)} {pm ctv v : Value} {p1 p2 p3 : Pos} {t : Str} {h : Heap} {tk : Nat}
    (I : Inv X pins σ H s) (kp : ∀ b o, s.heap.get? b = some o → h.get? b = some o) (bt : X.mg "str" = none) (hA : A.depth < recursionLimit)
    (hf : s.heap.get? f = some (PySem.W.kla_obj "<lambda>" q params (.Call (.Name "str" p1) [.Name x p2] [] p3) scope cl pm c' ctv)) (hc : H c' = some (CodeO c' q))
    (hk : scope.kind = .function) (hco : scope.isCoroutine = false) (hgen : scope.isGenerator = false) (hx : scope.names.lookup x = some .local) (hs : scope.names.lookup ("str" : Str) = some .globalImplicit) (hcell : ∀ y ∈ scope.names, y.2 ≠ .cell) (hxd : (x == ("__debug__" : Str)) = false)
    (hbind : bindArgs (PySem.W.kla_fn "<lambda>" q params (.Call (.Name "str" p1) [.Name x p2] [] p3) scope cl pm (.ref c') ctv) ⟨[v], []⟩ = pure [(x, v)])
    (go : ∀ (A' : Around) (E' : Value → Shared → Prop) (h1 : Heap) (tk1 : Nat) (Q : Value → Shared → Prop), A'.guards = A.guards → A'.units ≤ A.units + 3 → (∀ b o, s.heap.get? b = some o → h1.get? b = some o) →
      (∀ h2 u tk2, (∀ b o, h1.get? b = some o → h2.get? b = some o) → Q (.str t u) { s with heap := h2, toks := tk2 }) → wpAny (model X.prog X.w) A' (call (.type "str") [v]) Q E' { s with heap := h1, toks := tk1 }) :
    wpAny (model X.prog X.w) A (call (.ref f) [v]) (PySem.W.KeyPure (.str t) { s with heap := h, toks := tk }) E { s with heap := h, toks := tk } := by
  obtain ⟨⟨oc, vs, tq, hoc, hdc, hvc⟩, _, _⟩ := I.hok c' _ hc
  obtain ⟨mb, n1, n2⟩ := I.mod.blt
  have gk : ∀ {b o}, X.base.get? b = some o → h.get? b = some o := fun e => kp _ _ (I.bk _ _ e)
  refine wpAny_call (PySem.W.kla_callFunE hA (kp _ _ hf) rfl hco hgen rfl ⟨c', oc, vs, tq, rfl, kp _ _ hoc, hdc, hvc⟩ ?_)
  rw [hbind]
  have lim : h.NoLimit := I.nolimit.keeps kp
  refine wpAny_pure (wpAny_newFunctionEnv hcell (fun y hy => by
    rcases List.mem_singleton.mp hy with rfl
    exact hx) (fun h₁ hns hsb => ⟨lim.fresh _ hsb, ?_⟩) hk)
  have kp1 : ∀ b o, h.get? b = some o → h₁.get? b = some o := fun b o e => hsb.extBut b o (Nat.ne_of_lt (Heap.lt_size e)) (Heap.get?_push_of_some _ e)
  refine PySem.W.kla_codeExpr ?_
  refine wpAny_Call_Name_kw (Calls.Name_function_global hk hs (Calls.loadGlobal_builtin (mg := X.mg) (I.mod.glob.keeps fun b o e => kp1 _ _ (gk e)) bt (mb := mb) (n1.keeps fun b o e => kp1 _ _ (gk e)) ((n2 "str" (by decide)).trans Chk.boot_str) ?_))
  refine PyProof.Rows.callWith_type1 ?_ (by rfl) (by rfl)
  show wpAny _ _ (spliced ((false, eval (.Name x p2) _) :: [])) _ _ _
  refine Calls.spliced_cons (wpAny_Name (wpAny_loadName_local (v := v) hk hx hns (by simp [List.lookup]) ?_) hxd)
  refine Calls.spliced_nil ?_
  refine go _ _ h₁ _ _ ?g1 ?g2 (fun b o e => kp1 _ _ (kp _ _ e)) fun h2 u tk2 k2 => ?_
  case g1 => rfl
  case g2 => exact Nat.le_refl _
  exact ⟨h2, tk2, rfl, fun b o e => k2 _ _ (kp1 _ _ e), .str _ _⟩
end
theorem dqAll_ext {H H' : Hp} (e : ExtN H H') {xs : List V} {ds : List PyData} (h : DqAll H xs ds) : DqAll H' xs ds := Lw.dqAll_by (fun _ _ h => e _ _ h fun _ z => nomatch z) (fun _ _ h => e _ _ h fun _ z => nomatch z) h
/-- the reading -/
def RSrt (T : List (Addr × Str)) (y : V) (H1 : Hp) (Q : VK) : Prop := ∃ a xs ds, y = .ref a ∧ H1 a = some (.lst xs) ∧ DqAll H1 xs ds ∧ xs.length ≤ 100000 ∧ (∀ d ∈ ds, Showy d) ∧ Tabs T H1 ∧
  ∀ H2, ExtN H1 H2 → Tabs T H2 → ∀ r, H2 r = none → Q (.ref r) (upd H2 r (.lst ((bySt (xs.zip ds)).map (·.1))))
def tSrt (T : List (Addr × Str)) (te : TE) : TE := fun σ H Q => te σ H fun x H1 => ∃ y, [x] = [y] ∧ RSrt T y H1 Q
section
variable {X : Cx}
theorem pe_sortLam {T : List (Addr × Str)} {c P : Addr} {params : Arguments} {scope : Scope} {x : Str} {e : Expr} {te : TE} {p p1 p2 p3 lpos kpos pos : Pos} (hgd : X.A.guards = some []) (hu : X.A.units + 64 < cLine) (hA : X.A.depth + 3 < recursionLimit) (TB : TabB X.base X.mg c P) (hcode : X.env.code = .ref c)
    (hmT : (P, X.env.qual ++ "<lambda>") ∈ T) (huT : ∀ p ∈ T, p.1 = P → p.2 = X.env.qual ++ "<lambda>") (hg : Gl X "sorted") (bs : X.mg "sorted" = none) (bt : X.mg "str" = none) (he : PE X e te) (hdef : defaultsOf params X.env = ([], []))
    (hk : scope.kind = .function) (hco : scope.isCoroutine = false) (hgen : scope.isGenerator = false) (hx : scope.names.lookup x = some .local) (hs : scope.names.lookup ("str" : Str) = some .globalImplicit) (hcell : ∀ y ∈ scope.names, y.2 ≠ .cell) (hfree : ∀ y ∈ scope.names, y.2 ≠ .free) (hxd : (x == ("__debug__" : Str)) = false)
    (hbind : ∀ (q : Str) (cl : List (Str × Addr)) (pm cv ctv v : Value), bindArgs (PySem.W.kla_fn "<lambda>" q params (.Call (.Name "str" p1) [.Name x p2] [] p3) scope cl pm cv ctv) ⟨[v], []⟩ = pure [(x, v)])
    (hs1 : starEach [e] X.env = (false, eval e X.env) :: starEach [] X.env := by rfl) (hb1 : backTo pos (starEach [e] X.env) = (false, eval e X.env) :: backTo pos (starEach [] X.env) := by rfl) (hpl : (backTo pos (starEach [e] X.env)).any (·.1) = false := by rfl) :
    PE X (.Call (.Name "sorted" p) [e] [⟨some "key", .Lambda params (.Call (.Name "str" p1) [.Name x p2] [] p3) scope lpos, kpos⟩] pos) (tSrt T te) := by
  refine ⟨fun pins s σ H Q I h0 => ?_⟩
  refine wpAny_Call_Name_kw (ld_blt I hg bs (by decide +kernel : bootBuiltins "sorted" = some (.builtin "sorted")) ?_)
  have pa : PA X [e] (tCons te tNil) := pa_cons (hs := hs1) he pa_nil
  have pq : tCons te tNil σ H (fun vs H1 => ∃ y, vs = [y] ∧ RSrt T y H1 Q) := h0
  refine PyProof.Rows.callWith_kw (thn (pa.run pos pins s σ H _ I pq) fun us s1 ⟨vs, H1, I1, r1, y, ev, a, xs, ds, ey, ha, hd, hl, hsh, hT, q⟩ => ?_) hb1 hpl (by rfl) (by rfl)
  subst ev ey
  cases r1 with
  | cons ra rn =>
    cases rn
    cases ra
    show wpAny _ _ (evalAll ((do let v ← eval (.Lambda params (.Call (.Name "str" p1) [.Name x p2] [] p3) scope lpos) X.env; standAt pos; pure v) :: [])) _ _ s1
    refine wpAny_evalAll_cons (wpAny_bind (lam_make2 I1 TB hcode hmT huT hT hdef (fun y hy z => absurd z (hfree y hy)) fun f c' pm ctv H2 s2 I2 eN T2 hf hfn hfr hc => ?_))
    refine wpAny_bind (wpAny_standAt (wpAny_pure (wpAny_evalAll_nil ?_)))
    have hS : SqL X.K H2 a xs := sq_of (eN _ _ ha fun _ z => nomatch z)
    have hd2 := dqAll_ext eN hd
    obtain ⟨its, rv, pl, hl2⟩ := I2.list hS
    have ln : (xs.zip ds).length = xs.length := by rw [List.length_zip, dqAll_len hd2, Nat.min_self]
    show wpAny _ _ (call (.builtin "sorted") [.ref a] [(Str.ofString "key", .ref f)]) _ _ _
    have each := each_of (dqAll_dp (K := X.K) hd2) rv
    refine PySem.W.sorted_key_data (b := false) (fun b : V × PyData => PyData.str (txt b.2)) pl.isList each (PySem.W.AllAlike.of fun _ _ => by simp [PySem.W.alike]) (PySem.W.Sortable.others fun _ => ⟨(fun z => nomatch z), fun _ z => nomatch z⟩) (by rw [ln]; exact hl2)
      (fun b _ => by have e : (PyData.str (txt b.2)).depth = 0 := by simp [PyData.depth]
                     rw [e]; omega) (ksk_s1 _ _) (fun _ => ksk_l1 _ _) (fun _ => rfl) (fun v b hb hm h tk kp => ?_) fun out cc h' tk kp hn hD hl3 eo => ?_
    · obtain ⟨y, d⟩ := b
      obtain ⟨rb, hb⟩ := hb
      have hsd := hsh d (List.of_mem_zip hm).2
      obtain ⟨as, rd⟩ := Dp.reads I2 d y v hb rb
      refine lam_str I2 kp bt (by show X.A.depth < recursionLimit; omega) hf hc hk hco hgen hx hs hcell hxd (hbind _ _ _ _ _ _) fun A' E' h1 tk1 Q' eg eu k1 fin => ?_
      rcases hsd with ⟨t, rfl⟩ | ⟨⟨es, rfl⟩, z1, z2, z3, z4⟩
      · cases rd
        exact PySem.P.str_of_str (fin h1 _ tk1 fun _ _ z => z)
      · cases rd with
        | tuple g1 g2 g3 g4 =>
          refine str_of_reads (.tuple g1 g2 g3 g4) z1 (PyData.noDict_hsm z2) (eg.trans hgd) (by have eu' : A'.units ≤ X.A.units + 1 + 1 + 3 := eu; omega) k1 (fun h2 u tk2 k2 => fin h2 u tk2 k2) z4
    · have vo := vals_of eo
      have lo : ((bySt (xs.zip ds)).map (·.1)).length ≤ sizeLine := by
        unfold bySt
        rw [List.length_map, List.length_mergeSort, ln]
        exact hl2
      have ok : ObjOk X.prog X.w (upd H2 (s2.heap.objs.size + 1) (.lst ((bySt (xs.zip ds)).map (·.1)))) h' (s2.heap.objs.size + 1) (.lst ((bySt (xs.zip ds)).map (·.1))) := ⟨lo, out, cc, vo, hD⟩
      exact ⟨.ref (s2.heap.objs.size + 1), _, I2.laid (t' := tk) kp (Nat.le_succ _) ok, rfl, q _ eN T2 _ (I2.hok.fresh (Nat.le_succ _))⟩
end
end LamK
set_option maxHeartbeats 4000000
namespace Gd
open PySem PySem.Spec PyProof.Rows L2 Evl Pd
/-- a def whose code object is at c -/
structure FunC (K : PySem.W.Frag) (x qual : Str) (st : Stmt) (f : Addr) (fd : FuncData) (c : Addr) : Prop where
  ex : ∃ (oc : Value) (od : Option Addr) (kV doc pm : Value) (an : Option Addr) (ct : Value) (osl : Array (Option Value)), fd = PySem.W.fnOf x qual (defArgs st) (defBody st) (defScope st) .none kV doc pm an (.ref c) ct ∧
    K.lookup f = some ⟨oc, od, .func (PySem.W.fnOf x qual (defArgs st) (defBody st) (defScope st) .none kV doc pm an (.ref c) ct), osl⟩ ∧ PySem.W.codeIn K (.ref c) qual = true
section
variable {P : Program} {w : World} {K : PySem.W.Frag} {mg : Str → Option Value} {base : Heap} {k : Nat} {f c : Addr} {fd : FuncData} {ps : List Str} {sp : Sp}
theorem okGC {x qual : Str} {st : Stmt} {N : List Str} (F : FunC K x qual st f fd c) (S : FnScope N ps (defScope st)) (len : ∀ vs H Q E, sp vs H Q E → vs.length = ps.length)
    (body : ∀ (A : Around) (outer : List Env) (s : Shared) (H : Hp) (vs : List V) (Q : VK) (E : XK), Room k (A.deeper (envOfC qual (defScope st) s.heap.objs.size f (.ref c))) → (A.deeper (envOfC qual (defScope st) s.heap.objs.size f (.ref c))).guards = some [] → sp vs H Q E →
      ∃ t, PSs (cxOf CX0 P w K mg base N qual (defScope st) f (.ref c) A outer s H E).nox (defBody st) t ∧ t { nx := fun _ H' => Q .non H', rt := Q } (start N vs) H) : FnG P w K mg base CX0 (k + 1) f fd ps sp := by
  obtain ⟨oc, od, kV, doc, pm, an, ct, osl, rfl, lk, hcd⟩ := F.ex
  refine ⟨len, fun A outer s H args us vs Q E hr hg e0 hb r hsp => ?_⟩
  have nl := len _ _ _ _ hsp
  have inK : K.In s.heap := e0.mod.kin.keeps fun b o e => (e0.bs b o e).1
  have bounded : s.heap.NoLimit := e0.mod.nolimit.keeps fun b o e => (e0.bs b o e).1
  refine codeAny_call_function hr.depth (inK _ _ lk) rfl S.co S.gen rfl (PySem.W.codeRec_of inK hcd) (hb _ _ _ _ (wpAny_newFunctionEnv_cells S.kind (fun ⟨n, v⟩ hy => (S.par n (List.of_mem_zip hy).1).imp id fun q => ⟨q, PySem.W.cellsFrom_some _ _ _ (.inl q)⟩) fun env he s1 x => ?_))
  subst he
  refine ⟨bounded.keeps x.toInCall.keep, codeAny_func ?_⟩
  obtain ⟨t, ht, hq⟩ := body A outer s H vs Q E (hr.deeper _) hg hsp
  have I : Inv (cxOf CX0 P w K mg base N qual (defScope st) f (.ref c) A outer s H E) [] (start N vs) H s1 := inv_start S hr.hd e0 nl r x
  refine wpAny_mono (ht.nox.run [] s1 (start N vs) H _ I hq) (fun fl s' hs => ?_) fun e s' hs => hs
  cases fl with
  | ret u =>
    obtain ⟨v, σ', H', J, rv, q⟩ := hs
    exact ⟨v, H', J.os, J.bare, J.base, J.hok, rv, q⟩
  | next =>
    obtain ⟨σ', H', J, q⟩ := hs
    exact ⟨V.non, H', J.os, J.bare, J.base, J.hok, rfl, q⟩
  | brk =>
    obtain ⟨_, _, _, q⟩ := hs
    exact False.elim q
  | cont =>
    obtain ⟨_, _, _, q⟩ := hs
    exact False.elim q
end
end Gd
namespace Lw
open PySem PySem.Spec PyProof.Rows L2 Evl Pd Gd Us Chk LamX LamK
abbrev sSorted : Stmt := Tp.s__law_sorted
abbrev TabT := List (Addr × Str)
def spSrt (T : TabT) : Sp := fun vs H Q _ => vs.length = 1 ∧ ∃ x ds, vs = [x] ∧ Dq H x (.list ds) ∧ (∀ d ∈ ds, Showy d) ∧ Tabs T H ∧ ∀ y H', ExtN H H' → Tabs T H' → Dq H' y (.list (sortD ds)) → Q y H'
theorem scSorted : FnScope ["some"] ["some"] (defScope sSorted) := ⟨rfl, rfl, rfl, by decide +kernel, rfl, by decide +kernel, by decide +kernel⟩
section
variable {P : Program} {w : World} {K : PySem.W.Frag} {mg : Str → Option Value} {base : Heap} {f c tb : Addr} {fd : FuncData} {T : TabT}
theorem ok_sorted (F : FunC K "_law_sorted" "_law_sorted" sSorted f fd c) (TB : TabB base mg c tb) (hmT : (tb, ("_law_sorted.<locals>.<lambda>" : Str)) ∈ T) (huT : ∀ p ∈ T, p.1 = tb → p.2 = ("_law_sorted.<locals>.<lambda>" : Str)) (bs : mg "sorted" = none) (bt : mg "str" = none) : FnG P w K mg base CX0 1 f fd ["some"] (spSrt T) := by
  refine okGC F scSorted (fun vs H Q E h => h.1) (fun A outer s H vs Q E hr hg h => ?_)
  obtain ⟨_, x, ds, rfl, hx, hs, hT, q⟩ := h
  have hu : (A.deeper (envOfC "_law_sorted" (defScope sSorted) s.heap.objs.size f (.ref c))).units + 64 < cLine := by have := hr.un; omega
  have hd : (A.deeper (envOfC "_law_sorted" (defScope sSorted) s.heap.objs.size f (.ref c))).depth + 3 < recursionLimit := by have := hr.dp; omega
  have qn : ∀ (E : XK), (cxOf CX0 P w K mg base ["some"] "_law_sorted" (defScope sSorted) f (.ref c) A outer s H E).nox.env.qual ++ "<lambda>" = ("_law_sorted.<locals>.<lambda>" : Str) := fun _ => by kernel_rfl
  refine ⟨_, pss_one (ps_ret (pe_sortLam (T := T) (c := c) (P := tb) hg hu hd TB rfl (by rw [qn]; exact hmT) (by rw [qn]; exact huT) (by rfl) bs bt (pv 0) rfl rfl rfl rfl (by rfl) (by rfl) (by decide) (by decide) (by decide) (fun _ _ _ _ _ _ => rfl))), ?_⟩
  cases hx with
  | @lst a xs _ z hl hD =>
    refine ⟨.ref a, rfl, .ref a, rfl, a, xs, ds, rfl, hl, hD, z, hs, hT, fun H2 e2 T2 r hr2 => ?_⟩
    have e3 : Ex H2 (upd H2 r (.lst ((bySt (xs.zip ds)).map (·.1)))) := Ex.new hr2
    refine q (.ref r) _ (e2.trans (ExtN.of e3)) (T2.ext e3) (.lst ?_ upd_same (dqAll_up e3 (dq_sorted (dqAll_ext e2 hD))))
    rw [List.length_map]
    unfold bySt
    rw [List.length_mergeSort, List.length_zip, dqAll_len hD, Nat.min_self, ← dqAll_len hD]
    exact z
end
end Lw
set_option maxHeartbeats 4000000
/-! try with several except clauses, each with a name or without. -/
namespace TryAs
open PySem PySem.Spec PyProof.Rows L2
/-- a clause: its class, the slot of its name, its suite -/
structure Cl where
  cls : Value
  slot : Option Nat
  ts : Addr → Value → Option Addr → TS
/-- the ends of a suite whose name is let go behind it -/
def less (i : Nat) (D : Ends) : Ends := { nx := fun σ H => D.nx (σ.set i none) H, rt := D.rt, bk := fun σ H => D.bk (σ.set i none) H, ct := fun σ H => D.ct (σ.set i none) H }
def runs (c : Cl) (a : Addr) (k : Value) (d : Option Addr) (D : Ends) (σ : L2.St) (H : Hp) : Prop := match c.slot with
  | none => c.ts a k d D σ H
  | some i => c.ts a k d (less i D) (σ.set i (some (.ref a))) H
/-- what the clauses wish of what flies, one after the other -/
def wish (K : PySem.W.Frag) (Wout : WX) (D : Ends) : List Cl → WX
  | [] => Wout
  | c :: r => fun k d σ H => ∃ b, PySem.W.exmOne K k c.cls = some b ∧ (b = true → ∀ a, H a = none → runs c a k d D σ H) ∧ (b = false → wish K Wout D r k d σ H)
inductive Cls (X : Cx) : List ExceptHandler → List Cl → Prop
  | nil : Cls X [] []
  | bare {x : Str} {c : Value} {ts : Addr → Value → Option Addr → TS} {st : Stmt} {suite : List Stmt} {p1 p2 : Pos} {hds : List ExceptHandler} {l : List Cl} (hc : Names X x c)
      (su : ∀ (a : Addr) (o : Obj) (k : Value) (d : Option Addr) (pn : List (Addr × Obj)), Zc k d o → (∃ vs, o.data = .fields vs) → PSs (X.suite a ((a, o) :: pn)) (st :: suite) (ts a k d)) (r : Cls X hds l) :
      Cls X (.ExceptHandler (some (.Name x p1)) none (st :: suite) p2 :: hds) (⟨c, none, ts⟩ :: l)
  | named {x n : Str} {i : Nat} {c : Value} {ts : Addr → Value → Option Addr → TS} {st : Stmt} {suite : List Stmt} {p1 p2 : Pos} {hds : List ExceptHandler} {l : List Cl} (hi : X.N[i]? = some n) (hl : X.env.kindOf n = some .local) (hc : Names X x c)
      (su : ∀ (a : Addr) (o : Obj) (k : Value) (d : Option Addr) (pn : List (Addr × Obj)), Zc k d o → (∃ vs, o.data = .fields vs) → PSs (X.suite a ((a, o) :: pn)) (st :: suite) (ts a k d)) (r : Cls X hds l) :
      Cls X (.ExceptHandler (some (.Name x p1)) (some n) (st :: suite) p2 :: hds) (⟨c, some i, ts⟩ :: l)
section
variable {X : Cx} {body : List Stmt} {h₀ : ExceptHandler} {hds : List ExceptHandler} {l : List Cl} {pos : Pos} {tb : WX → TS} {Wout : WX}
/-- what is known of the thing that flies, seen from the def that may catch it -/
structure Sees (X : Cx) (pins : List (Addr × Obj)) (σ : L2.St) (H : Hp) (B : Heap) (a : Addr) (k : Value) (d : Option Addr) (s : Shared) : Prop where
  inv : ∃ sI, Inv X pins σ H sI ∧ (∀ b o, sI.heap.get? b = some o → b ∉ frs X.stack → B.get? b = some o) ∧ sI.heap.UpToSlots s.heap ∧ s.os = sI.os ∧ AllBare s.gens
  fly : HandSPX.FlyingZ B (X.env :: X.outer) a (Zc k d) s.heap
  free : H a = none
theorem Sees.here {pins : List (Addr × Obj)} {σ : L2.St} {H : Hp} {B : Heap} {a : Addr} {k : Value} {d : Option Addr} {s : Shared} (v : Sees X pins σ H B a k d s) : Inv X pins σ H s := by
  obtain ⟨sI, J, nb, up, os, ag⟩ := v.inv
  exact J.landed nb v.fly.1 up os ag
theorem Sees.moved {pins : List (Addr × Obj)} {σ : L2.St} {H : Hp} {B : Heap} {a : Addr} {k : Value} {d : Option Addr} {s : Shared} (v : Sees X pins σ H B a k d s) {h' : Heap} (fl : HandSPX.FlyingZ B (X.env :: X.outer) a (Zc k d) h') (u : s.heap.UpToSlots h') :
    Sees X pins σ H B a k d { s with heap := h' } := by
  obtain ⟨sI, J, nb, up, os, ag⟩ := v.inv
  exact ⟨⟨sI, J, nb, up.trans u, os, ag⟩, fl, v.free⟩
theorem Sees.obj {pins : List (Addr × Obj)} {σ : L2.St} {H : Hp} {B : Heap} {a : Addr} {k : Value} {d : Option Addr} {s : Shared} (v : Sees X pins σ H B a k d s) (hf : X.env.frame = some X.env.locals) :
    ∃ o vs, s.heap.get? a = some o ∧ Zc k d o ∧ o.data = .fields vs ∧ Inv (X.suite a ((a, o) :: (X.pn ++ pins))) [] σ H s := by
  obtain ⟨o, vs, ho, hz, hd⟩ := v.fly.there
  have frames : s.heap.FunFrames B (X.env :: X.outer) := v.fly.2.2.1
  have out : a ∉ frs (X.env :: X.outer) := fun m => by
    obtain ⟨_, o', e', nd⟩ := frames.mem m
    rw [ho] at e'
    cases e'
    exact nd _ hd
  have n1 : a ≠ X.env.locals := fun z => out (List.mem_filterMap.mpr ⟨X.env, List.mem_cons_self, by rw [hf, z]⟩)
  have n2 : a ∉ X.fs := fun m => by
    obtain ⟨e, he, q⟩ := List.mem_filterMap.mp m
    exact out (List.mem_filterMap.mpr ⟨e, List.mem_cons_of_mem _ he, q⟩)
  exact ⟨o, vs, ho, hz, hd, v.here.suite ho hd v.free n1 n2⟩
/-- the clause's class, as the suite's context sees it -/
theorem sees_name {pins : List (Addr × Obj)} {σ : L2.St} {H : Hp} {a : Addr} {c : Value} {o : Obj} {s : Shared} {x : Str} {p1 : Pos} {Q E : Value → Shared → Prop} (S : Inv (X.suite a ((a, o) :: (X.pn ++ pins))) [] σ H s) (hc : Names X x c) (q : Q c s) :
    wpAny (model X.prog X.w) (X.A.mark (some (.ref a))) (eval (.Name x p1) X.env) Q E s := by
  obtain ⟨g, nd, m | ⟨m, bv, nn⟩⟩ := hc
  · exact ld_glob (X := X.suite a ((a, o) :: (X.pn ++ pins))) S g m q nd
  · exact ld_blt (X := X.suite a ((a, o) :: (X.pn ++ pins))) S g m bv q nn nd
theorem handled (stk : X.stack = X.env :: X.outer) (fr : X.env.frame = some X.env.locals) (nd : X.N.Nodup) (tk : Takes X Wout) {D : Ends} {pins : List (Addr × Obj)} {σ : L2.St} {H : Hp} {B : Heap} {a : Addr} {k : Value} {d : Option Addr} :
    ∀ {hds : List ExceptHandler} {l : List Cl}, Cls X hds l → ∀ {s : Shared}, Sees X pins σ H B a k d s → wish X.K Wout D l k d σ H → wpAny (model X.prog X.w) X.A (handleBy (.ref a) X.env hds) (SP X pins D) X.xe s := by
  intro hds l hk
  induction hk with
  | nil =>
    intro s v w
    refine wpAny_handleBy_nil ?_
    obtain ⟨_, _, _, o, vs, t, ot, _, ho, _, hd, h1, _⟩ := id v.fly
    unfold PySem.passOn
    refine wpAny_bind (wpAny_field ho hd h1 ?_)
    rw [if_neg (show ¬ ((Value.ref t == Value.none) = true) from by simp)]
    have away : wpAny (model X.prog X.w) X.A (setFlight (.ref a) X.env.frame) (fun _ s4 => wpAny (model X.prog X.w) X.A (throw (.ref a) : Sem Flow) (SP X pins D) X.xe s4) X.xe s := by
      rw [fr]
      obtain ⟨sI, J, nb, up, os, ag⟩ := v.inv
      refine HandSPX.setFlight_upZ v.fly fun h4 q4 u4 => wpAny_throw (tk _ _ ?_)
      exact ⟨a, B, sI, pins, σ, H, k, d, rfl, J, nb, up.trans u4, .inr (.inr (by rw [stk]; exact q4)), v.free, os, ag, w⟩
    first
      | exact wpAny_bind (wpAny_pure (wpAny_bind away))
      | exact wpAny_bind away
  | @bare x c ts st suite p1 p2 rest l2 hc su r ih =>
    intro s v w
    obtain ⟨b, e1, yes, no⟩ := w
    obtain ⟨o, vs, ho, hz, hd, S⟩ := v.obj fr
    refine wpAny_handleBy_cons (codeAny_handlers_test ?_) (by intro q; cases q)
    have lt : PySem.W.Looks (model X.prog X.w) s.heap (typeOf (.ref a)) k := fun A Q E s' kk q => wpAny_typeOf_ref (kk _ _ ho) (by rw [hz.1]; exact q)
    refine sees_name S hc ((PySem.W.exm_one (M := model X.prog X.w) v.here.kIn lt e1).here ?_)
    cases b with
    | false =>
      show wpAny _ X.A (handleBy (.ref a) X.env rest) _ _ _
      exact ih v (no rfl)
    | true =>
      refine codeAny_handlers_suite (HandSPX.lands_againZ v.fly fun h4 f4 u4 => ?_)
      have v4 := v.moved f4 u4
      obtain ⟨o4, vs4, ho4, hz4, hd4, S4⟩ := v4.obj fr
      have ok := v.here.ok
      refine wpAny_mono ((su a o4 k d (X.pn ++ pins) hz4 ⟨_, hd4⟩).run [] _ _ H _ S4 (yes rfl a v.free)) (fun f s6 hsp => ?_) (fun _ _ z => False.elim z)
      cases f with
      | ret u =>
        obtain ⟨v6, σ6, H6, S6, r6, q6⟩ := hsp
        exact ⟨_, _, _, S6.unsuite ok, r6, q6⟩
      | next | brk | cont =>
        obtain ⟨σ6, H6, S6, q6⟩ := hsp
        exact ⟨_, _, S6.unsuite ok, q6⟩
  | @named x n i c ts st suite p1 p2 rest l2 hi hl hc su r ih =>
    intro s v w
    obtain ⟨b, e1, yes, no⟩ := w
    obtain ⟨o, vs, ho, hz, hd, S⟩ := v.obj fr
    refine wpAny_handleBy_cons (codeAny_handlers_test ?_) (by intro q; cases q)
    have lt : PySem.W.Looks (model X.prog X.w) s.heap (typeOf (.ref a)) k := fun A Q E s' kk q => wpAny_typeOf_ref (kk _ _ ho) (by rw [hz.1]; exact q)
    refine sees_name S hc ((PySem.W.exm_one (M := model X.prog X.w) v.here.kIn lt e1).here ?_)
    cases b with
    | false =>
      show wpAny _ X.A (handleBy (.ref a) X.env rest) _ _ _
      exact ih v (no rfl)
    | true =>
      refine codeAny_handlers_suite_as (HandSPX.lands_againZ v.fly fun h4 f4 u4 => ?_)
      have v4 := v.moved f4 u4
      obtain ⟨o4, vs4, ho4, hz4, hd4, S4⟩ := v4.obj fr
      have ok := v.here.ok
      refine store_ok (X := X.suite a ((a, o4) :: (X.pn ++ pins))) (v := .ref a) S4 nd hi (.inl hl) rfl (fun s5 S5 => ?_) (.inr hl)
      refine wpAny_mono ((su a o4 k d (X.pn ++ pins) hz4 ⟨_, hd4⟩).run [] s5 _ H _ S5 (yes rfl a v.free)) (fun f s6 hsp => ?_) (fun _ _ z => False.elim z)
      have gone : ∀ {σ6 : L2.St} {H6 : Hp} {Q : Shared → Prop}, Inv (X.suite a ((a, o4) :: (X.pn ++ pins))) [] σ6 H6 s6 → (∀ s7, Inv X pins (σ6.set i none) H6 s7 → Q s7) →
          wpAny (model X.prog X.w) X.A (do bindName X.env n .none; unbindBehindTheSuite X.env n p2) (fun _ s7 => Q s7) X.xe s6 := fun {σ6 H6 Q} S6 q => gone_ok (S6.unsuite ok) nd hi hl q
      cases f with
      | ret u =>
        obtain ⟨v6, σ6, H6, S6, r6, q6⟩ := hsp
        exact gone S6 fun s7 J7 => ⟨_, _, _, J7, r6, q6⟩
      | next | brk | cont =>
        obtain ⟨σ6, H6, S6, q6⟩ := hsp
        exact gone S6 fun s7 J7 => ⟨_, _, J7, q6⟩
/-- try: body / except X as n: .. / except Y: .. -/
theorem ps_try_clauses (stk : X.stack = X.env :: X.outer) (fr : X.env.frame = some X.env.locals) (nd : X.N.Nodup) (tk : Takes X Wout)
    (hb : ∀ (W : WX) (pn : List (Addr × Obj)) (xe : Value → Shared → Prop), Takes (X.tr pn xe) W → PassesOwn (model X.prog X.w) X.A X.env xe → PSs (X.tr pn xe) body (tb W))
    (hh : Cls X (h₀ :: hds) l) : PS X (.Try body (h₀ :: hds) [] [] pos) (fun D σ H => tb (wish X.K Wout D l) D σ H) := by
  refine ⟨fun pins s σ H D I h => ?_⟩
  have ok := I.ok
  have frames : X.A.frames = some (X.env :: X.outer) := by rw [ok.frames, stk]
  refine wpAny_Try_except (wpAny_mono ((hb (wish X.K Wout D l) (X.pn ++ pins) (fun e s₁ => wpAny (model X.prog X.w) X.A (noteFrame e X.env) (fun _ s₂ => wpAny (model X.prog X.w) X.A (setFlight e none) (fun _ s₃ =>
    wpAny (model X.prog X.w) X.A (handleBy e X.env (h₀ :: hds)) (SP X pins D) X.xe s₃) X.xe s₂) X.xe s₁) (fun u s' xx => ?_) PassesOwn.looking).run [] s σ H D (I.toTry _) h) (fun f s1 hsp => ?_) (fun e s1 he => he))
  · obtain ⟨a, B, sI, pins', σ', H', k, d, rfl, J', nb, up, sky, na, os, ag, w⟩ := xx
    have J : Inv X pins σ' H' sI := J'.ofTry ok
    have sky' : Sky B (X.env :: X.outer) a (Zc k d) X.env.locals s'.heap := by rw [← stk]; exact sky
    show wpAny (model X.prog X.w) X.A (noteFrame (.ref a) X.env) _ _ _
    refine Sky.land Zc.steady frames fr sky' fun h3 f3 u3 => ?_
    exact handled stk fr nd tk hh ⟨⟨sI, J, nb, up.trans u3, os, ag⟩, f3, na⟩ w
  · cases f with
    | next =>
      obtain ⟨σ', H', J', q⟩ := hsp
      exact wpAny_execs_nil ⟨σ', H', J'.ofTry ok, q⟩
    | ret u =>
      obtain ⟨v, σ', H', J', r, q⟩ := hsp
      exact ⟨v, σ', H', J'.ofTry ok, r, q⟩
    | brk | cont =>
      obtain ⟨σ', H', J', q⟩ := hsp
      exact ⟨σ', H', J'.ofTry ok, q⟩
end
end TryAs
set_option maxHeartbeats 1000000
/-! Data, lists, comprehensions: what later laws share. -/
namespace Lw
open PySem PySem.Spec PyProof.Rows L2 Evl Pd Gd Us Chk LamX LamK
theorem toDe {K : PySem.W.Frag} {σ : L2.St} {H : Hp} {te : TE} {d : PyData} (h : EvP te σ H (Qe d)) : EvP te σ H (De K d) := h.imp fun _ _ _ p => dq_dp p
theorem p_ixQ {K : PySem.W.Frag} {σ : L2.St} {H : Hp} {te ti : TE} {ds : List PyData} {d : PyData} {i : Nat} (h : EvP te σ H (Qe (.list ds))) (hi : Ev ti σ H (.int (i : Int))) (e : ds[i]? = some d) : EvP (tOp (rIxL K) te ti) σ H (Qe d) := fun H1 a Q q =>
  h H1 a _ fun x H2 e1 p => hi H2 (a.trans e1) _ fun H3 e2 => by
    cases p with
    | lst z hl hD =>
      obtain ⟨y, h1, h2⟩ := dqAll_get hD e
      exact ⟨_, _, _, y, rfl, rfl, sq_of (e2 _ _ hl), Chk.atI_nat h1, q y H3 (e1.trans e2) (dq_up e2 h2)⟩
theorem dq_ext {H H' : Hp} (e : ExtN H H') {x : V} {d : PyData} (h : Dq H x d) : Dq H' x d := dq_by (fun _ _ h => e _ _ h fun _ z => nomatch z) (fun _ _ h => e _ _ h fun _ z => nomatch z) h
theorem dqAll_app {H : Hp} : ∀ {xs ys : List V} {as bs : List PyData}, DqAll H xs as → DqAll H ys bs → DqAll H (xs ++ ys) (as ++ bs)
  | _, _, _, _, .nil, h => h
  | _, _, _, _, .cons a t, h => .cons a (dqAll_app t h)
theorem cat_val {K : PySem.W.Frag} {H : Hp} {x y : V} {as bs : List PyData} {Q : VK} (p1 : Dq H x (.list as)) (p2 : Dq H y (.list bs)) (hz : as.length + bs.length ≤ 100000) (q : ∀ z H', Ex H H' → Dq H' z (.list (as ++ bs)) → Q z H') : rCat x y H Q := by
  cases p1 with
  | @lst a1 xs _ z1 hl1 d1 =>
    cases p2 with
    | @lst a2 ys _ z2 hl2 d2 =>
      have ln : (xs ++ ys).length = as.length + bs.length := by rw [List.length_append, dqAll_len d1, dqAll_len d2]
      exact ⟨a1, a2, xs, ys, rfl, rfl, hl1, hl2, by rw [dqAll_len d1, dqAll_len d2]; exact sz_of hz, fun p hp => q (.ref p) _ (Ex.new hp) (.lst (by rw [ln]; exact hz) upd_same (dqAll_up (Ex.new hp) (dqAll_app d1 d2)))⟩
section
variable {K : PySem.W.Frag} {σ : L2.St} {H : Hp} {te ta tb : TE} {tr : TA} {d e : PyData} {ds : List PyData} {l : Addr} {o : HO}
theorem q_cat {as bs : List PyData} (h1 : EvP ta σ H (Qe (.list as))) (h2 : EvP tb σ H (Qe (.list bs))) (hz : as.length + bs.length ≤ 100000) : EvP (tOp rCat ta tb) σ H (Qe (.list (as ++ bs))) := fun H1 a Q q =>
  h1 H1 a _ fun x H2 e p1 => h2 H2 (a.trans e) _ fun y H3 e2 p2 => by
    have p1 := mo_qe _ _ _ e2 p1
    cases p1 with
    | @lst a1 xs _ z1 hl1 d1 =>
      cases p2 with
      | @lst a2 ys _ z2 hl2 d2 =>
        have ln : (xs ++ ys).length = as.length + bs.length := by rw [List.length_append, dqAll_len d1, dqAll_len d2]
        refine ⟨a1, a2, xs, ys, rfl, rfl, hl1, hl2, by rw [dqAll_len d1, dqAll_len d2]; exact sz_of hz, fun p hp => q (.ref p) _ (e.trans (e2.trans (Ex.new hp))) (.lst (by rw [ln]; exact hz) upd_same (dqAll_up (Ex.new hp) ?_))⟩
        exact dqAll_app d1 d2
end
theorem q_asgRaw {σ : L2.St} {H : Hp} {D : Ends} {tz : TS} {tr : TA} {Ps : List PV} {i : Nat} (h : EvPs tr σ H Ps) (sz : Ps.length ≤ 100000) (k : ∀ xs H1, Ex H H1 → AllP Ps xs H1 → ∀ l, H1 l = none → tz D (σ.set i (some (.ref l))) (upd H1 l (.lst xs))) : tSeq (tAsg (tLst tr) (gName i)) tz D σ H :=
  h H (Ex.refl H) _ fun xs H1 e ps => ⟨by rw [ps.len]; exact sz_of sz, fun l hl => k xs H1 e ps l hl⟩
theorem allP_at : ∀ {Ps : List PV} {xs : List V} {H : Hp} {i : Nat} {x : V}, AllP Ps xs H → xs[i]? = some x → ∃ P ∈ Ps, P x H
  | [], [], _, _, _, _, e => by simp at e
  | [], _ :: _, _, _, _, h, _ => h.elim
  | _ :: _, [], _, _, _, h, _ => h.elim
  | P :: Ps, x :: xs, H, 0, y, h, e => by
    cases (show some x = some y from e)
    exact ⟨P, List.mem_cons_self, h.1⟩
  | P :: Ps, x :: xs, H, i + 1, y, h, e => by
    obtain ⟨R, h1, h2⟩ := allP_at h.2 (show xs[i]? = some y from e)
    exact ⟨R, List.mem_cons_of_mem _ h1, h2⟩
section
variable {K : PySem.W.Frag} {σ : L2.St} {H : Hp} {tl te : TE} {tt : TT} {j : Nat} {vs : List Nat}
/-- [.. for x in xs if ..] where no x passes -/
theorem p_lcNone {Ps : List PV} (hm : ∀ P ∈ Ps, Mo P) (h : EvP tl σ H (Lst Ps)) (hw : ∀ x, wipe ((wipe σ vs).set j (some x)) vs = wipe σ vs)
    (ht : ∀ P ∈ Ps, ∀ x H1, Ex H H1 → P x H1 → EvT tt ((wipe σ vs).set j (some x)) H1 false) : EvP (tLc (iList K tl) (gName j) tt te vs) σ H (LstV []) := fun H1 e Q q =>
  h H1 e _ fun x H2 e2 ⟨l, xs, ex, hl, ps⟩ => by
    subst ex
    refine ⟨l, rfl, ⟨xs, sq_of hl⟩, fun D hn => ?_⟩
    refine lc_list (xs := xs) (fun i H3 => Ex H2 H3 ∧ H3 D = some (.lst [])) ⟨Ex.new hn, upd_same⟩ (fun i H3 _ p => sq_of (p.1 _ _ hl)) (fun i x H3 hx p => ?_) fun H3 p => q (.ref D) H3 (e2.trans p.1) ⟨D, rfl, p.2⟩
    obtain ⟨e3, hD⟩ := p
    obtain ⟨P, hP, px⟩ := allP_at ps hx
    refine ⟨hw x, ht P hP x H3 (e.trans (e2.trans e3)) (hm P hP _ _ _ e3 px) H3 (Ex.refl _) _ fun H4 e4 => ?_⟩
    simp only [Bool.false_eq_true, if_false]
    exact ⟨e3.trans e4, e4 _ _ hD⟩
/-- [x for x in xs if f(x)] of data, xs made on the way -/
theorem p_lcF {ds : List PyData} (f : PyData → Bool) (h : EvP tl σ H (Qe (.list ds))) (hw : ∀ x, wipe ((wipe σ vs).set j (some x)) vs = wipe σ vs) (hv : ∀ x, ((wipe σ vs).set j (some x))[j]? = some (some x))
    (ht : ∀ d ∈ ds, ∀ x H1, Ex H H1 → Dq H1 x d → EvT tt ((wipe σ vs).set j (some x)) H1 (f d)) : EvP (tLc (iList K tl) (gName j) tt (tVar j) vs) σ H (Qe (.list (ds.filter f))) := fun H1 e Q q =>
  h H1 e _ fun x H2 e2 p => by
    cases p with
    | @lst l xs _ hz hl hD =>
      have ln := dqAll_len hD
      refine ⟨l, rfl, ⟨xs, sq_of hl⟩, fun D hn => ?_⟩
      refine lc_list (xs := xs) (fun i H3 => Ex H2 H3 ∧ ∃ ys, H3 D = some (.lst ys) ∧ DqAll H2 ys ((ds.take i).filter f) ∧ ys.length ≤ i) ⟨Ex.new hn, [], upd_same, .nil, Nat.le_refl _⟩ (fun i H3 _ p => sq_of (p.1 _ _ hl)) (fun i x H3 hx p => ?_) fun H3 p => ?_
      · obtain ⟨e3, ys, hy, hd, hl2⟩ := p
        obtain ⟨d, hd1, hd2⟩ := dqAll_at hD hx
        have il : i < xs.length := (List.getElem?_eq_some_iff.mp hx).1
        have grow : ds.take (i + 1) = ds.take i ++ [d] := by
          have k1 := (List.getElem?_eq_some_iff.mp hd1).1
          have k2 := (List.getElem?_eq_some_iff.mp hd1).2
          rw [← List.take_append_getElem k1, k2]
        refine ⟨hw x, ht d (List.mem_of_getElem? hd1) x H3 (e.trans (e2.trans e3)) (dq_up e3 hd2) H3 (Ex.refl _) _ fun H4 e4 => ?_⟩
        cases hf : f d with
        | true =>
          simp only [if_true]
          refine ⟨x, hv x, ys, e4 _ _ hy, sz_lt (by omega), (e3.trans e4).mut hn, ys ++ [x], upd_same, ?_, by simp; omega⟩
          rw [grow, List.filter_append, List.filter_cons_of_pos hf]
          exact dqAll_app hd (.cons hd2 .nil)
        | false =>
          simp only [Bool.false_eq_true, if_false]
          refine ⟨e3.trans e4, ys, e4 _ _ hy, ?_, by omega⟩
          rw [grow, List.filter_append, List.filter_cons_of_neg (by rw [hf]; decide), List.filter_nil, List.append_nil]
          exact hd
      · obtain ⟨e3, ys, hy, hd, hl2⟩ := p
        rw [ln, List.take_length] at hd
        exact q (.ref D) H3 (e2.trans e3) (.lst (by omega) hy (dqAll_up e3 hd))
theorem q_evS {te : TE} {s : Str} (h : EvP te σ H (Qe (.str s))) : Ev te σ H (.str s) := (h.imp (P' := Is (.str s)) fun x _ _ p => by cases p; rfl).ev
theorem q_evI {te : TE} {i : Int} (h : EvP te σ H (Qe (.int i))) : Ev te σ H (.int i) := (h.imp (P' := Is (.int i)) fun x _ _ p => by cases p; rfl).ev
theorem ev_qS {te : TE} {s : Str} (h : Ev te σ H (.str s)) : EvP te σ H (Qe (.str s)) := .of h mo_qe (.str s)
theorem ev_qI {te : TE} {i : Int} (h : Ev te σ H (.int i)) : EvP te σ H (Qe (.int i)) := .of h mo_qe (.int i)
end
section
variable {K : PySem.W.Frag} {σ : L2.St} {H : Hp} {te ta : TE} {tk : TO}
theorem dqAll_rev {H : Hp} {xs : List V} {ds : List PyData} (h : DqAll H xs ds) : DqAll H xs.reverse ds.reverse := by
  induction ds generalizing xs with
  | nil => cases h; exact .nil
  | cons d ds ih =>
    cases h with
    | cons a t =>
      rw [List.reverse_cons, List.reverse_cons]
      exact dqAll_app (ih t) (.cons a .nil)
theorem p_rev {ds : List PyData} (h : EvP te σ H (Qe (.list ds))) (hk : EvO tk σ H (some (-1))) : EvP (RevSl.tRevL K te tk) σ H (Qe (.list ds.reverse)) := fun H1 e Q q =>
  h H1 e _ fun x H2 e2 p => hk H2 (e.trans e2) _ fun H3 e3 => ⟨rfl, by
    have p := mo_qe _ _ _ e3 p
    cases p with
    | @lst a xs _ hz hl hd =>
      refine ⟨a, xs, rfl, sq_of hl, fun r hr => q (.ref r) _ (e2.trans (e3.trans (Ex.new hr))) (.lst (by rw [List.length_reverse]; exact hz) upd_same (dqAll_up (Ex.new hr) (dqAll_rev hd)))⟩⟩
theorem ev_dget {i : Nat} {p : Addr} {kvs : List (Key × V)} {key : Str} {v : V} (h : σ[i]? = some (some (.ref p))) (hp : H p = some (.dK kvs)) (hv : valV kvs (.inr key) = some v) : Ev (tDGet (tVar i) (tC (.str key))) σ H v := fun H1 e Q q =>
  ⟨_, h, p, v, rfl, by rw [← hv]; exact DGet.k (k := .inr key) (e _ _ hp), q H1 (Ex.refl _)⟩
/-- a list that was made on the way -/
def NewL (H0 : Hp) (xs : List V) : PV := fun x H' => ∃ l, x = .ref l ∧ H0 l = none ∧ H' l = some (.lst xs)
theorem mo_newL {H0 : Hp} {xs : List V} : Mo (NewL H0 xs) := fun _ _ _ e ⟨l, h1, h2, h3⟩ => ⟨l, h1, h2, e _ _ h3⟩
theorem p_newL {xs : List V} (h : EvL te σ H xs) : EvP te σ H (NewL H xs) := fun H1 e Q q => h H1 e Q fun p H2 hp e2 hl => q _ H2 e2 ⟨p, rfl, fresh_back e hp, hl⟩
end
/-- the tables over a list that was written -/
theorem tabs_lst {T : TabT} {H : Hp} {l : Addr} {xs ys : List V} (hl : H l = some (.lst xs)) (h : Tabs T H) : Tabs T (upd H l (.lst ys)) := fun p hp => by
  obtain ⟨ps, h1, h2, h3⟩ := h p hp
  refine ⟨ps, by rw [upd_ne (fun z => by rw [z, hl] at h1; cases h1)]; exact h1, h2, fun pos cv hc => ?_⟩
  obtain ⟨c, e1, e2⟩ := h3 pos cv hc
  exact ⟨c, e1, by rw [upd_ne (fun z => by rw [z, hl] at e2; have := Option.some.inj e2; unfold CodeO at this; cases this)]; exact e2⟩
theorem set_lst {C : Addr} {g : Stg} {H : Hp} {l : Addr} {xs ys : List V} {x : V} (hl : H l = some (.lst xs)) (h : SetV C g x H) : SetV C g x (upd H l (.lst ys)) := by
  obtain ⟨a, e, dx, d, fs, h1, h2, h3⟩ := h
  exact ⟨a, e, dx, d, fs, by rw [upd_ne (fun z => by rw [z, hl] at h1; cases h1)]; exact h1, by rw [upd_ne (fun z => by rw [z, hl] at h2; cases h2)]; exact h2, h3⟩
structure UseG (P : Program) (w : World) (K : PySem.W.Frag) (mg : Str → Option Value) (base : Heap) (k : Nat) (x : Str) (ps : List Str) (sp : Sp) : Prop where
  ex : ∃ f fd, mg x = some (.ref f) ∧ PySem.W.keepIn K (.ref f) = true ∧ L2.Binds K fd ps [] ∧ FnG P w K mg base CX0 k f fd ps sp
theorem pe_useG {X : Cx} {k j : Nat} {x : Str} {ps : List Str} {sp : Sp} {p pos : Pos} {e : Expr} {es : List Expr} {t : TA} (U : UseG X.prog X.w X.K X.mg X.base k x ps sp) (hr : Room j X.A) (hk : k ≤ j) (hu : X.A.guards = some []) (hg : Gl X x) (ha : PA X (e :: es) t)
    (hdb : (x == ("__debug__" : Str)) = false := by decide) (he : starEach (e :: es) X.env = (false, eval e X.env) :: starEach es X.env := by rfl) (hpl : (backTo pos (starEach es X.env)).any (·.1) = false := by rfl) :
    PE X (.Call (.Name x p) (e :: es) [] pos) (tCall sp [] (fun _ _ _ => False) t) := by
  obtain ⟨f, fd, m, kp, b, F⟩ := U.ex
  exact pe_callG F (hr.mono hk) hu hg m kp b pass0 ha hdb he hpl
end Lw
set_option maxHeartbeats 4000000
/-! Dict comprehensions over any walk, keys texts and numbers; facts that a write to a dict leaves. -/
namespace Wlk
open PySem PySem.Spec PyProof.Rows L2 Evl Pd Chk Lw
/-- a fact that a write to a dict leaves -/
def Dw (P : PV) : Prop := ∀ (x : V) (H : Hp) (D : Addr) (kvs ls : List (Key × V)), H D = some (.dK kvs) → P x H → P x (upd H D (.dK ls))
section
variable {K : PySem.W.Frag} {H : Hp}
theorem at_put {a D : Addr} {kvs ls : List (Key × V)} {o : HO} (h : H D = some (.dK kvs)) (h2 : H a = some o) (hne : ∀ l, o ≠ .dK l) : (upd H D (.dK ls)) a = some o := by
  rw [upd_ne (ne_other h h2 (hne _))]
  exact h2
theorem rd_put {a D : Addr} {kvs ls : List (Key × V)} {o : HO} (h : H D = some (.dK kvs)) (r : Rd H a o) (hne : ∀ l, o ≠ .dK l) : Rd (upd H D (.dK ls)) a o := by
  rcases r with r | ⟨o', r⟩
  · exact .inl (at_put h r hne)
  · exact .inr ⟨o', at_put h r fun _ z => nomatch z⟩
theorem sqL_put {a D : Addr} {kvs ls : List (Key × V)} {xs : List V} (h : H D = some (.dK kvs)) (r : SqL K H a xs) : SqL K (upd H D (.dK ls)) a xs := by
  rcases r with r | r
  · exact .inl (rd_put h r fun _ z => nomatch z)
  · exact .inr r
theorem sqT_put {a D : Addr} {kvs ls : List (Key × V)} {xs : List V} (h : H D = some (.dK kvs)) (r : SqT K H a xs) : SqT K (upd H D (.dK ls)) a xs := by
  rcases r with r | r
  · exact .inl (rd_put h r fun _ z => nomatch z)
  · exact .inr r
mutual
theorem dp_put {D : Addr} {kvs ls : List (Key × V)} (hd : H D = some (.dK kvs)) : ∀ {x : V} {e : PyData}, Dp K H x e → Dp K (upd H D (.dK ls)) x e
  | _, _, .non => .non
  | _, _, .bl b => .bl b
  | _, _, .int i => .int i
  | _, _, .str x => .str x
  | _, _, .lst h a => .lst (sqL_put hd h) (dpAll_put hd a)
  | _, _, .tup h a => .tup (sqT_put hd h) (dpAll_put hd a)
theorem dpAll_put {D : Addr} {kvs ls : List (Key × V)} (hd : H D = some (.dK kvs)) : ∀ {xs : List V} {ds : List PyData}, DpAll K H xs ds → DpAll K (upd H D (.dK ls)) xs ds
  | _, _, .nil => .nil
  | _, _, .cons h a => .cons (dp_put hd h) (dpAll_put hd a)
end
theorem dw_de {d : PyData} : Dw (De K d) := fun _ _ _ _ _ hd h => dp_put hd h
theorem dw_is {v : V} : Dw (Is v) := fun _ _ _ _ _ _ h => h
theorem dw_set {C : Addr} {g : Stg} : Dw (SetV C g) := fun x H D kvs ls hd ⟨a, ex, dx, e, fs, h1, h2, h3⟩ => ⟨a, ex, dx, e, fs, at_put hd h1 (fun _ z => nomatch z), at_put hd h2 (fun _ z => nomatch z), h3⟩
theorem dw_dt {ks : List (List Key)} : Dw (DtV ks) := fun _ _ _ _ _ hd ⟨t, h1, h2⟩ => ⟨t, h1, at_put hd h2 fun _ z => nomatch z⟩
theorem dw_qe {d : PyData} : Dw (Qe d) := fun _ _ _ _ _ hd h => dq_by (fun _ _ h => at_put hd h fun _ z => nomatch z) (fun _ _ h => at_put hd h fun _ z => nomatch z) h
theorem dw_itm {C : Addr} {t : Itm} : Dw (ItmV K C t) := by
  cases t with
  | d d => exact dw_qe
  | set g => exact dw_set
  | dt ks => exact dw_dt
end
/-- the dict's pairs: for the j-th place of idx, i: the key kf i, a value of which Pf i holds -/
structure Prs (idx : List Nat) (kf : Nat → Key) (Pf : Nat → PV) (kvs : List (Key × V)) (H : Hp) : Prop where
  len : kvs.length = idx.length
  at_ : ∀ (j i : Nat), idx[j]? = some i → ∃ v, kvs[j]? = some (kf i, v) ∧ Pf i v H
def PrsV (idx : List Nat) (kf : Nat → Key) (Pf : Nat → PV) : PV := fun x H => ∃ D kvs, x = .ref D ∧ H D = some (.dK kvs) ∧ Prs idx kf Pf kvs H
section
variable {idx : List Nat} {kf : Nat → Key} {Pf : Nat → PV} {kvs : List (Key × V)} {H H' : Hp}
theorem Prs.up (hm : ∀ i, Mo (Pf i)) (h : Prs idx kf Pf kvs H) (e : Ex H H') : Prs idx kf Pf kvs H' := ⟨h.len, fun j i hj => let ⟨v, h1, h2⟩ := h.at_ j i hj; ⟨v, h1, hm i _ _ _ e h2⟩⟩
theorem mo_prs (hm : ∀ i, Mo (Pf i)) : Mo (PrsV idx kf Pf) := fun _ _ _ e ⟨D, kvs, h1, h2, h3⟩ => ⟨D, kvs, h1, e _ _ h2, h3.up hm e⟩
theorem Prs.put (hw : ∀ i, Dw (Pf i)) {D : Addr} {ks ls : List (Key × V)} (h : Prs idx kf Pf kvs H) (hd : H D = some (.dK ks)) : Prs idx kf Pf kvs (upd H D (.dK ls)) := ⟨h.len, fun j i hj => let ⟨v, h1, h2⟩ := h.at_ j i hj; ⟨v, h1, hw i _ _ _ _ _ hd h2⟩⟩
theorem Prs.snoc (h : Prs idx kf Pf kvs H) {i : Nat} {v : V} (hv : Pf i v H) : Prs (idx ++ [i]) kf Pf (kvs ++ [(kf i, v)]) H := ⟨by simp [h.len], fun j n hj => by
  rcases Nat.lt_or_ge j idx.length with c | c
  · rw [List.getElem?_append_left c] at hj
    obtain ⟨u, h1, h2⟩ := h.at_ j n hj
    exact ⟨u, by rw [List.getElem?_append_left (by rw [h.len]; exact c)]; exact h1, h2⟩
  · rw [List.getElem?_append_right c] at hj
    have e : j - idx.length = 0 := by
      have := (List.getElem?_eq_some_iff.mp hj).1
      simp at this
      omega
    rw [e] at hj
    cases hj
    exact ⟨v, by rw [List.getElem?_append_right (by rw [h.len]; exact c), h.len, e]; rfl, hv⟩⟩
theorem Prs.none (h : Prs idx kf Pf kvs H) {k : Key} (hk : ∀ i ∈ idx, kf i ≠ k) : valV kvs k = none := by
  cases e : valV kvs k with
  | none => rfl
  | some v =>
    exfalso
    have a : (kvs.any fun kv => decide (kv.1 = k)) = true := by rw [valV_any, e]; rfl
    obtain ⟨p, hp, ek⟩ := List.any_eq_true.mp a
    obtain ⟨j, hj, rfl⟩ := List.getElem_of_mem hp
    have lj : j < idx.length := by rw [← h.len]; exact hj
    obtain ⟨u, h1, _⟩ := h.at_ j idx[j] (List.getElem?_eq_getElem lj)
    rw [List.getElem?_eq_getElem hj] at h1
    have : kvs[j].1 = kf idx[j] := by rw [Option.some.inj h1]
    rw [this] at ek
    exact hk _ (List.getElem_mem lj) (of_decide_eq_true ek)
end
section
variable {K : PySem.W.Frag} {σ : L2.St} {H : Hp} {tk tv : TE} {t : TT}
theorem range_filter_succ (n : Nat) (f : Nat → Bool) : (List.range (n + 1)).filter f = (List.range n).filter f ++ (if f n = true then [n] else []) := by
  rw [List.range_succ, List.filter_append]
  congr 1
  by_cases h : f n = true
  · simp [h]
  · simp [h]
/-- {k: v for target in a walk if ..} -/
theorem p_dcW {wi : TI} {J : It} {n : Nat} {G : Hp → Prop} {Y : Nat → Hp → V → Hp → Prop} {g : TG} {vs : List Nat} (f : Nat → Bool) (kf : Nat → Key) (Pf : Nat → PV) (hm : ∀ i, Mo (Pf i)) (hdw : ∀ i, Dw (Pf i)) (w : Walk J n G Y) (hn : n ≤ 40000)
    (inj : ∀ i j, i < n → j < n → kf i = kf j → i = j)
    (hwi : ∀ H1, Ex H H1 → ∀ R : It → Hp → Prop, (∀ H2, Ex H1 H2 → R J H2) → wi σ H1 R) (hG : ∀ H1, Ex H H1 → G H1)
    (step : ∀ (i : Nat) (x : V) (H1 H2 : Hp), i < n → Ex H H1 → Y i H1 x H2 → Ex H1 H2 ∧ ∃ σ2, (∀ k : L2.St → Hp → Prop, k σ2 H2 → g x (wipe σ vs) H2 k) ∧ wipe σ2 vs = wipe σ vs ∧ EvT t σ2 H2 (f i) ∧ (f i = true → Ev tk σ2 H2 (kV (kf i)) ∧ EvP tv σ2 H2 (Pf i))) :
    EvP (tDc wi g t tk tv vs) σ H (fun x H' => PrsV ((List.range n).filter f) kf Pf x H' ∧ ∃ D, x = .ref D ∧ H D = none) := fun H0 e Q q => hwi H0 e _ fun H1 e1 D hD => by
  refine ⟨fun i m H' => m = n - i ∧ i ≤ n ∧ Ex H1 H' ∧ ∃ kvs, H' D = some (.dK kvs) ∧ Prs ((List.range i).filter f) kf Pf kvs H', ⟨n, by simp, Nat.zero_le _, Ex.new hD, [], upd_same, ⟨rfl, fun j i hj => by simp at hj⟩⟩, ?_⟩
  rintro i m H' ⟨rfl, hi, ex, kvs, hd, pr⟩
  have up := (e.trans e1).trans ex
  by_cases lt : i < n
  · refine .inr ⟨w.goes i H' lt (hG H' up), fun H3 => Ex H1 H3 ∧ ∃ kvs, H3 D = some (.dK kvs) ∧ Prs ((List.range (i + 1)).filter f) kf Pf kvs H3, fun H3 ⟨p1, p2⟩ => ⟨n - (i + 1), by omega, rfl, lt, p1, p2⟩, fun x H2 y => ?_⟩
    obtain ⟨e2, σ2, gk, hw, ht, hkv⟩ := step i x H' H2 lt up (w.yields i H' x H2 lt (hG H' up) y)
    refine gk _ ⟨hw, ht H2 (Ex.refl _) _ fun H3 e3 => ?_⟩
    cases hf : f i with
    | false =>
      simp only [Bool.false_eq_true, if_false]
      refine ⟨ex.trans (e2.trans e3), kvs, (e2.trans e3) _ _ hd, ?_⟩
      rw [range_filter_succ, hf, if_neg (by decide), List.append_nil]
      exact pr.up hm (e2.trans e3)
    | true =>
      simp only [if_true]
      obtain ⟨hk, hv⟩ := hkv hf
      refine hk H3 e3 _ fun H4 e4 => hv H4 (e3.trans e4) _ fun z H5 e5 pz => ?_
      have e25 := e2.trans (e3.trans (e4.trans e5))
      have hd5 := e25 _ _ hd
      have p5 := pr.up hm e25
      have no : valV kvs (kf i) = none := pr.none fun j hj => by
        have hj' := List.mem_range.mp (List.mem_filter.mp hj).1
        intro z
        have := inj j i (by omega) lt z
        omega
      have short : kvs.length ≤ n := by
        rw [pr.len]
        have := List.length_filter_le f (List.range i)
        rw [List.length_range] at this
        omega
      refine ⟨kvs, kf i, rfl, hd5, sz_lt (by omega), (ex.trans e25).mut hD, _, upd_same, ?_⟩
      rw [putK_new z no, range_filter_succ, hf, if_pos rfl]
      exact (p5.put hdw hd5).snoc (hdw i _ _ _ _ _ hd5 pz)
  · have : i = n := by omega
    subst this
    exact .inl ⟨w.stops H' (hG H' up), q (.ref D) H' (e1.trans ex) ⟨⟨D, kvs, rfl, hd, pr⟩, D, rfl, fresh_back (e.trans e1) hD⟩⟩
end
end Wlk
set_option maxHeartbeats 4000000
/-! Defs that may raise and that are called where no repr is under way; methods with arguments; sorted(xs, key=str) of texts. -/
namespace Gd
open PySem PySem.Spec PyProof.Rows L2 Evl Pd
section
variable {P : Program} {w : World} {K : PySem.W.Frag} {mg : Str → Option Value} {base : Heap} {CX : CXT} {k : Nat} {f : Addr} {fd : FuncData} {ps : List Str} {sp : Sp}
theorem okGX {x qual : Str} {st : Stmt} {N : List Str} (F : Fun K x qual st f fd) (S : FnScope N ps (defScope st)) (len : ∀ vs H Q E, sp vs H Q E → vs.length = ps.length)
    (body : ∀ (cdv : Value) (A : Around) (outer : List Env) (s : Shared) (H : Hp) (vs : List V) (Q : VK) (E : XK), Room k (A.deeper (envOfC qual (defScope st) s.heap.objs.size f cdv)) → (A.deeper (envOfC qual (defScope st) s.heap.objs.size f cdv)).guards = some [] → sp vs H Q E →
      ∃ t, PSs (cxOf (L2.CX P w) P w K mg base N qual (defScope st) f cdv A outer s H E) (defBody st) t ∧ t { nx := fun _ H' => Q .non H', rt := Q } (start N vs) H) : FnG P w K mg base (L2.CX P w) (k + 1) f fd ps sp := by
  obtain ⟨oc, od, kV, doc, pm, an, cdv, ct, osl, rfl, lk, hcd⟩ := F.ex
  refine ⟨len, fun A outer s H args us vs Q E hr hg e0 hb r hsp => ?_⟩
  have hl := len _ _ _ _ hsp
  have KX : K.In s.heap := e0.mod.kin.keeps fun b o e => (e0.bs b o e).1
  have lim : s.heap.NoLimit := e0.mod.nolimit.keeps fun b o e => (e0.bs b o e).1
  have kinds : ∀ y ∈ ps.zip us, (defScope st).names.lookup y.1 = some .local ∨ ((defScope st).names.lookup y.1 = some .cell ∧ ((cellsFrom (s.heap.objs.size + 1) (defScope st).names []).lookup y.1).isSome = true) := fun ⟨n, v⟩ hy =>
    (S.par n (List.of_mem_zip hy).1).imp id fun q => ⟨q, PySem.W.cellsFrom_some _ _ _ (.inl q)⟩
  refine codeAny_call_function hr.depth (KX _ _ lk) rfl S.co S.gen rfl (PySem.W.codeRec_of KX hcd) (hb _ _ _ _ (wpAny_newFunctionEnv_cells S.kind kinds fun env he s1 x => ?_))
  subst he
  refine ⟨lim.keeps x.toInCall.keep, codeAny_func ?_⟩
  obtain ⟨t, ht, hq⟩ := body cdv A outer s H vs Q E (hr.deeper _) hg hsp
  have I : Inv (cxOf (L2.CX P w) P w K mg base N qual (defScope st) f cdv A outer s H E) [] (start N vs) H s1 := inv_start S hr.hd e0 hl r x
  refine wpAny_mono (ht.run [] s1 (start N vs) H _ I hq) (fun fl s' hs => ?_) fun e s' hs => hs
  have fin : ∀ {σ' : L2.St} {H' : Hp} {v : V} {u : Value}, Inv (cxOf (L2.CX P w) P w K mg base N qual (defScope st) f cdv A outer s H E) [] σ' H' s' → RelV v u → Q v H' → CE outer P w H s Q u s' := fun {σ' H' v u} J rv q => ⟨v, H', J.os, J.bare, J.base, J.hok, rv, q⟩
  cases fl with
  | ret u =>
    obtain ⟨v, σ', H', J, rv, q⟩ := hs
    exact fin J rv q
  | next =>
    obtain ⟨σ', H', J, q⟩ := hs
    exact fin (v := V.non) (u := Value.none) J rfl q
  | brk =>
    obtain ⟨_, _, _, q⟩ := hs
    exact False.elim q
  | cont =>
    obtain ⟨_, _, _, q⟩ := hs
    exact False.elim q
end
section
variable {X : Cx} {CX : CXT} {k j : Nat} {f C : Addr} {fd : FuncData} {ps : List Str} {sp : Sp} {E : XK} {x m : Str} {p pos apos : Pos} {e o : Expr} {es : List Expr} {ta : TE} {t : TA}
/-- o.m(e, ..) -/
theorem pe_methG {pl : Sem Bool} (he : PE X o ta) (c : Cls X.K C) (hm : Meth X.K C m f) (F : FnG X.prog X.w X.K X.mg X.base CX k f fd ps sp) (hr : Room k X.A) (hg : X.A.guards = some []) (hb : L2.Binds X.K fd ps []) (hx : Passes CX X E) (ha : PA X (e :: es) t)
    (hst : starEach (e :: es) X.env = (false, eval e X.env) :: starEach es X.env := by rfl) (hpl : (backTo pos (starEach es X.env)).any (·.1) = false := by rfl)
    (ht : eval (.Call (.Attribute o m apos) (e :: es) [] pos) X.env = (do
      let ov ← eval o X.env
      standAt apos.atName
      let (f, first) ← holding [ov] (getMethod ov m pl)
      callWith pos f first (backTo pos (starEach (e :: es) X.env)) (backToKw pos (keywordEach [] X.env))) := by rfl) :
    PE X (.Call (.Attribute o m apos) (e :: es) [] pos) (tMeth C m sp [] E ta t) := by
  refine ⟨fun pins s σ H Q I h => ?_⟩
  refine PySem.W.methodCall_KW (pl := pl) (thn (he.run pins s σ H _ I h) fun u s1 ⟨y, H1, I1, rx, a, dx, fs, ex, ea, l, q⟩ => ?_) ht
  subst ex
  obtain rfl : u = Value.ref a := rx
  refine getmeth_ok I1 ea c hm l ?_
  refine PySem.W.callWith_K (first := [.ref a]) (h₀ := X.base) I.ok.mod.kin hm.kp (thn (ha.run pos pins s1 σ H1 _ I1 q) fun us s2 ⟨vs, H2, I2, r, q2⟩ => ⟨I2.kIn, ?_⟩) hst hpl
  have q2 : sp (V.ref a :: vs) H2 Q E := by
    have z : sp (V.ref a :: (vs ++ [])) H2 Q E := q2
    rwa [List.append_nil] at z
  exact run_fnG (us := .ref a :: us) (vs := .ref a :: vs) F hr hg hb hx I2 (.cons rfl r) q2
structure UseX (P : Program) (w : World) (K : PySem.W.Frag) (mg : Str → Option Value) (base : Heap) (k : Nat) (x : Str) (ps : List Str) (sp : Sp) : Prop where
  ex : ∃ f fd, mg x = some (.ref f) ∧ PySem.W.keepIn K (.ref f) = true ∧ L2.Binds K fd ps [] ∧ FnOk P w K mg base (L2.CX P w) k f fd ps sp
theorem pe_useX (U : UseX X.prog X.w X.K X.mg X.base k x ps sp) (hr : Room j X.A) (hk : k ≤ j) (hg : Gl X x) (hx : Passes (L2.CX X.prog X.w) X E) (ha : PA X (e :: es) t)
    (hdb : (x == ("__debug__" : Str)) = false := by decide) (he : starEach (e :: es) X.env = (false, eval e X.env) :: starEach es X.env := by rfl) (hpl : (backTo pos (starEach es X.env)).any (·.1) = false := by rfl) :
    PE X (.Call (.Name x p) (e :: es) [] pos) (tCall sp [] E t) := by
  obtain ⟨f, fd, m, kp, b, F⟩ := U.ex
  exact pe_call F (hr.mono hk) hg m kp b .nil hx ha hdb he hpl
theorem useX_of {P : Program} {w : World} {K : PySem.W.Frag} {mg : Str → Option Value} {base : Heap} {st : Stmt} {N : List Str} (D : Us.Dn K mg x st) (S : FnScope N ps (defScope st)) (hb : ∀ (f : Addr) (fd : FuncData), Fun K x x st f fd → L2.Binds K fd ps []) (len : ∀ vs H Q E, sp vs H Q E → vs.length = ps.length)
    (body : ∀ (f : Addr) (cdv : Value) (A : Around) (outer : List Env) (s : Shared) (H : Hp) (vs : List V) (Q : VK) (E : XK), Room k (A.deeper (envOfC x (defScope st) s.heap.objs.size f cdv)) → sp vs H Q E →
      ∃ t, PSs (cxOf (L2.CX P w) P w K mg base N x (defScope st) f cdv A outer s H E) (defBody st) t ∧ t { nx := fun _ H' => Q .non H', rt := Q } (start N vs) H) : UseX P w K mg base (k + 1) x ps sp := by
  obtain ⟨f, fd, g, kp, F⟩ := D.ex
  exact ⟨f, fd, g, kp, hb f fd F, F.okX S len (body f)⟩
end
/-! ### sorted(xs, key=str), all of them texts -/
def rSortT (K : PySem.W.Frag) : List V → List V → Hp → VK → Prop := fun vs zs H Q => ∃ (a : Addr) (ss : List Str), vs = [.ref a] ∧ zs = [.ty "str"] ∧ SqL K H a (ss.map V.str) ∧ ∀ p, H p = none → Q (.ref p) (upd H p (.lst ((ss.mergeSort (PySem.W.dataLe false fun s => PyData.str s)).map V.str)))
theorem vals_str : ∀ {us : List Value} {ss : List Str}, PySem.W.EachIs (fun (v : Value) (b : Str) => RelV (.str b) v) us ss → Vals (ss.map V.str) us
  | _, _, .nil => .nil
  | _, _, .cons h t => .cons h (vals_str t)
theorem each_str : ∀ {us : List Value} {ss : List Str}, Vals (ss.map V.str) us → PySem.W.EachIs (fun (v : Value) (b : Str) => RelV (.str b) v) us ss
  | us, [], r => by cases r; exact .nil
  | us, s :: ss, r => by
    cases r with
    | cons a b => exact .cons a (each_str b)
section
variable {X : Cx}
theorem cr_sortT (hu : X.A.units + 64 < cLine) : CallRK X (.builtin "sorted") [Str.ofString "key"] (rSortT X.K) := by
  intro pins s σ H xs zs us ws Q I r rz h
  obtain ⟨a, ss, rfl, rfl, hS, q⟩ := h
  cases r with
  | cons ra rn =>
    cases rn
    cases ra
    cases rz with
    | cons rk rm =>
      cases rm
      cases rk
      obtain ⟨its, rv, pl, hl⟩ := I.list hS
      rw [List.length_map] at hl
      show wpAny _ _ (call (.builtin "sorted") [.ref a] [(Str.ofString "key", .type "str")]) _ _ _
      refine PySem.W.sorted_key_data (b := false) (fun b : Str => PyData.str b) pl.isList (each_str rv) (PySem.W.AllAlike.of fun _ _ => by simp [PySem.W.alike]) (PySem.W.Sortable.others fun _ => ⟨(fun z => nomatch z), fun _ z => nomatch z⟩) hl
        (fun b _ => by have e : (PyData.str b).depth = 0 := by simp [PyData.depth]
                       rw [e]; omega) (ksk_s1 _ _) (fun _ => ksk_l1 _ _) (fun _ => rfl) (fun v b hb hm h tk kp => ?_) fun out c h' tk kp hn hD hl2 eo => ?_
      · cases (show RelV (.str b) v from hb) with
        | intro t e =>
          subst e
          exact PySem.P.str_of_str ⟨h, tk, rfl, fun _ _ z => z, .str _ _⟩
      · have vo := vals_str eo
        have lo : ((ss.mergeSort (PySem.W.dataLe false fun s => PyData.str s)).map V.str).length ≤ sizeLine := by
          rw [List.length_map, List.length_mergeSort]
          exact hl
        have ok : ObjOk X.prog X.w (upd H (s.heap.objs.size + 1) (.lst ((ss.mergeSort (PySem.W.dataLe false fun s => PyData.str s)).map V.str))) h' (s.heap.objs.size + 1) (.lst ((ss.mergeSort (PySem.W.dataLe false fun s => PyData.str s)).map V.str)) := ⟨lo, out, c, vo, hD⟩
        exact ⟨.ref (s.heap.objs.size + 1), _, I.laid (t' := tk) kp (Nat.le_succ _) ok, rfl, q _ (I.hok.fresh (Nat.le_succ _))⟩
end
end Gd
set_option maxHeartbeats 4000000
/-! An end: what it holds, how it is made. -/
namespace Chk
open PySem PySem.Spec PyProof.Rows L2 Evl Pd Gd Us Wlk
abbrev mInitE : Stmt := Tp.m_End___init__
def leS : Str → Str → Bool := PySem.W.dataLe false fun s => PyData.str s
def sortS (ss : List Str) : List Str := ss.mergeSort leS
def keyS : Key → Str
  | .inl _ => ""
  | .inr s => s
def itemAt (kvs : Its') (k : Key) : Itm := ((kvs.find? fun p => decide (p.1 = k)).map (·.2)).getD (.d .none)
def wordsI (kvs : Its') : List Str := sortS (kvs.map fun p => keyS p.1)
/-- by their words, ascending -/
def ordI (kvs : Its') : Its' := (wordsI kvs).map fun w => (Sum.inr w, itemAt kvs (.inr w))
def itemsA : Arg → Its'
  | .dct kvs => kvs
  | .d _ => []
def rulesI (kvs : Its') : Its' := kvs.map fun p => (p.1, .dt (onceK (keysOf (dataI p.2))))
/-- what an end holds -/
structure Eg where
  own : Its'
  uses : Its'
  rules : Its'
  most : Int
def endOf (p : PtsE) : Eg := ⟨ordI (itemsA p.settings), ordI (itemsA p.uses), rulesI (itemsA p.rules), intOf p.most⟩
def methodsE : List Str := ["words", "used_words", "setting", "use", "pairs", "lets", "with_pairs"]
structure EndAt (K : PySem.W.Frag) (C CE : Addr) (e : Eg) (a : Addr) (H : Hp) : Prop where
  ex : ∃ (dx : Addr) (fs : List (Str × V)) (d1 d2 d3 : Addr) (v1 v2 v3 : List (Key × V)), H a = some (.ins CE dx fs) ∧ H d1 = some (.dK v1) ∧ H d2 = some (.dK v2) ∧ H d3 = some (.dK v3) ∧ ItemsV K C e.own v1 H ∧ ItemsV K C e.uses v2 H ∧ ItemsV K C e.rules v3 H ∧
    fs.lookup ("_settings" : Str) = some (.ref d1) ∧ fs.lookup ("_uses" : Str) = some (.ref d2) ∧ fs.lookup ("_rules" : Str) = some (.ref d3) ∧ fs.lookup ("_most" : Str) = some (.int e.most) ∧ ∀ m ∈ methodsE, fs.lookup m = none
def EndV (K : PySem.W.Frag) (C CE : Addr) (e : Eg) : PV := fun x H => ∃ a, x = .ref a ∧ EndAt K C CE e a H
theorem EndAt.up {K : PySem.W.Frag} {C CE : Addr} {e : Eg} {a : Addr} {H H' : Hp} (h : EndAt K C CE e a H) (x : Ex H H') : EndAt K C CE e a H' := by
  obtain ⟨dx, fs, d1, d2, d3, v1, v2, v3, h0, h1, h2, h3, i1, i2, i3, r⟩ := h.ex
  exact ⟨dx, fs, d1, d2, d3, v1, v2, v3, x _ _ h0, x _ _ h1, x _ _ h2, x _ _ h3, i1.up x, i2.up x, i3.up x, r⟩
theorem mo_end {K : PySem.W.Frag} {C CE : Addr} {e : Eg} : Mo (EndV K C CE e) := fun _ _ _ x ⟨a, h1, h2⟩ => ⟨a, h1, h2.up x⟩
/-! ### sorted words -/
theorem sortS_perm (ss : List Str) : (sortS ss).Perm ss := List.mergeSort_perm ..
theorem sortS_len (ss : List Str) : (sortS ss).length = ss.length := (sortS_perm ss).length_eq
theorem nodup_at {α : Type} {l : List α} (h : l.Nodup) {i j : Nat} {x : α} (hi : l[i]? = some x) (hj : l[j]? = some x) : i = j := by
  have a1 := List.getElem?_eq_some_iff.mp hi
  have a2 := List.getElem?_eq_some_iff.mp hj
  obtain ⟨l1, e1⟩ := a1
  obtain ⟨l2, e2⟩ := a2
  rcases Nat.lt_trichotomy i j with c | c | c
  · exact absurd (e1.trans e2.symm) (List.pairwise_iff_getElem.mp h i j l1 l2 c)
  · exact c
  · exact absurd (e2.trans e1.symm) (List.pairwise_iff_getElem.mp h j i l2 l1 c)
def AllR (kvs : Its') : Prop := ∀ p ∈ kvs, ∃ s : Str, p.1 = .inr s
section
variable {K : PySem.W.Frag} {C : Addr} {kvs : Its'} {vs : List (Key × V)} {H H' : Hp}
theorem words_nodup (h : (kvs.map (·.1)).Nodup) (hr : AllR kvs) : (wordsI kvs).Nodup := by
  refine (sortS_perm _).nodup_iff.mpr ?_
  have e : kvs.map (·.1) = (kvs.map fun p => keyS p.1).map Sum.inr := by
    rw [List.map_map]
    refine List.map_congr_left fun p hp => ?_
    obtain ⟨s, e⟩ := hr p hp
    show p.1 = Sum.inr (keyS p.1)
    rw [e]
    rfl
  rw [e] at h
  exact (List.pairwise_map.mp h).imp fun h z => h (by rw [z])
theorem item_at (hn : (kvs.map (·.1)).Nodup) {i : Nat} {k : Key} {t : Itm} (h : kvs[i]? = some (k, t)) : itemAt kvs k = t := by
  have : kvs.find? (fun p => decide (p.1 = k)) = some (k, t) := by
    rw [List.find?_eq_some_iff_getElem]
    obtain ⟨l1, e1⟩ := List.getElem?_eq_some_iff.mp h
    refine ⟨by simp, i, l1, e1, fun j hj => ?_⟩
    have lj : j < kvs.length := by omega
    have : kvs[j].1 ≠ k := fun z => by
      have := nodup_at hn (i := j) (j := i) (x := k) (by rw [List.getElem?_map, List.getElem?_eq_getElem lj, Option.map_some, z]) (by rw [List.getElem?_map, h]; rfl)
      omega
    simpa using this
  unfold itemAt
  rw [this]
  rfl
/-- the value at a word -/
theorem ItemsV.word (h : ItemsV K C kvs vs H) (hn : (kvs.map (·.1)).Nodup) (hr : AllR kvs) {w : Str} (hw : w ∈ wordsI kvs) : ∃ v, valV vs (.inr w) = some v ∧ ItmV K C (itemAt kvs (.inr w)) v H := by
  have m := (sortS_perm _).mem_iff.mp hw
  obtain ⟨p, hp, e⟩ := List.mem_map.mp m
  obtain ⟨s, e2⟩ := hr p hp
  obtain ⟨i, hi, rfl⟩ := List.getElem_of_mem hp
  have hk : kvs[i]? = some (.inr w, kvs[i].2) := by
    rw [List.getElem?_eq_getElem hi]
    have : kvs[i].1 = .inr w := by rw [e2]; rw [e2] at e; exact congrArg Sum.inr e
    rw [← this]
  obtain ⟨v, h1, h2⟩ := h.at_ i _ _ hk
  rw [item_at hn hk]
  exact ⟨v, valV_at (by rw [h.keys]; exact hn) h1, h2⟩
/-- an object of the class CE at a that was empty is written: the rest stays -/
theorem itm_stay {CE a dx : Addr} {t : Itm} {v : V} (ha : H a = some (.ins CE dx [])) (st : ∀ b o, b ≠ a → H b = some o → H' b = some o) (h : ItmV K C t v H) : ItmV K C t v H' := by
  have ne : ∀ {b : Addr} {o : HO}, H b = some o → (∀ d, o ≠ .ins CE d []) → b ≠ a := fun {b o} hb hne z => by
    rw [z, ha] at hb
    cases hb
    exact hne _ rfl
  cases t with
  | d d => exact Lw.dq_by (fun b xs hb => st b _ (ne hb fun _ z => nomatch z) hb) (fun b xs hb => st b _ (ne hb fun _ z => nomatch z) hb) h
  | set g =>
    obtain ⟨b, e, dy, d, fs, h1, h2, h3, r⟩ := h
    refine ⟨b, e, dy, d, fs, st _ _ (ne h1 fun d z => ?_) h1, st _ _ (ne h2 fun _ z => nomatch z) h2, h3, r⟩
    injection z with _ _ z
    rw [z] at h3
    cases h3
  | dt ks =>
    obtain ⟨b, e, hb⟩ := h
    exact ⟨b, e, st _ _ (ne hb fun _ z => nomatch z) hb⟩
end
/-! ### {word: d[word] for word in sorted(list(d), key=str)} -/
def rListDK : List V → Hp → VK → Prop := fun xs H Q => ∃ (a : Addr) (kvs : List (Key × V)), xs = [.ref a] ∧ Rd H a (.dK kvs) ∧ ∀ p, H p = none → Q (.ref p) (upd H p (.lst (kvs.map fun kv => kV kv.1)))
section
variable {K : PySem.W.Frag} {C : Addr} {kvs : Its'} {vs : List (Key × V)} {σ : L2.St} {H : Hp} {td td2 te : TE} {a : Addr}
theorem keys_words (hi : ItemsV K C kvs vs H) (hr : AllR kvs) : (vs.map fun kv => kV kv.1) = (kvs.map fun p => keyS p.1).map V.str := by
  have e : (vs.map fun kv => kV kv.1) = (vs.map (·.1)).map kV := by rw [List.map_map]; rfl
  rw [e, hi.keys, List.map_map, List.map_map]
  refine List.map_congr_left fun p hp => ?_
  obtain ⟨s, e⟩ := hr p hp
  show kV p.1 = V.str (keyS p.1)
  rw [e]
  rfl
theorem el_words (hi : ItemsV K C kvs vs H) (hr : AllR kvs) (hd : Rd H a (.dK vs)) (h : Ev td σ H (.ref a)) : EvL (tCKw (rSortT K) (tCons (tCB rListDK (tCons td tNil)) tNil) (tCons (tC (.ty "str")) tNil)) σ H ((wordsI kvs).map V.str) := fun H1 e Q q =>
  h H1 e _ fun H2 e2 => ⟨a, vs, rfl, ex_rd (e.trans e2) hd, fun p hp => ⟨p, kvs.map fun p => keyS p.1, rfl, rfl, by rw [keys_words hi hr]; exact sq_of upd_same, fun r hr2 => q r _ (fresh_back (e2.trans (Ex.new hp)) hr2) (e2.trans ((Ex.new hp).trans (Ex.new hr2))) upd_same⟩⟩
/-- the dict's pairs are those of ord, by word -/
structure OrdV (kvs : Its') (vs ws : List (Key × V)) : Prop where
  len : ws.length = (wordsI kvs).length
  at_ : ∀ (j : Nat) (w : Str), (wordsI kvs)[j]? = some w → ∃ v, ws[j]? = some (.inr w, v) ∧ valV vs (.inr w) = some v
theorem OrdV.items {ws : List (Key × V)} {H' : Hp} (o : OrdV kvs vs ws) (hi : ItemsV K C kvs vs H) (hn : (kvs.map (·.1)).Nodup) (hr : AllR kvs) (up : ∀ t v, ItmV K C t v H → ItmV K C t v H') : ItemsV K C (ordI kvs) ws H' := by
  refine ⟨by rw [o.len]; unfold ordI; rw [List.length_map], fun i k t h => ?_⟩
  unfold ordI at h
  rw [List.getElem?_map] at h
  obtain ⟨w, hw, e⟩ := Option.map_eq_some_iff.mp h
  cases e
  obtain ⟨v, h1, h2⟩ := o.at_ i w hw
  obtain ⟨v2, h3, h4⟩ := hi.word hn hr (List.mem_of_getElem? hw)
  rw [h2] at h3
  cases h3
  exact ⟨v, h1, up _ _ h4⟩
theorem p_ord {i : Nat} {vs' : List Nat} (hi : ItemsV K C kvs vs H) (hn : (kvs.map (·.1)).Nodup) (hr : AllR kvs) (hz : kvs.length ≤ 1000) (hd : Rd H a (.dK vs)) (h : Ev td σ H (.ref a)) (hw : ∀ x, wipe ((wipe σ vs').set i (some x)) vs' = wipe σ vs') (hv : ∀ x, ((wipe σ vs').set i (some x))[i]? = some (some x))
    (h2 : ∀ x, Ev td2 ((wipe σ vs').set i (some x)) H (.ref a)) : EvP (tDc (iList K (tCKw (rSortT K) (tCons (tCB rListDK (tCons td tNil)) tNil) (tCons (tC (.ty "str")) tNil))) (gName i) tYes (tVar i) (tDGet td2 (tVar i)) vs') σ H (fun x H' => ∃ D ws, x = .ref D ∧ H D = none ∧ H' D = some (.dK ws) ∧ OrdV kvs vs ws) := fun H1 e Q q =>
  el_words hi hr hd h H1 e _ fun p H2 hp e2 hl => ⟨p, rfl, ⟨_, sq_of hl⟩, by
    have nd := words_nodup hn hr
    have lw : (wordsI kvs).length ≤ 1000 := by unfold wordsI; rw [sortS_len, List.length_map]; exact hz
    have key := p_dcW (σ := σ) (H := H2) (tk := tVar i) (tv := tDGet td2 (tVar i)) (t := tYes) (wi := fun _ H' R => R (Itl K p) H') (g := gName i) (vs := vs') (fun _ => true) (fun j => .inr (((wordsI kvs)[j]?).getD "")) (fun j => Is ((valV vs (.inr (((wordsI kvs)[j]?).getD ""))).getD .non)) (fun _ => mo_is) (fun _ => dw_is)
      (walk_list (K := K) (a := p) (xs := (wordsI kvs).map V.str)) (by rw [List.length_map]; omega) (fun j l hj hl' z => ?_) (fun H3 e3 R r => r H3 (Ex.refl _)) (fun H3 e3 => sq_of (e3 _ _ hl)) (fun j x H3 H4 hj e3 y => ?_)
    · refine key H2 (Ex.refl _) Q fun x H3 e3 p3 => q x H3 (e2.trans e3) ?_
      obtain ⟨⟨D, ws, rfl, hD, pr⟩, D', ed, nD⟩ := p3
      cases ed
      have ff : (List.range ((wordsI kvs).map V.str).length).filter (fun _ => true) = List.range (wordsI kvs).length := by rw [List.length_map]; simp
      rw [ff] at pr
      refine ⟨D, ws, rfl, fresh_back (e.trans e2) nD, hD, by rw [pr.len, List.length_range], fun j w hw => ?_⟩
      have lj := (List.getElem?_eq_some_iff.mp hw).1
      obtain ⟨v, h1, h2⟩ := pr.at_ j j (by rw [List.getElem?_range lj])
      rw [hw, Option.getD_some] at h1
      obtain ⟨v2, h3, _⟩ := hi.word hn hr (List.mem_of_getElem? hw)
      rw [h3]
      rw [show v = _ from h2, hw, Option.getD_some, h3] at h1
      exact ⟨v2, h1, rfl⟩
    · rw [List.length_map] at hj hl'
      rw [List.getElem?_eq_getElem hj, List.getElem?_eq_getElem hl', Option.getD_some, Option.getD_some] at z
      injection z with z
      exact nodup_at nd (List.getElem?_eq_getElem hj) (by rw [List.getElem?_eq_getElem hl', z])
    · obtain ⟨rfl, hx⟩ := y
      rw [List.length_map] at hj
      rw [List.getElem?_map, List.getElem?_eq_getElem hj, Option.map_some] at hx
      cases hx
      have up := e.trans (e2.trans e3)
      refine ⟨Ex.refl _, _, fun k hk => hk, hw _, fun H5 _ Q5 q5 => q5 H5 (Ex.refl _), fun _ => ?_⟩
      rw [List.getElem?_eq_getElem hj, Option.getD_some]
      refine ⟨ev_var (hv _), ?_⟩
      obtain ⟨v2, h3, _⟩ := hi.word hn hr (List.getElem_mem hj)
      rw [h3]
      exact p_dget (k := .inr (wordsI kvs)[j]) ((h2 _).mono up) (ev_var (hv _)) (ex_rd up hd) h3 mo_is rfl⟩
/-- a value inside a lock -/
theorem p_lock {d : Addr} {P : PV} (hd : H d = some (.dK vs)) (un : ∀ (x : V) (H2 : Hp) (od : Obj), H2 d = some (.frz od (.dK vs)) → P x H2 → P x (upd H2 d (.dK vs))) (h : ∀ od, EvP te σ (lk H d od vs) P) : EvP (tLockE te) σ H P := fun H1 e Q q =>
  ⟨d, .dK vs, e _ _ hd, trivial, fun od => h od _ (ex_both e) _ fun x H2 e2 p => ⟨e2 _ _ upd_same, q x _ (EqD.ex_lock (e _ _ hd) e2) (un x H2 od (e2 _ _ upd_same) p)⟩⟩
theorem key_tupP {x : V} {e : PyData} {lo hi : Int} (h : Dq H x e) (ok : isPair lo hi e = true) : ∃ b, x = .ref b ∧ H b = some (.tup ((keyOf e).map kV)) := by
  obtain ⟨i, j, rfl⟩ := isPair_ints ok
  cases h with
  | tup h a =>
    cases a with
    | cons h1 a =>
      cases a with
      | cons h2 a =>
        cases a
        cases h1
        cases h2
        exact ⟨_, rfl, h⟩
theorem keyAllP {xs : List V} {ds : List PyData} {lo hi : Int} (h : DqAll H xs ds) (ok : ∀ e ∈ ds, isPair lo hi e = true) : KeyAll H xs (ds.map keyOf) := by
  refine ⟨by rw [dqAll_len h, List.length_map], fun i x k hx hk => ?_⟩
  obtain ⟨e, he, hd⟩ := dqAll_at h hx
  rw [List.getElem?_map, he] at hk
  cases hk
  exact key_tupP hd (ok e (List.mem_of_getElem? he))
/-- {pair: True for pair in xs} -/
theorem p_trues {tl : TE} {j : Nat} {vs' : List Nat} {d : PyData} (h : EvP tl σ H (Qe d)) (ok : okPairs d = true) (hs : Short d) (hw : ∀ x, wipe ((wipe σ vs').set j (some x)) vs' = wipe σ vs') (hv : ∀ x, ((wipe σ vs').set j (some x))[j]? = some (some x)) :
    EvP (Dct.tDct (.dT []) (iList K tl) (gName j) tYes (tVar j) (tC (.bl true)) vs') σ H (DtV (onceK (keysOf d))) := fun H1 e Q q => by
  refine h H1 e (fun x H2 => ∃ l, x = .ref l ∧ (∃ xs, SqL K H2 l xs) ∧ _) fun x H2 e2 p => ?_
  match d, ok, hs, p with
  | .list ds, ok, hs, .lst (a := l) (xs := xs) z hl hD =>
    refine ⟨l, rfl, ⟨xs, sq_of hl⟩, ?_⟩
    have all := keyAllP hD fun e he => (List.all_eq_true.mp ok) e he
    have key := p_dct (K := K) (σ := σ) (H := H2) (tl := tC (.ref l)) (j := j) (vs := vs') (Q := Q) ev_c hl all (by have := hs ds rfl; rw [dqAll_len hD]; omega) hw hv fun D H3 hn e3 hd => q (.ref D) H3 (e2.trans e3) ⟨D, rfl, hd⟩
    obtain ⟨l', el, _, body⟩ := key
    cases el
    exact body
end
end Chk
set_option maxHeartbeats 4000000
namespace Chk
open PySem PySem.Spec PyProof.Rows L2 Evl Pd Gd Us Wlk
structure ClsE (K : PySem.W.Frag) (CE : Addr) : Prop where
  cl : Cls K CE
  settings : NoAttr K CE "_settings"
  uses : NoAttr K CE "_uses"
  rules : NoAttr K CE "_rules"
  most : NoAttr K CE "_most"
theorem rightE {p : PtsE} (h : wrongE p = none) : okSets p.settings = true ∧ okUses (keysA p.settings) p.uses = true ∧ okRules p.rules = true ∧ betw 1 3 p.most = true := by
  unfold wrongE at h
  split at h
  · cases h
  split at h
  · cases h
  split at h
  · cases h
  split at h
  · cases h
  rename_i h1 h2 h3 h4
  exact ⟨by simpa using h1, by simpa using h2, by simpa using h3, by simpa using h4⟩
theorem wordK_inr {k : Key} (h : isWordK k = true) : ∃ s : Str, k = .inr s := by
  cases k with
  | inl i => cases h
  | inr s => exact ⟨s, rfl⟩
theorem sets_dct {A : Arg} (h : okSets A = true) : ∃ kvs, A = .dct kvs ∧ kvs.length ≤ 2 ∧ AllR kvs ∧ ∀ p ∈ kvs, ∃ g, p.2 = .set g := by
  cases A with
  | d d => cases h
  | dct kvs =>
    rw [okSets_dct, Bool.and_eq_true, Bool.and_eq_true] at h
    refine ⟨kvs, rfl, of_decide_eq_true h.1, fun p hp => ?_, fun p hp => ?_⟩
    all_goals have := (List.all_eq_true.mp h.2.1) p hp
    all_goals unfold okItem at this
    all_goals rw [Bool.and_eq_true] at this
    · exact wordK_inr this.1
    · cases e : p.2 with
      | set g => exact ⟨g, rfl⟩
      | d _ => rw [e] at this; cases this.2
      | dt _ => rw [e] at this; cases this.2
theorem uses_dct {own : List Key} {A : Arg} (h : okUses own A = true) : ∃ kvs, A = .dct kvs ∧ kvs.length ≤ 2 ∧ AllR kvs ∧ ∀ p ∈ kvs, inT usesT (dataI p.2) = true := by
  cases A with
  | d d => cases h
  | dct kvs =>
    rw [okUses_dct, Bool.and_eq_true] at h
    refine ⟨kvs, rfl, of_decide_eq_true h.1, fun p hp => ?_, fun p hp => ?_⟩
    all_goals have := (List.all_eq_true.mp h.2) p hp
    all_goals unfold okUse at this
    all_goals rw [Bool.and_eq_true, Bool.and_eq_true] at this
    · exact wordK_inr this.1
    · exact this.2.2
theorem rules_dct {A : Arg} (h : okRules A = true) : ∃ kvs, A = .dct kvs ∧ ∀ p ∈ kvs, inT deedsT (keyD p.1) = true ∧ okPairs (dataI p.2) = true := by
  cases A with
  | d d => cases h
  | dct kvs =>
    refine ⟨kvs, rfl, fun p hp => ?_⟩
    have := (List.all_eq_true.mp h) p hp
    unfold okRule at this
    rwa [Bool.and_eq_true] at this
/-- the dicts of its fields are none that stood in H -/
def EndNew (H : Hp) (a : Addr) (H' : Hp) : Prop := ∃ CE dx fs d1 d2 d3, H' a = some (.ins CE dx fs) ∧ fs.lookup ("_settings" : Str) = some (.ref d1) ∧ fs.lookup ("_uses" : Str) = some (.ref d2) ∧ fs.lookup ("_rules" : Str) = some (.ref d3) ∧ H d1 = none ∧ H d2 = none ∧ H d3 = none
def spInitE (K : PySem.W.Frag) (C CE CB : Addr) : Sp := fun vs H Q E => vs.length = 5 ∧ ∃ (a dx : Addr) (x1 x2 x3 x4 : V) (p : PtsE), vs = [.ref a, x1, x2, x3, x4] ∧ H a = some (.ins CE dx []) ∧ ArgsE K C H x1 x2 x3 x4 p ∧
  (∀ t, wrongE p = some t → ∀ d H', Ex H H' → H' d = none → E (.ref CB) (some d) (upd H' d (.xd [("part", V.str t)]))) ∧
  (wrongE p = none → ∀ H', (∀ b o, b ≠ a → H b = some o → H' b = some o) → EndAt K C CE (endOf p) a H' → EndNew H a H' → Q .non H')
abbrev nInitE : List Str := ["self", "settings", "uses", "rules", "most", "part", "word", "deed", "pair"]
theorem scInitE : FnScope nInitE ["self", "settings", "uses", "rules", "most"] (defScope mInitE) := ⟨rfl, rfl, rfl, by decide +kernel, rfl, by decide +kernel, by decide +kernel⟩
/-- {deed: {pair: True for pair in rules[deed]} for deed in rules} -/
theorem p_rulesD {K : PySem.W.Frag} {C : Addr} {kvs : Its'} {vs : List (Key × V)} {σ : L2.St} {H : Hp} {td td2 : TE} {a : Addr} {i j : Nat} {vs1 vs2 : List Nat} (hi : ItemsV K C kvs vs H) (hn : (kvs.map (·.1)).Nodup) (hz : kvs.length ≤ 1000) (hd : H a = some (.dK vs))
    (pl : ∀ p ∈ kvs, ∃ d, p.2 = .d d ∧ okPairs d = true ∧ Short d) (h : ∀ od, Ev td σ (lk H a od vs) (.ref a)) (hw : ∀ x, wipe ((wipe σ vs1).set i (some x)) vs1 = wipe σ vs1) (hv : ∀ x, ((wipe σ vs1).set i (some x))[i]? = some (some x))
    (hw2 : ∀ x y, wipe ((wipe ((wipe σ vs1).set i (some x)) vs2).set j (some y)) vs2 = wipe ((wipe σ vs1).set i (some x)) vs2) (hv2 : ∀ x y, ((wipe ((wipe σ vs1).set i (some x)) vs2).set j (some y))[j]? = some (some y)) (h2 : ∀ od x, Ev td2 ((wipe σ vs1).set i (some x)) (lk H a od vs) (.ref a)) :
    EvP (tLockE (tDc (iKeys td) (gName i) tYes (tVar i) (Dct.tDct (.dT []) (iList K (tDGet td2 (tVar i))) (gName j) tYes (tVar j) (tC (.bl true)) vs2) vs1)) σ H (fun x H' => ∃ D ws, x = .ref D ∧ H D = none ∧ H' D = some (.dK ws) ∧ ItemsV K C (rulesI kvs) ws H') := by
  refine p_lock hd (fun x H2 od hd2 ⟨D, ws, e, nD, hD, hit⟩ => ⟨D, ws, e, nD, ?_, hit.len, fun n k t hk => ?_⟩) fun od => ?_
  · rw [upd_ne (fun z => by rw [z, hd2] at hD; cases hD)]
    exact hD
  · obtain ⟨v, h1, h2⟩ := hit.at_ n k t hk
    refine ⟨v, h1, ?_⟩
    unfold rulesI at hk
    rw [List.getElem?_map] at hk
    obtain ⟨q, _, e⟩ := Option.map_eq_some_iff.mp hk
    cases e
    obtain ⟨t2, et, ht⟩ := h2
    exact ⟨t2, et, by rw [upd_ne (fun z => by rw [z, hd2] at ht; cases ht)]; exact ht⟩
  · have key := p_dcW (σ := σ) (H := lk H a od vs) (tk := tVar i) (tv := Dct.tDct (.dT []) (iList K (tDGet td2 (tVar i))) (gName j) tYes (tVar j) (tC (.bl true)) vs2) (t := tYes) (wi := iKeys td) (g := gName i) (vs := vs1) (fun _ => true) (fun n => ((kvs[n]?).map (·.1)).getD (.inl 0)) (fun n => DtV (onceK (keysOf (dataI (((kvs[n]?).map (·.2)).getD (.d .none)))))) (fun _ => mo_dt) (fun _ => dw_dt)
      (walk_keys (d := a) (o := od) (kvs := vs)) (by rw [hi.len]; omega) (fun m n hm hn' z => ?_) (fun H1 e1 R r => h od H1 e1 _ fun H2 e2 => ⟨a, od, rfl, .inl ⟨vs, (e1.trans e2) _ _ upd_same, r H2 e2⟩⟩) (fun H1 e1 => e1 _ _ upd_same) (fun n x H1 H2 hn' e1 y => ?_)
    · refine key.imp fun x H1 e1 ⟨⟨D, ws, e, hD, pr⟩, D', e', nD⟩ => ⟨D, ws, e, by rw [e] at e'; cases e'; exact (none_un nD).2, hD, ?_⟩
      have ff : (List.range vs.length).filter (fun _ => true) = List.range kvs.length := by rw [hi.len]; simp
      rw [ff] at pr
      refine ⟨by rw [pr.len, List.length_range]; unfold rulesI; rw [List.length_map], fun n k t hk => ?_⟩
      unfold rulesI at hk
      rw [List.getElem?_map] at hk
      obtain ⟨q, hq, e⟩ := Option.map_eq_some_iff.mp hk
      cases e
      have ln := (List.getElem?_eq_some_iff.mp hq).1
      obtain ⟨v, h1, h2⟩ := pr.at_ n n (by rw [List.getElem?_range ln])
      rw [hq] at h1 h2
      exact ⟨v, h1, h2⟩
    · rw [hi.len] at hm hn'
      rw [List.getElem?_eq_getElem hm, List.getElem?_eq_getElem hn'] at z
      exact nodup_at hn (i := m) (j := n) (x := kvs[m].1) (by rw [List.getElem?_map, List.getElem?_eq_getElem hm]; rfl) (by rw [List.getElem?_map, List.getElem?_eq_getElem hn']; exact congrArg some z.symm)
    · obtain ⟨rfl, k, v, hk, rfl⟩ := y
      obtain ⟨t, ht, pv0⟩ := ((hi.lock (od := od) hd).up e1).from hk
      obtain ⟨d, ed, okd, sd⟩ := pl _ (List.mem_of_getElem? ht)
      have ed' : t = .d d := ed
      subst ed'
      refine ⟨Ex.refl _, _, fun k hk => hk, hw _, fun H5 _ Q5 q5 => q5 H5 (Ex.refl _), fun _ => ?_⟩
      rw [ht]
      refine ⟨ev_var (hv _), ?_⟩
      exact p_trues (p_dget (k := k) ((h2 od _).mono e1) (ev_var (hv _)) (.inr ⟨od, e1 _ _ upd_same⟩) (valV_at (by rw [hi.keys]; exact hn) hk) mo_qe pv0) okd sd (hw2 _) (hv2 _)
theorem ItemsV.stay {K : PySem.W.Frag} {C CE a dx : Addr} {kvs : Its'} {vs : List (Key × V)} {H H' : Hp} (ha : H a = some (.ins CE dx [])) (st : ∀ b o, b ≠ a → H b = some o → H' b = some o) (h : ItemsV K C kvs vs H) : ItemsV K C kvs vs H' := ⟨h.len, fun i k t hi => let ⟨v, h1, h2⟩ := h.at_ i k t hi; ⟨v, h1, itm_stay ha st h2⟩⟩
section
variable {P : Program} {w : World} {K : PySem.W.Frag} {mg : Str → Option Value} {base : Heap} {C CE CB fB f : Addr} {fd : FuncData}
theorem ok_initE (F : Fun K "__init__" "End.__init__" mInitE f fd) (EB : Err.ErrC K CB fB "part") (mB : mg "BadEnd" = some (.ref CB)) (T : ClsE K CE) (B : Bc mg) (B2 : Bd mg) (UW : Use P w K mg base 6 "wrong_part_ends" ["settings", "uses", "rules", "most"] (spWrongE K C)) :
    FnOk P w K mg base (L2.CX P w) 7 f fd ["self", "settings", "uses", "rules", "most"] (spInitE K C CE CB) := by
  refine F.okX scInitE (fun vs H Q E h => h.1) (fun cdv A outer s H vs Q E hr h => ?_)
  obtain ⟨_, a, dx, x1, x2, x3, x4, p, rfl, ha, hp, bad, good⟩ := h
  have hu : (A.deeper (envOfC "End.__init__" (defScope mInitE) s.heap.objs.size f cdv)).units + 64 < cLine := by have := hr.un; omega
  have hu1 : (A.deeper (envOfC "End.__init__" (defScope mInitE) s.heap.objs.size f cdv)).units + 1 < cLine := by omega
  have nd := scInitE.nd
  refine ⟨_, pss_cons (ps_set (i := 5) nd rfl (Or.inl rfl) (pe_use UW hr (by decide) (by rfl) (pa_cons (pv 1) (pa_cons (pv 2) (pa_cons (pv 3) (pa_cons (pv 4) pa_nil))))))
    (pss_cons (ps_if (pt_cmpR op_notN (pv 5) pe_non (nomark _)) (pss_one (ps_raise rfl (takes_of rfl rfl rfl rfl) (Err.pmk_err EB pf_part (hr.mono (by decide)) mB (by rfl) (pv 5) (fun _ _ _ _ _ _ _ _ _ _ _ _ _ _ => rfl)))) pss_nil)
    (pss_cons (ps_fld (pv 0) (pe_dc (own := [("word", 6)]) (g := gName 6) (tt := tYes) rfl nd (pi_list (pe_callBK (cr_sortT hu) (by rfl) B2.sorted (by decide +kernel) (pa_cons (pe_callTy (call_listD rfl) (by rfl) B.list boot_list (pa_cons (pv 1) pa_nil)) pa_nil) (pk_cons (pe_bltn (v := .ty "str") (by rfl) B.str boot_str rfl) pk_nil))) (blkOk_by (N := nInitE) (sc := defScope mInitE) (by decide +kernel))
      (fun _ _ _ _ _ => pg_name (i := 6) nd rfl (Or.inl rfl)) (fun _ _ _ _ _ => pts_nil) (fun _ _ _ _ _ => pv 6) (fun _ _ _ _ _ => pe_dget hu1 (pv 1) (pv 6) (fun _ _ => rfl))) rfl)
    (pss_cons (ps_fld (pv 0) (pe_dc (own := [("word", 6)]) (g := gName 6) (tt := tYes) rfl nd (pi_list (pe_callBK (cr_sortT hu) (by rfl) B2.sorted (by decide +kernel) (pa_cons (pe_callTy (call_listD rfl) (by rfl) B.list boot_list (pa_cons (pv 2) pa_nil)) pa_nil) (pk_cons (pe_bltn (v := .ty "str") (by rfl) B.str boot_str rfl) pk_nil))) (blkOk_by (N := nInitE) (sc := defScope mInitE) (by decide +kernel))
      (fun _ _ _ _ _ => pg_name (i := 6) nd rfl (Or.inl rfl)) (fun _ _ _ _ _ => pts_nil) (fun _ _ _ _ _ => pv 6) (fun _ _ _ _ _ => pe_dget hu1 (pv 2) (pv 6) (fun _ _ => rfl))) rfl)
    (pss_cons (ps_fld (pv 0) (pe_lock (pe_dc (own := [("deed", 7)]) (g := gName 7) (tt := tYes) (tv := Dct.tDct (.dT []) (iList K (tDGet (tVar 3) (tVar 7))) (gName 8) tYes (tVar 8) (tC (.bl true)) [8]) rfl nd (pi_keys (pv 3)) (blkOk_by (N := nInitE) (sc := defScope mInitE) (by decide +kernel))
      (fun _ _ _ _ _ => pg_name (i := 7) nd rfl (Or.inl rfl)) (fun _ _ _ _ _ => pts_nil) (fun _ _ _ _ _ => pv 7)
      (fun _ _ _ _ _ => ?inner))) rfl)
    (pss_one (ps_fld (pv 0) (pv 4) rfl)))))), ?_⟩
  case inner =>
    refine Dct.pe_dct (own := [("pair", 8)]) ?i1 ?i2 ?i3 ?i4 ?i5 ?i6 ?i7 ?i8 ?i9 ?i10
    case i1 => exact hu1
    case i2 => exact fun _ _ _ h hb => dt_empty h hb
    case i3 => exact rfl
    case i4 => exact nd
    case i5 => exact pi_list (pe_dget hu1 (pv 3) (pv 7) (fun _ _ => rfl))
    case i6 => exact blkOk_by (N := nInitE) (by rfl)
    case i7 => exact (fun _ _ _ _ _ => pg_name (i := 8) nd rfl (Or.inl rfl))
    case i8 => exact (fun _ _ _ _ _ => pts_nil)
    case i9 => exact (fun _ _ _ _ _ => pv 8)
    case i10 => exact (fun _ _ _ _ _ => pe_bl)
  generalize eW : wrongE p = wp at bad good
  refine q_asg (v := strV wp) (fun H1 e1 Q' q' => ⟨x1, rfl, x2, rfl, x3, rfl, x4, rfl, rfl, x1, x2, x3, x4, p, rfl, hp.up e1, fun H2 e2 => by rw [eW]; exact q' H2 e2⟩) fun H1 e1 => ?_
  have test : EvT (tTest (tOp (fun x y H Q => y = .non ∧ Q (.bl (!decide (x = .non))) H) (tVar 5) (tC .non))) ((L2.start nInitE [.ref a, x1, x2, x3, x4]).set 5 (some (strV wp))) H1 (!decide (strV wp = .non)) :=
    et_test (ev_op (ev_var rfl) ev_c fun H2 _ Q' q' => ⟨rfl, q' H2 (Ex.refl H2)⟩)
  refine q_when test (fun c H2 e2 => ?_) fun c H2 e2 => ?_
  · cases wp with
    | none => simp [strV] at c
    | some t => exact ⟨.str t, rfl, fun d hd => bad t rfl d H2 (e1.trans e2) hd⟩
  cases wp with
  | some t => simp [strV] at c
  | none =>
    have g := good rfl
    obtain ⟨r1, r2, r3, r4⟩ := rightE eW
    obtain ⟨ks, es, lks, rks, sks⟩ := sets_dct r1
    obtain ⟨us, eu, lus, rus, sus⟩ := uses_dct r2
    obtain ⟨rs, er, srs⟩ := rules_dct r3
    have e02 := e1.trans e2
    have h2a : H2 a = some (.ins CE dx []) := e02 _ _ ha
    have s4 : x4 = .int (intOf p.most) := by
      have := hp.most
      rw [betw_int r4] at this
      cases this
      rfl
    have A1 := hp.settings
    rw [es] at A1
    obtain ⟨⟨a1, v1, rfl, ha1, i1⟩, sm1⟩ := A1
    have A2 := hp.uses
    rw [eu] at A2
    obtain ⟨⟨a2, v2, rfl, ha2, i2⟩, sm2⟩ := A2
    have A3 := hp.rules
    rw [er] at A3
    obtain ⟨⟨a3, v3, rfl, ha3, i3⟩, sm3⟩ := A3
    have pl3 : ∀ q ∈ rs, ∃ d, q.2 = .d d ∧ okPairs d = true ∧ Short d := fun q hq => by
      have z := hp.plR
      rw [er] at z
      obtain ⟨d, ed⟩ := z q hq
      have o := (srs q hq).2
      have sm := (sm3.2.1 q hq).2
      rw [ed] at o sm
      exact ⟨d, ed, o, sm.2⟩
    have ne1 : a1 ≠ a := fun z => by
      rw [z] at ha1
      have := ha1.symm.trans ha
      cases this
    have ne2 : a2 ≠ a := fun z => by
      rw [z] at ha2
      have := ha2.symm.trans ha
      cases this
    have ne3 : a3 ≠ a := fun z => by
      rw [z] at ha3
      have := ha3.symm.trans ha
      cases this
    dsimp only [tSeq, sFld]
    refine p_ord (K := K) (C := C) (i := 6) (vs' := [6]) (i1.up e02) sm1.2.2 rks sm1.1 (.inl (e02 _ _ ha1)) (ev_var rfl) (fun _ => rfl) (fun _ => rfl) (fun _ => ev_var rfl) H2 (Ex.refl _) _ fun y H3 e3 ⟨D1, w1, ey, nD1, hD1, o1⟩ => ?_
    subst ey
    refine ⟨.ref a, rfl, a, CE, dx, [], rfl, e3 _ _ h2a, T.cl, T.settings, by decide, ?_⟩
    have nD1a : D1 ≠ a := fun z => by
      rw [z, e3 _ _ h2a] at hD1
      cases hD1
    generalize ef1 : putF "_settings" (V.ref D1) [] = fs1
    have st4 : ∀ b o, b ≠ a → H b = some o → (upd H3 a (.ins CE dx fs1)) b = some o := fun b o hb h => by
      rw [upd_ne hb]
      exact e3 _ _ (e02 _ _ h)
    refine p_ord (K := K) (C := C) (i := 6) (vs' := [6]) (i2.stay ha st4) sm2.2.2 rus sm2.1 (.inl (st4 _ _ ne2 ha2)) (ev_var rfl) (fun _ => rfl) (fun _ => rfl) (fun _ => ev_var rfl) _ (Ex.refl _) _ fun y H5 e5 ⟨D2, w2, ey, nD2, hD2, o2⟩ => ?_
    subst ey
    have h5a := e5 _ _ (upd_same (a := a))
    have l1 : fs1.length ≤ 1 := by rw [← ef1]; exact putF_len _ _ _
    refine ⟨.ref a, rfl, a, CE, dx, fs1, rfl, h5a, T.cl, T.uses, by omega, ?_⟩
    have nD2a : D2 ≠ a := fun z => by
      rw [z, h5a] at hD2
      cases hD2
    generalize ef2 : putF "_uses" (V.ref D2) fs1 = fs2
    have l2 : fs2.length ≤ 2 := by rw [← ef2]; have := putF_len "_uses" (V.ref D2) fs1; omega
    have st6 : ∀ b o, b ≠ a → H b = some o → (upd H5 a (.ins CE dx fs2)) b = some o := fun b o hb h => by
      rw [upd_ne hb]
      exact e5 _ _ (st4 b o hb h)
    refine p_rulesD (K := K) (C := C) (i := 7) (j := 8) (vs1 := [7]) (vs2 := [8]) (i3.stay ha st6) sm3.2.2 sm3.1 (st6 _ _ ne3 ha3) pl3 (fun _ => ev_var rfl) (fun _ => rfl) (fun _ => rfl) (fun _ _ => rfl) (fun _ _ => rfl) (fun _ _ => ev_var rfl) _ (Ex.refl _) _ fun y H7 e7 ⟨D3, w3, ey, nD3, hD3, it3⟩ => ?_
    subst ey
    have h7a := e7 _ _ (upd_same (a := a))
    refine ⟨.ref a, rfl, a, CE, dx, fs2, rfl, h7a, T.cl, T.rules, by omega, ?_⟩
    have nD3a : D3 ≠ a := fun z => by
      rw [z, h7a] at hD3
      cases hD3
    generalize ef3 : putF "_rules" (V.ref D3) fs2 = fs3
    have l3 : fs3.length ≤ 3 := by rw [← ef3]; have := putF_len "_rules" (V.ref D3) fs2; omega
    refine ⟨x4, rfl, .ref a, rfl, a, CE, dx, fs3, rfl, upd_same, T.cl, T.most, by omega, ?_⟩
    rw [upd_upd]
    have st9 : ∀ b o, b ≠ a → H b = some o → (upd H7 a (.ins CE dx (putF "_most" x4 fs3))) b = some o := fun b o hb h => by
      rw [upd_ne hb]
      exact e7 _ _ (st6 b o hb h)
    have up5 : ∀ {b o}, b ≠ a → H3 b = some o → H5 b = some o := fun {b o} hb h => e5 _ _ (by rw [upd_ne hb]; exact h)
    have up7 : ∀ {b o}, b ≠ a → H5 b = some o → H7 b = some o := fun {b o} hb h => e7 _ _ (by rw [upd_ne hb]; exact h)
    have l1' : ((putF "_most" x4 fs3).lookup ("_settings" : Str) = some (.ref D1) ∧ (putF "_most" x4 fs3).lookup ("_uses" : Str) = some (.ref D2)) ∧ (putF "_most" x4 fs3).lookup ("_rules" : Str) = some (.ref D3) := by
      rw [← ef3, ← ef2, ← ef1]
      exact ⟨⟨rfl, rfl⟩, rfl⟩
    have back : ∀ {b : Addr} {Hx : Hp}, b ≠ a → (∀ o, H b = some o → Hx b = some o) → Hx b = none → H b = none := fun {b Hx} _ st hx => by
      cases hb : H b with
      | none => rfl
      | some o =>
        rw [st o hb] at hx
        cases hx
    refine g _ st9 ⟨dx, _, D1, D2, D3, w1, w2, w3, upd_same, ?_, ?_, ?_, ?_, ?_, ?_, ?_, ?_, ?_, ?_, ?_⟩ ⟨CE, dx, _, D1, D2, D3, upd_same, l1'.1.1, l1'.1.2, l1'.2, back nD1a (fun o h => e02 _ _ h) nD1, back nD2a (fun o h => st4 _ o nD2a h) nD2, back nD3a (fun o h => st6 _ o nD3a h) nD3⟩
    · rw [upd_ne nD1a]
      exact up7 nD1a (up5 nD1a hD1)
    · rw [upd_ne nD2a]
      exact up7 nD2a hD2
    · rw [upd_ne nD3a]
      exact hD3
    · show ItemsV K C (ordI (itemsA p.settings)) w1 _
      rw [es]
      exact o1.items i1 sm1.2.2 rks fun t v h => itm_stay ha st9 h
    · show ItemsV K C (ordI (itemsA p.uses)) w2 _
      rw [eu]
      exact o2.items i2 sm2.2.2 rus fun t v h => itm_stay ha st9 h
    · show ItemsV K C (rulesI (itemsA p.rules)) w3 _
      rw [er]
      refine ⟨it3.len, fun i k t hk => ?_⟩
      obtain ⟨v, h1, h2⟩ := it3.at_ i k t hk
      refine ⟨v, h1, ?_⟩
      unfold rulesI at hk
      rw [List.getElem?_map] at hk
      obtain ⟨q, _, e⟩ := Option.map_eq_some_iff.mp hk
      cases e
      obtain ⟨t2, et, ht⟩ := h2
      exact ⟨t2, et, by rw [upd_ne (fun z => by rw [z, h7a] at ht; cases ht)]; exact ht⟩
    all_goals rw [← ef3, ← ef2, ← ef1]
    · rfl
    · rfl
    · rfl
    · rw [s4]
      rfl
    · intro m hm
      unfold methodsE at hm
      simp only [List.mem_cons, List.not_mem_nil, or_false] at hm
      rcases hm with rfl | rfl | rfl | rfl | rfl | rfl | rfl
      all_goals rfl
end
end Chk
set_option maxHeartbeats 4000000
/-! What is so of every end. -/
namespace Chk
open PySem PySem.Spec PyProof.Rows L2 Evl Pd Gd Us Wlk
def ksOf : Itm → List (List Key)
  | .dt ks => ks
  | _ => []
def OkPair (k : List Key) : Prop := ∃ i j : Int, k = [.inl i, .inl j] ∧ 0 ≤ i ∧ i ≤ 3 ∧ 0 ≤ j ∧ j ≤ 3
/-- a rule: a deed, and pairs, each once -/
structure OkRul (p : Key × Itm) : Prop where
  deed : ∃ s : Str, p.1 = .inr s ∧ s ∈ deedsT
  pairs : ∃ ks, p.2 = .dt ks ∧ ks.length ≤ 30000 ∧ (∀ k ∈ ks, OkPair k) ∧ ks.Nodup
structure Neat (e : Eg) : Prop where
  own : okSets (.dct e.own) = true
  uses : okUses (e.own.map (·.1)) (.dct e.uses) = true
  rules : ∀ p ∈ e.rules, OkRul p
  most : 1 ≤ e.most ∧ e.most ≤ 3
  so : Small e.own
  su : Small e.uses
  pu : PlainA (.dct e.uses)
  nr : (e.rules.map (·.1)).Nodup
  lr : e.rules.length ≤ 1000
/-! ### ordI is a permutation -/
theorem ord_perm {kvs : Its'} (hn : (kvs.map (·.1)).Nodup) (hr : AllR kvs) : (ordI kvs).Perm kvs := by
  have e : (kvs.map fun p => keyS p.1).map (fun w => ((Sum.inr w : Key), itemAt kvs (.inr w))) = kvs := by
    rw [List.map_map]
    refine List.ext_getElem? fun i => ?_
    rw [List.getElem?_map]
    cases h : kvs[i]? with
    | none => rfl
    | some p =>
      obtain ⟨s, es⟩ := hr p (List.mem_of_getElem? h)
      have h' : kvs[i]? = some (.inr s, p.2) := by rw [h, ← es]
      show some ((Sum.inr (keyS p.1) : Key), itemAt kvs (.inr (keyS p.1))) = some p
      rw [es]
      show some ((Sum.inr s : Key), itemAt kvs (.inr s)) = some p
      rw [item_at hn h', ← es]
  have := (sortS_perm (kvs.map fun p => keyS p.1)).map (fun w => ((Sum.inr w : Key), itemAt kvs (.inr w)))
  rw [e] at this
  exact this
theorem rooms_filter (kvs : Its') : roomsOf kvs = (kvs.filter fun p => roomI p.2).length := by
  have : ∀ l : Its', ((List.range l.length).filter fun i => (l[i]?).elim false fun p => roomI p.2).length = (l.filter fun p => roomI p.2).length := by
    intro l
    induction l with
    | nil => rfl
    | cons p r ih =>
      rw [List.length_cons, List.range_succ_eq_map, List.filter_cons, List.filter_map, List.filter_cons]
      have e : ((fun i => ((p :: r)[i]?).elim false fun p => roomI p.2) ∘ Nat.succ) = fun i => (r[i]?).elim false fun p => roomI p.2 := rfl
      rw [e]
      show (if roomI p.2 = true then _ else _ : List Nat).length = _
      by_cases h : roomI p.2 = true
      · rw [if_pos h, if_pos h, List.length_cons, List.length_cons, List.length_map, ih]
      · rw [if_neg h, if_neg h, List.length_map, ih]
  exact this kvs
theorem all_perm {α : Type} {f : α → Bool} {l m : List α} (h : l.Perm m) : l.all f = m.all f := by
  rw [Bool.eq_iff_iff, List.all_eq_true, List.all_eq_true]
  exact ⟨fun z x hx => z x (h.mem_iff.mpr hx), fun z x hx => z x (h.mem_iff.mp hx)⟩
theorem sets_perm {l m : Its'} (h : l.Perm m) : okSets (.dct l) = okSets (.dct m) := by
  rw [okSets_dct, okSets_dct, all_perm h, rooms_filter, rooms_filter, h.length_eq, (h.filter _).length_eq]
theorem use_perm {own own' : List Key} (h : own.Perm own') (p : Key × Itm) : okUse own p = okUse own' p := by
  have : (own.any fun k => decide (k = p.1)) = own'.any fun k => decide (k = p.1) := by
    rw [Bool.eq_iff_iff, List.any_eq_true, List.any_eq_true]
    exact ⟨fun ⟨x, hx, e⟩ => ⟨x, h.mem_iff.mp hx, e⟩, fun ⟨x, hx, e⟩ => ⟨x, h.mem_iff.mpr hx, e⟩⟩
  unfold okUse
  rw [this]
theorem uses_perm {own own' : List Key} {l m : Its'} (h0 : own.Perm own') (h : l.Perm m) : okUses own (.dct l) = okUses own' (.dct m) := by
  rw [okUses_dct, okUses_dct, h.length_eq, all_perm h, show okUse own = okUse own' from funext (use_perm h0)]
theorem small_perm {l m : Its'} (h : l.Perm m) (s : Small m) : Small l := ⟨by rw [h.length_eq]; exact s.1, fun p hp => s.2.1 p (h.mem_iff.mp hp), ((h.map (·.1)).nodup_iff).mpr s.2.2⟩
theorem once_nodup (l : List (List Key)) : (onceK l).Nodup := by
  have : ∀ (l acc : List (List Key)), acc.Nodup → (l.foldl addK acc).Nodup := by
    intro l
    induction l with
    | nil => exact fun _ h => h
    | cons k l ih =>
      intro acc h
      refine ih _ ?_
      unfold addK
      split
      · exact h
      · rename_i no
        refine List.nodup_append.mpr ⟨h, by simp, fun a ha b hb => ?_⟩
        rw [List.mem_singleton.mp hb]
        rintro rfl
        exact no (List.any_eq_true.mpr ⟨a, ha, by simp⟩)
  exact this l [] List.nodup_nil
theorem once_mem {l : List (List Key)} {k : List Key} : k ∈ onceK l ↔ k ∈ l := by
  have : ∀ (l acc : List (List Key)), k ∈ l.foldl addK acc ↔ k ∈ acc ∨ k ∈ l := by
    intro l
    induction l with
    | nil => intro acc; simp
    | cons j l ih =>
      intro acc
      rw [List.foldl_cons, ih, List.mem_cons]
      have : k ∈ addK acc j ↔ k ∈ acc ∨ k = j := by
        unfold addK
        split
        · rename_i yes
          obtain ⟨x, hx, e⟩ := List.any_eq_true.mp yes
          have : x = j := of_decide_eq_true e
          exact ⟨.inl, fun h => h.elim id fun z => by rw [z, ← this]; exact hx⟩
        · rw [List.mem_append, List.mem_singleton]
      rw [this]
      exact or_assoc
  simpa [onceK] using this l []
theorem once_of_nodup {l : List (List Key)} (h : l.Nodup) : onceK l = l := by
  have : ∀ (l acc : List (List Key)), (acc ++ l).Nodup → l.foldl addK acc = acc ++ l := by
    intro l
    induction l with
    | nil => intro acc _; simp
    | cons k l ih =>
      intro acc h
      have no : ¬ (acc.any fun x => decide (x = k)) = true := fun z => by
        obtain ⟨x, hx, e⟩ := List.any_eq_true.mp z
        have e' : x = k := of_decide_eq_true e
        exact (List.nodup_append.mp h).2.2 x hx k (by simp) e'
      rw [List.foldl_cons]
      have : addK acc k = acc ++ [k] := by
        unfold addK
        rw [if_neg no]
      rw [this, ih _ (by simpa using h)]
      simp
  have := this l [] (by simpa using h)
  simpa [onceK] using this
theorem pair_key {d : PyData} (h : isPair 0 3 d = true) : OkPair (keyOf d) := by
  obtain ⟨i, j, rfl⟩ := isPair_ints h
  simp [isPair, betw] at h
  exact ⟨i, j, rfl, h.1.1, h.1.2, h.2.1, h.2.2⟩
theorem keys_ok {d : PyData} (h : okPairs d = true) (hs : Short d) : (∀ k ∈ onceK (keysOf d), OkPair k) ∧ (onceK (keysOf d)).length ≤ 30000 := by
  cases d with
  | list ds =>
    refine ⟨fun k hk => ?_, Nat.le_trans (once_len _) ?_⟩
    · obtain ⟨e, he, rfl⟩ := List.mem_map.mp (once_mem.mp hk)
      exact pair_key ((List.all_eq_true.mp h) e he)
    · show (ds.map keyOf).length ≤ 30000
      rw [List.length_map]
      exact hs ds rfl
  | _ => cases h
theorem inT_mem {xs : List Str} {s : Str} (h : inT xs (.str s) = true) : s ∈ xs := by
  unfold inT at h
  obtain ⟨y, hy, e⟩ := List.any_eq_true.mp h
  have : y = s := by simpa using e
  rw [← this]
  exact hy
/-- what was let through makes such an end -/
theorem neat_of {p : PtsE} (h : wrongE p = none) (pu : PlainA p.uses) (pr : PlainA p.rules) (s1 : Small (itemsA p.settings)) (s2 : Small (itemsA p.uses)) (s3 : Small (itemsA p.rules)) : Neat (endOf p) := by
  obtain ⟨r1, r2, r3, r4⟩ := rightE h
  obtain ⟨ks, es, lks, rks, sks⟩ := sets_dct r1
  obtain ⟨us, eu, lus, rus, sus⟩ := uses_dct r2
  obtain ⟨rs, er, srs⟩ := rules_dct r3
  unfold endOf
  rw [es] at r1 s1 r2
  rw [eu] at r2 s2 pu
  rw [er] at s3 pr
  rw [es, eu, er]
  have p1 : (ordI ks).Perm ks := ord_perm s1.2.2 rks
  have p2 : (ordI us).Perm us := ord_perm s2.2.2 rus
  refine ⟨by rw [← r1]; exact sets_perm p1, ?_, fun q hq => ?_, ?_, small_perm p1 s1, small_perm p2 s2, fun q hq => pu q (p2.mem_iff.mp hq), ?_, ?_⟩
  · rw [← r2]
    exact uses_perm (p1.map _) p2
  · obtain ⟨q0, h0, rfl⟩ := List.mem_map.mp hq
    obtain ⟨a1, a2⟩ := srs q0 h0
    obtain ⟨d, ed⟩ := pr q0 h0
    have sd := (s3.2.1 q0 h0).2
    rw [ed] at sd a2
    refine ⟨?_, _, rfl, ?_⟩
    · cases e : q0.1 with
      | inl i => rw [e] at a1; cases a1
      | inr s => rw [e] at a1; exact ⟨s, rfl, inT_mem a1⟩
    · show (onceK (keysOf (dataI q0.2))).length ≤ 30000 ∧ _ ∧ (onceK (keysOf (dataI q0.2))).Nodup
      rw [ed]
      have := keys_ok a2 sd.2
      exact ⟨this.2, this.1, once_nodup _⟩
  · have := r4
    unfold betw at this
    cases e : p.most with
    | int i => rw [e] at this; simp at this; exact this
    | _ => rw [e] at this; cases this
  · show ((rulesI rs).map (·.1)).Nodup
    unfold rulesI
    rw [List.map_map]
    exact s3.2.2
  · show (rulesI rs).length ≤ 1000
    unfold rulesI
    rw [List.length_map]
    exact s3.1
end Chk
set_option maxHeartbeats 4000000
/-! An end's methods: most, words, pairs. -/
namespace L2
open PySem PySem.Spec PyProof.Rows
theorem swD_true {kx vx : Expr} {gs : List Comprehension} {scope : Scope} {pos py : Pos} {y : Str} {l : Nat} {env : Env} (hk : env.scope.kind = .function) (hy : env.scope.names.lookup y = some .local) (hl : (py.line == pos.line) = true)
    (ha : (scope.names.any fun (n, k) => n == y && (k == .local || k == .cell)) = false) : swapsWith (.DictComp kx vx gs scope pos) (some (.Name y py)) l env = pure true := by
  have a : env.kindOf y = some .local := hy
  have b : env.blockKind = .function := by unfold Env.blockKind; rw [hk]; rfl
  unfold swapsWith
  simp only [b, a, ha, Expr.pos, hl]
  rfl
section
variable {X : Cx}
/-- name = {k: v for ..} on one line, the name a local -/
theorem ps_setDc {i : Nat} {y : Str} {py : Pos} {kx vx tg iter : Expr} {ifs : List Expr} {scope : Scope} {own : List (Str × Nat)} {pos spos : Pos} {wi : TI} {g : TG} {tt : TT} {tk tv : TE} (hc : X.calm = true) (hN : X.N.Nodup) (hy : X.N[i]? = some y) (hyl : X.env.scope.names.lookup y = some .local)
    (hsw : swapsWith (.DictComp kx vx [⟨tg, iter, ifs, 0⟩] scope pos) (some (.Name y py)) spos.line X.env = pure true) (hi : PI X tg iter wi) (ok : BlkOk X.N X.env.scope scope own)
    (hg : ∀ (s : Shared) (H : Hp) (C : Addr) (cl : List (Str × Addr)) (fp : List Addr), PG (X.blk s H scope (compEnvC scope cl C X.env) fp) tg g) (ht : ∀ (s : Shared) (H : Hp) (C : Addr) (cl : List (Str × Addr)) (fp : List Addr), PTs (X.blk s H scope (compEnvC scope cl C X.env) fp) ifs tt)
    (hk : ∀ (s : Shared) (H : Hp) (C : Addr) (cl : List (Str × Addr)) (fp : List Addr), PE (X.blk s H scope (compEnvC scope cl C X.env) fp) kx tk)
    (he : ∀ (s : Shared) (H : Hp) (C : Addr) (cl : List (Str × Addr)) (fp : List Addr), PE (X.blk s H scope (compEnvC scope cl C X.env) fp) vx tv) (hs : ∀ x, foldedSetIterable iter X.env x = pure x := by intro _; rfl) :
    PS X (.Assign [.Name y py] (.DictComp kx vx [⟨tg, iter, ifs, 0⟩] scope pos) spos) (tAsg (tDc wi g tt tk tv (own.map (·.2))) (gName i)) := by
  refine ⟨fun pins s σ H D I h => ?_⟩
  rw [exec_Assign_Name_used _ _ _ _ hsw]
  refine wpAny_bind (wpAny_standAt (wpAny_bind ?_))
  show wpAny _ X.A (do let _ ← comprehension (.DictComp kx vx [⟨tg, iter, ifs, 0⟩] scope pos) scope X.env (firstIterPos [⟨tg, iter, ifs, 0⟩] pos) newDict false (eval iter X.env) (some (assign (.Name y py) X.env))) _ _ s
  have h : tDc wi g tt tk tv (own.map (·.2)) σ H (fun x H1 => gName i x σ H1 D.nx) := h
  refine wpAny_bind (thn (dc_core (Qf := fun _ s' => SP X pins D .next s') hc hN I hi ok hg ht hk he hs h fun L C s' m H' I' q hn f => ?_) fun _ s' hq => wpAny_pure (wpAny_pure hq))
  show wpAny _ _ (assign (.Name y py) X.env (.ref L)) _ _ _
  refine wpAny_assign_Name (store_ok2 (v := V.ref L) I' hN hy (.inl hyl) rfl (fun s2 I2 ⟨a, sb, ha⟩ => ?_) (.inr hyl))
  obtain ⟨f0, f1, f2, f3, f4, f5⟩ := f
  have haC : C ≠ a := by
    rcases ha with z | z
    · rw [z]; exact f1
    · exact fun e => f4 y a z e.symm
  refine ⟨m, hn.sameBut sb haC, fun h3 sb3 => ?_⟩
  exact ⟨_, H', I2.turned (t' := s2.toks) (fun b o hb e => (sb3.2 b hb).trans e) f0 f1 f3 f4 f5, q⟩
end
end L2
namespace Chk
open PySem PySem.Spec PyProof.Rows L2 Evl Pd Gd Us Wlk
abbrev mMost : Stmt := Tp.m_End_most
abbrev mWords : Stmt := Tp.m_End_words
abbrev mPairs : Stmt := Tp.m_End_pairs
abbrev mWith : Stmt := Tp.m_End_with_pairs
abbrev mEqE : Stmt := Tp.m_End___eq__
theorem pf_value : Err.Plain "value" := ⟨by decide +kernel, by decide +kernel⟩
/-- the rules alone, also while they are walked -/
structure RulAt (K : PySem.W.Frag) (C CE : Addr) (rs : Its') (a : Addr) (H : Hp) : Prop where
  ex : ∃ (dx : Addr) (fs : List (Str × V)) (d3 : Addr) (v3 : List (Key × V)), H a = some (.ins CE dx fs) ∧ Rd H d3 (.dK v3) ∧ ItemsV K C rs v3 H ∧ fs.lookup ("_rules" : Str) = some (.ref d3) ∧ fs.lookup ("pairs" : Str) = none ∧ fs.lookup ("lets" : Str) = none
def RulV (K : PySem.W.Frag) (C CE : Addr) (rs : Its') : PV := fun x H => ∃ a, x = .ref a ∧ RulAt K C CE rs a H
theorem RulAt.up {K : PySem.W.Frag} {C CE : Addr} {rs : Its'} {a : Addr} {H H' : Hp} (h : RulAt K C CE rs a H) (x : Ex H H') : RulAt K C CE rs a H' := by
  obtain ⟨dx, fs, d3, v3, h0, h3, i3, r⟩ := h.ex
  exact ⟨dx, fs, d3, v3, x _ _ h0, ex_rd x h3, i3.up x, r⟩
theorem mo_rul {K : PySem.W.Frag} {C CE : Addr} {rs : Its'} : Mo (RulV K C CE rs) := fun _ _ _ x ⟨a, h1, h2⟩ => ⟨a, h1, h2.up x⟩
theorem EndAt.rul {K : PySem.W.Frag} {C CE : Addr} {e : Eg} {a : Addr} {H : Hp} (h : EndAt K C CE e a H) : RulAt K C CE e.rules a H := by
  obtain ⟨dx, fs, d1, d2, d3, v1, v2, v3, h0, h1, h2, h3, i1, i2, i3, f1, f2, f3, f4, fm⟩ := h.ex
  exact ⟨dx, fs, d3, v3, h0, .inl h3, i3, f3, fm _ (by decide), fm _ (by decide)⟩
theorem lk_rul {K : PySem.W.Frag} {C CE : Addr} {rs : Its'} : Lk (RulV K C CE rs) := fun x H d kvs od hd ⟨a, ex, h⟩ => by
  obtain ⟨dx, fs, d3, v3, h0, h3, i3, r⟩ := h.ex
  exact ⟨a, ex, dx, fs, d3, v3, at_lock hd h0 (fun _ z => nomatch z), rd_lock hd h3 (fun _ _ z => nomatch z), i3.lock hd, r⟩
/-- the pairs of a deed -/
def pairsOf (rs : Its') (s : Str) : Option (List (List Key)) := (rs.find? fun p => decide (p.1 = .inr s)).map fun p => ksOf p.2
def PairsV (H0 : Hp) : Option (List (List Key)) → PV
  | none => Is .non
  | some ks => fun y H => (∃ r, y = .ref r ∧ H0 r = none) ∧ Qe (.list (sortD (ks.map pairD))) y H
def spCheck (CD : Addr) : Sp := fun vs H Q E => vs.length = 1 ∧ ∃ x d, vs = [x] ∧ Dq H x d ∧ (inT deedsT d = true → ∀ H', Ex H H' → Q .non H') ∧ (inT deedsT d = false → ∀ e H', Ex H H' → H' e = none → E (.ref CD) (some e) (upd H' e (.xd [("value", x)])))
def spPairs (K : PySem.W.Frag) (C CE CD : Addr) : Sp := fun vs H Q E => vs.length = 2 ∧ ∃ x y d rs, vs = [x, y] ∧ RulV K C CE rs x H ∧ (rs.map (·.1)).Nodup ∧ (∀ p ∈ rs, OkRul p) ∧ Dq H y d ∧
  (∀ s, d = .str s → inT deedsT d = true → ∀ z H', Ex H H' → PairsV H (pairsOf rs s) z H' → Q z H') ∧ (inT deedsT d = false → ∀ e H', Ex H H' → H' e = none → E (.ref CD) (some e) (upd H' e (.xd [("value", y)])))
def spWords (K : PySem.W.Frag) (C CE : Addr) : Sp := fun vs H Q _ => vs.length = 1 ∧ ∃ a e, vs = [.ref a] ∧ EndAt K C CE e a H ∧ Small e.own ∧ ∀ y H', Ex H H' → (∃ r, y = .ref r ∧ H r = none) → Qe (.list (e.own.map fun p => keyD p.1)) y H' → Q y H'
theorem scCheck : FnScope ["deed"] ["deed"] (defScope sCheckDeed) := ⟨rfl, rfl, rfl, by decide +kernel, rfl, by decide +kernel, by decide +kernel⟩
theorem scMost : FnScope ["self"] ["self"] (defScope mMost) := ⟨rfl, rfl, rfl, by decide +kernel, rfl, by decide +kernel, by decide +kernel⟩
theorem scWords : FnScope ["self"] ["self"] (defScope mWords) := ⟨rfl, rfl, rfl, by decide +kernel, rfl, by decide +kernel, by decide +kernel⟩
theorem scPairsE : FnScope ["self", "deed"] ["self", "deed"] (defScope mPairs) := ⟨rfl, rfl, rfl, by decide +kernel, rfl, by decide +kernel, by decide +kernel⟩
theorem showy_pair {k : List Key} (h : OkPair k) : Showy (pairD k) := by
  obtain ⟨i, j, rfl, h1, h2, h3, h4⟩ := h
  have hi : i = 0 ∨ i = 1 ∨ i = 2 ∨ i = 3 := by omega
  have hj : j = 0 ∨ j = 1 ∨ j = 2 ∨ j = 3 := by omega
  rcases hi with rfl | rfl | rfl | rfl <;> rcases hj with rfl | rfl | rfl | rfl <;> exact .inr ⟨⟨_, rfl⟩, by decide +kernel, by decide +kernel, by decide +kernel, by decide +kernel⟩
theorem find_keys {kvs : Its'} {k : Key} {t : Itm} {i : Nat} (hn : (kvs.map (·.1)).Nodup) (h : kvs[i]? = some (k, t)) : kvs.find? (fun p => decide (p.1 = k)) = some (k, t) := by
  rw [List.find?_eq_some_iff_getElem]
  obtain ⟨l1, e1⟩ := List.getElem?_eq_some_iff.mp h
  refine ⟨by simp, i, l1, e1, fun j hj => ?_⟩
  have lj : j < kvs.length := by omega
  have : kvs[j].1 ≠ k := fun z => by
    have := nodup_at hn (i := j) (j := i) (x := k) (by rw [List.getElem?_map, List.getElem?_eq_getElem lj, Option.map_some, z]) (by rw [List.getElem?_map, h]; rfl)
    omega
  simpa using this
section
variable {K : PySem.W.Frag} {C : Addr} {kvs : Its'} {vs : List (Key × V)} {H : Hp}
/-- what stands at a key, both ways -/
theorem ItemsV.get (h : ItemsV K C kvs vs H) (hn : (kvs.map (·.1)).Nodup) (k : Key) : (valV vs k = none ∧ kvs.find? (fun p => decide (p.1 = k)) = none) ∨ ∃ v t, valV vs k = some v ∧ kvs.find? (fun p => decide (p.1 = k)) = some (k, t) ∧ ItmV K C t v H := by
  cases e : kvs.find? (fun p => decide (p.1 = k)) with
  | none =>
    refine .inl ⟨?_, rfl⟩
    cases ev : valV vs k with
    | none => rfl
    | some v =>
      exfalso
      have a : (vs.any fun kv => decide (kv.1 = k)) = true := by rw [valV_any, ev]; rfl
      obtain ⟨p, hp, ek⟩ := List.any_eq_true.mp a
      obtain ⟨i, hi, rfl⟩ := List.getElem_of_mem hp
      have e2 : vs[i]? = some (vs[i].1, vs[i].2) := List.getElem?_eq_getElem hi
      obtain ⟨t, ht, _⟩ := h.from e2
      have := (List.find?_eq_none.mp e) _ (List.mem_of_getElem? ht)
      exact this ek
  | some p =>
    have hm := List.mem_of_find?_eq_some e
    have ek : p.1 = k := by simpa using List.find?_some e
    obtain ⟨i, hi, rfl⟩ := List.getElem_of_mem hm
    have e2 : kvs[i]? = some (k, kvs[i].2) := by rw [List.getElem?_eq_getElem hi, ← ek]
    obtain ⟨v, h1, h2⟩ := h.at_ i k _ e2
    exact .inr ⟨v, kvs[i].2, valV_at (by rw [h.keys]; exact hn) h1, by rw [← ek], h2⟩
end
section
variable {P : Program} {w : World} {K : PySem.W.Frag} {mg : Str → Option Value} {base : Heap} {C CE CD fD f : Addr} {fd : FuncData}
theorem ok_check (D : Dn K mg "check_deed" sCheckDeed) (TD : TxG K mg "DEEDS" deedsT) (ED : Err.ErrC K CD fD "value") (mD : mg "BadDeed" = some (.ref CD)) (UO : Use P w K mg base 1 "is_one_of" ["value", "texts"] (spAsk K 2 (rOneOf K))) : UseX P w K mg base 2 "check_deed" ["deed"] (spCheck CD) := by
  refine useX_of D scCheck (fun f fd F => F.binds (ps := ["deed"]) fun _ _ _ _ _ _ us hl => match us, hl with | [_], _ => rfl) (fun vs H Q E h => h.1) (fun f cdv A outer s H vs Q E hr h => ?_)
  obtain ⟨_, x, d, rfl, hd, good, bad⟩ := h
  obtain ⟨pU, mU, hU⟩ := TD
  refine ⟨_, pss_one (ps_if (pt_not (pt_val (pe_use UO hr (by decide) (by rfl) (pa_cons (pv 0) (pa_cons (pe_gref (by rfl) mU) pa_nil))))) (pss_one (ps_raise rfl (takes_of rfl rfl rfl rfl) (Err.pmk_err ED pf_value (hr.mono (by decide)) mD (by rfl) (pv 0) (fun _ _ _ _ _ _ _ _ _ _ _ _ _ _ => rfl)))) pss_nil), ?_⟩
  refine s_when (et_not (et_B (ev_oneG hU (p_var rfl mo_de (dq_dp hd))))) (fun c H1 e1 => ?_) fun c H1 e1 => ?_
  · exact ⟨x, rfl, fun e he => bad (by simpa using c) e H1 e1 he⟩
  · exact good (by simpa using c) H1 e1
theorem ok_words (F : Fun K "words" "End.words" mWords f fd) (T : ClsE K CE) (B : Bc mg) : FnOk P w K mg base CX0 1 f fd ["self"] (spWords K C CE) := by
  refine F.ok scWords (fun vs H Q E h => h.1) (fun cdv A outer s H vs Q E hr h => ?_)
  obtain ⟨_, a, e, rfl, he, sm, q⟩ := h
  refine ⟨_, pss_one (ps_ret (pe_callTy (call_listD rfl) (by rfl) B.list boot_list (pa_cons (pe_fld (pv 0) rfl) pa_nil))), ?_⟩
  obtain ⟨dx, fs, d1, d2, d3, v1, v2, v3, h0, h1, h2, h3, i1, i2, i3, f1, f2, f3, f4, fm⟩ := he.ex
  refine ⟨.ref a, rfl, a, CE, dx, fs, .ref d1, rfl, h0, T.cl, T.settings, f1, d1, v1, rfl, .inl h1, fun p hp => q _ _ (Ex.new hp) ⟨p, rfl, hp⟩ (.lst (by rw [List.length_map, i1.len]; have := sm.1; omega) upd_same ?_)⟩
  have e1 : (v1.map fun kv => kV kv.1) = (e.own.map fun p => kV p.1) := by
    have := congrArg (List.map kV) i1.keys
    rwa [List.map_map, List.map_map] at this
  rw [e1]
  have : ∀ l : Its', DqAll (upd H p (.lst (e.own.map fun p => kV p.1))) (l.map fun p => kV p.1) (l.map fun p => keyD p.1) := by
    intro l
    induction l with
    | nil => exact .nil
    | cons p r ih =>
      refine .cons ?_ ih
      show Dq _ (kV p.1) (keyD p.1)
      cases p.1 with
      | inl i => exact .int i
      | inr s => exact .str s
  exact this e.own
theorem ok_pairsE (F : Fun K "pairs" "End.pairs" mPairs f fd) (T : ClsE K CE) (B : Bc mg) (B2 : Bd mg) (UC : UseX P w K mg base 2 "check_deed" ["deed"] (spCheck CD)) : FnG P w K mg base (L2.CX P w) 3 f fd ["self", "deed"] (spPairs K C CE CD) := by
  refine okGX F scPairsE (fun vs H Q E h => h.1) (fun cdv A outer s H vs Q E hr hg h => ?_)
  obtain ⟨_, x, y, d, rs, rfl, ⟨a, rfl, hra⟩, nr, okr, hd, good, bad⟩ := h
  have hu : (A.deeper (envOfC "End.pairs" (defScope mPairs) s.heap.objs.size f cdv)).units + 64 < cLine := by have := hr.un; omega
  have hu1 : (A.deeper (envOfC "End.pairs" (defScope mPairs) s.heap.objs.size f cdv)).units + 1 < cLine := by omega
  refine ⟨_, pss_cons (ps_expr (pe_useX (E := E) UC hr (by decide) (by rfl) (passes_call (takes_of rfl rfl rfl rfl) fun _ _ _ _ h => h) (pa_cons (pv 1) pa_nil)))
    (pss_cons (ps_if (pt_cmp (pc_dnotin hu1 (pv 1) (pe_fld (pv 0) rfl)) (by rfl)) (pss_one (ps_ret pe_non)) pss_nil)
    (pss_one (ps_ret (pe_callBK (cr_sortS hg hu) (by rfl) B2.sorted (by decide +kernel) (pa_cons (pe_callTy (call_list_dT rfl) (by rfl) B.list boot_list (pa_cons (pe_dget hu1 (pe_fld (pv 0) rfl) (pv 1) (fun _ _ => rfl)) pa_nil)) pa_nil) (pk_cons (pe_bltn (v := .ty "str") (by rfl) B.str boot_str rfl) pk_nil))))), ?_⟩
  obtain ⟨dx, fs, d3, v3, h0, h3, i3, f3, _⟩ := hra.ex
  refine ⟨y, rfl, rfl, y, d, rfl, hd, fun c H1 e1 => ?_, fun c => bad c⟩
  obtain ⟨t, rfl⟩ : ∃ t, d = .str t := by
    cases d with
    | str t => exact ⟨t, rfl⟩
    | _ => cases c
  cases hd
  have q := good t rfl c
  have fld : ∀ {H2 : Hp}, Ex H H2 → Ev (tFld K (tVar 0) "_rules") (L2.start ["self", "deed"] [.ref a, .str t]) H2 (.ref d3) := fun e2 => ev_fld T.cl T.rules (ev_var rfl) (e2 _ _ h0) f3
  rcases i3.get nr (.inr t) with ⟨no, nf⟩ | ⟨v, it, ev, fe, hit⟩
  · refine q_when (b := true) (et_is (et_B (ev_dnin (k := .inr t) (vs := v3) (ev_var rfl) (fld e1) (ex_rd e1 h3))) (by rw [no]; rfl)) (fun _ H2 e2 => s_ret ev_c fun H3 e3 => ?_) (fun c => by cases c)
    refine q .non H3 (e1.trans (e2.trans e3)) ?_
    unfold pairsOf
    rw [nf]
    rfl
  · refine q_when (b := false) (et_is (et_B (ev_dnin (k := .inr t) (vs := v3) (ev_var rfl) (fld e1) (ex_rd e1 h3))) (by rw [ev]; rfl)) (fun c => by cases c) fun _ H2 e2 => ?_
    obtain ⟨ks, ek, lk, okk, _⟩ := (okr _ (List.mem_of_find?_eq_some fe)).pairs
    have ek' : it = .dt ks := ek
    subst ek'
    obtain ⟨r, rfl, hr3⟩ := hit
    have e02 := e1.trans e2
    have pd : EvP (tDGet (tFld K (tVar 0) "_rules") (tVar 1)) (L2.start ["self", "deed"] [.ref a, .str t]) H2 (DtV ks) := p_dget (k := .inr t) (fld e02) (ev_var rfl) (ex_rd e02 h3) ev mo_dt ⟨r, rfl, e02 _ _ hr3⟩
    show tDGet (tFld K (tVar 0) "_rules") (tVar 1) (L2.start ["self", "deed"] [.ref a, .str t]) H2 _
    refine pd H2 (Ex.refl _) _ fun z H3 e3 ⟨r, ez, hT⟩ => ?_
    subst ez
    refine ⟨r, trues ks, rfl, .inl hT, fun p bs hp hk => ?_⟩
    have hq := dq_isKeys hk
    have e4 : Ex H3 (upd H3 p (.lst (bs.map V.ref))) := Ex.new hp
    refine ⟨p, bs.map V.ref, ks.map pairD, rfl, rfl, sq_of upd_same, dqAll_dp (dqAll_up e4 hq), fun e he => ?_, fun r2 hr2 => ?_⟩
    · obtain ⟨k, hk, rfl⟩ := List.mem_map.mp he
      exact showy_pair (okk k hk)
    · have e5 := e4.trans (Ex.new (o := .lst ((bySt ((bs.map V.ref).zip (ks.map pairD))).map (·.1))) hr2)
      refine q (.ref r2) _ (e02.trans (e3.trans e5)) ?_
      unfold pairsOf
      rw [fe]
      refine ⟨⟨r2, rfl, fresh_back (e02.trans (e3.trans e4)) hr2⟩, .lst ?_ upd_same (dqAll_up e5 (dq_sorted hq))⟩
      rw [List.length_map]
      unfold bySt
      rw [List.length_mergeSort, List.length_zip, dqAll_len hq, Nat.min_self, List.length_map]
      omega
end
end Chk
set_option maxHeartbeats 4000000
/-! End(..) as a value; with_pairs; ==. -/
namespace Chk
open PySem PySem.Spec PyProof.Rows L2 Evl Pd Gd Us Wlk
abbrev psInitE : List Str := ["self", "settings", "uses", "rules", "most"]
def argsV (K : PySem.W.Frag) (C : Addr) (p : PtsE) : List PV := [ArgV K C p.settings, ArgV K C p.uses, ArgV K C p.rules, De K p.most]
section
variable {K : PySem.W.Frag} {C CE CB : Addr} {p : PtsE} {σ : L2.St} {H : Hp} {ta : TA} {E : XK}
theorem argsE_of {xs : List V} (h : AllP (argsV K C p) xs H) (pu : PlainA p.uses) (pr : PlainA p.rules) : ∃ a b c d, xs = [a, b, c, d] ∧ ArgsE K C H a b c d p := by
  match xs, h with
  | [a, b, c, d], ⟨h1, h2, h3, h4, _⟩ => exact ⟨a, b, c, d, rfl, h1, h2, h3, h4, pu, pr⟩
/-- End(..) of right parts -/
theorem p_makeE (h : EvPs ta σ H (argsV K C p)) (pu : PlainA p.uses) (pr : PlainA p.rules) (ok : wrongE p = none) : EvP (tMake CE (spInitE K C CE CB) [] E ta) σ H (fun x H' => EndV K C CE (endOf p) x H') := fun H1 e Q q => h H1 e _ fun xs H2 e2 ps x dx n1 n2 _ => by
  obtain ⟨a, b, c, d, rfl, hp⟩ := argsE_of ps pu pr
  have up := ex_laid (C := CE) n1 n2
  refine ⟨rfl, x, dx, a, b, c, d, p, rfl, upd_same, hp.up up, fun t ht => (by rw [ok] at ht; cases ht), fun _ H3 kp at_ _ => ⟨rfl, q _ H3 ?_ ⟨x, rfl, at_⟩⟩⟩
  exact e2.trans fun b o eb => kp b o (ne_of_none eb n1) (up b o eb)
/-- .., its dicts new -/
def EndVN (K : PySem.W.Frag) (C CE : Addr) (H0 : Hp) (e : Eg) : PV := fun x H => ∃ a, x = .ref a ∧ EndAt K C CE e a H ∧ EndNew H0 a H
theorem p_makeN (h : EvPs ta σ H (argsV K C p)) (pu : PlainA p.uses) (pr : PlainA p.rules) (ok : wrongE p = none) : EvP (tMake CE (spInitE K C CE CB) [] E ta) σ H (fun x H' => EndVN K C CE H (endOf p) x H') := fun H1 e Q q => h H1 e _ fun xs H2 e2 ps x dx n1 n2 _ => by
  obtain ⟨a, b, c, d, rfl, hp⟩ := argsE_of ps pu pr
  have up := ex_laid (C := CE) n1 n2
  refine ⟨rfl, x, dx, a, b, c, d, p, rfl, upd_same, hp.up up, fun t ht => (by rw [ok] at ht; cases ht), fun _ H3 kp at_ nw => ⟨rfl, q _ H3 ?_ ⟨x, rfl, at_, ?_⟩⟩⟩
  · exact e2.trans fun b o eb => kp b o (ne_of_none eb n1) (up b o eb)
  · obtain ⟨CE', dx', fs, d1, d2, d3, g0, g1, g2, g3, m1, m2, m3⟩ := nw
    have bk : ∀ {b : Addr}, upd (upd H2 dx (.own x)) x (.ins CE dx []) b = none → H b = none := fun {b} hb => by
      cases hh : H b with
      | none => rfl
      | some o =>
        have := up b o (e2 b o (e b o hh))
        rw [this] at hb
        cases hb
    exact ⟨CE', dx', fs, d1, d2, d3, g0, g1, g2, g3, bk m1, bk m2, bk m3⟩
theorem make_badE {Q : VK} {t : Str} (h : EvPs ta σ H (argsV K C p)) (pu : PlainA p.uses) (pr : PlainA p.rules) (bad : wrongE p = some t) (hE : ∀ d H', Ex H H' → H' d = none → E (.ref CB) (some d) (upd H' d (.xd [("part", V.str t)]))) : tMake CE (spInitE K C CE CB) [] E ta σ H Q :=
  h H (Ex.refl H) _ fun xs H2 e2 ps x dx n1 n2 _ => by
    obtain ⟨a, b, c, d, rfl, hp⟩ := argsE_of ps pu pr
    have up := ex_laid (C := CE) n1 n2
    refine ⟨rfl, x, dx, a, b, c, d, p, rfl, upd_same, hp.up up, fun u hu d H3 ex hd => ?_, fun ok => (by rw [bad] at ok; cases ok)⟩
    rw [bad] at hu
    cases hu
    exact hE d H3 (e2.trans (up.trans ex)) hd
end
/-! ### places of a filtered list -/
def idxOf {α : Type} (f : α → Bool) (l : List α) : List Nat := (List.range l.length).filter fun i => (l[i]?).elim false f
theorem idx_at {α : Type} (f : α → Bool) : ∀ (l : List α), (idxOf f l).length = (l.filter f).length ∧ ∀ (j : Nat) (x : α), (l.filter f)[j]? = some x → ∃ i, (idxOf f l)[j]? = some i ∧ l[i]? = some x
  | [] => ⟨rfl, fun j x h => by simp at h⟩
  | y :: r => by
    obtain ⟨ih1, ih2⟩ := idx_at f r
    have e : idxOf f (y :: r) = (if f y = true then [0] else []) ++ (idxOf f r).map Nat.succ := by
      unfold idxOf
      rw [List.length_cons, List.range_succ_eq_map, List.filter_cons, List.filter_map]
      show (if f y = true then _ else _ : List Nat) = _
      by_cases h : f y = true
      · rw [if_pos h, if_pos h]
        rfl
      · rw [if_neg h, if_neg h]
        rfl
    rw [e, List.filter_cons]
    by_cases h : f y = true
    · rw [if_pos h, if_pos h]
      refine ⟨by simp [ih1], fun j x hj => ?_⟩
      cases j with
      | zero => cases hj; exact ⟨0, rfl, rfl⟩
      | succ j =>
        obtain ⟨i, h1, h2⟩ := ih2 j x hj
        exact ⟨i + 1, by show ((idxOf f r).map Nat.succ)[j]? = _; rw [List.getElem?_map, h1]; rfl, h2⟩
    · rw [if_neg h, if_neg h, List.nil_append]
      refine ⟨by simp [ih1], fun j x hj => ?_⟩
      obtain ⟨i, h1, h2⟩ := ih2 j x hj
      exact ⟨i + 1, by rw [List.getElem?_map, h1]; rfl, h2⟩
theorem nodup_len {α : Type} [DecidableEq α] : ∀ {l m : List α}, l.Nodup → (∀ x ∈ l, x ∈ m) → l.length ≤ m.length
  | [], _, _, _ => Nat.zero_le _
  | x :: r, m, h, s => by
    rw [List.nodup_cons] at h
    have hx := s x List.mem_cons_self
    have := nodup_len (l := r) (m := m.erase x) h.2 fun y hy => (List.mem_erase_of_ne (fun z => h.1 (by rw [← z]; exact hy))).mpr (s y (List.mem_cons_of_mem _ hy))
    rw [List.length_erase_of_mem hx] at this
    have : 0 < m.length := List.length_pos_of_mem hx
    rw [List.length_cons]
    omega
theorem rules_len {rs : Its'} (hn : (rs.map (·.1)).Nodup) (h : ∀ p ∈ rs, OkRul p) : rs.length ≤ 5 := by
  have := nodup_len (l := rs.map (·.1)) (m := deedsT.map Sum.inr) hn fun k hk => by
    obtain ⟨p, hp, rfl⟩ := List.mem_map.mp hk
    obtain ⟨s, e, hs⟩ := (h p hp).deed
    rw [e]
    exact List.mem_map.mpr ⟨s, hs, rfl⟩
  rw [List.length_map] at this
  exact this
/-! ### other pairs for a deed -/
def isDeed (s : Str) (p : Key × Itm) : Bool := !decide (p.1 = .inr s)
def listI (t : Itm) : Itm := .d (.list (sortD ((ksOf t).map pairD)))
def argsI (rs : Its') (s : Str) : Its' := (rs.filter (isDeed s)).map fun p => (p.1, listI p.2)
def newI (s : Str) : PyData → Its'
  | .none => []
  | d => [(.inr s, .d d)]
/-- what may be told of a deed: none, or pairs -/
def okD : PyData → Bool
  | .none => true
  | d => okPairs d
def withP (e : Eg) (s : Str) (d : PyData) : PtsE := ⟨.dct e.own, .dct e.uses, .dct (argsI e.rules s ++ newI s d), .int e.most⟩
def withE (e : Eg) (s : Str) (d : PyData) : Eg := endOf (withP e s d)
theorem plain_args (rs : Its') (s : Str) (d : PyData) : PlainA (.dct (argsI rs s ++ newI s d)) := fun p hp => by
  rcases List.mem_append.mp hp with h | h
  · obtain ⟨q, _, rfl⟩ := List.mem_map.mp h
    exact ⟨_, rfl⟩
  · cases d with
    | none => cases h
    | _ => rw [List.mem_singleton.mp h]; exact ⟨_, rfl⟩
theorem deed_few {s : Str} (h : s ∈ deedsT) : s.length ≤ 10000 := by
  unfold deedsT at h
  simp only [List.mem_cons, List.not_mem_nil, or_false] at h
  rcases h with rfl | rfl | rfl | rfl | rfl <;> decide +kernel
theorem deed_in {s : Str} (h : s ∈ deedsT) : inT deedsT (.str s) = true := by
  unfold inT
  exact List.any_eq_true.mpr ⟨s, h, by simp⟩
theorem sortD_mem {ds : List PyData} {d : PyData} : d ∈ sortD ds ↔ d ∈ ds := List.mem_mergeSort
theorem sortD_len (ds : List PyData) : (sortD ds).length = ds.length := List.length_mergeSort ..
theorem pair_isPair {k : List Key} (h : OkPair k) : isPair 0 3 (pairD k) = true := by
  obtain ⟨i, j, rfl, h1, h2, h3, h4⟩ := h
  show (betw 0 3 (.int i) && betw 0 3 (.int j)) = true
  simp [betw, h1, h2, h3, h4]
section
variable {e : Eg} {s : Str} {d : PyData}
theorem small_args (N : Neat e) (hs : s ∈ deedsT) (few : Few d) (sh : Short d) : Small (argsI e.rules s ++ newI s d) := by
  have l5 := rules_len N.nr N.rules
  have la : (argsI e.rules s).length ≤ 5 := by
    unfold argsI
    rw [List.length_map]
    exact Nat.le_trans (List.length_filter_le _ _) l5
  have ln : (newI s d).length ≤ 1 := by cases d <;> simp [newI]
  refine ⟨by rw [List.length_append]; omega, fun p hp => ?_, ?_⟩
  · rcases List.mem_append.mp hp with h | h
    · obtain ⟨q, hq, rfl⟩ := List.mem_map.mp h
      have hr := N.rules q (List.mem_filter.mp hq).1
      obtain ⟨t, et, ht⟩ := hr.deed
      obtain ⟨ks, ek, lk, _⟩ := hr.pairs
      refine ⟨?_, ?_, ?_⟩
      · show FewK q.1
        rw [et]
        exact deed_few ht
      · exact fun s e => by cases e
      · intro ds eds
        injection eds with eds
        rw [← eds, sortD_len, List.length_map, ek]
        exact lk
    · cases d with
      | none => cases h
      | _ => rw [List.mem_singleton.mp h]; exact ⟨deed_few hs, few, sh⟩
  · rw [List.map_append, List.nodup_append]
    have ea : (argsI e.rules s).map (·.1) = (e.rules.filter (isDeed s)).map (·.1) := by
      unfold argsI
      rw [List.map_map]
      rfl
    refine ⟨?_, ?_, fun x hx y hy => ?_⟩
    · rw [ea]
      exact List.Nodup.sublist ((List.filter_sublist (l := e.rules) (p := isDeed s)).map _) N.nr
    · cases d <;> simp [newI]
    · have hy' : y = .inr s := by
        cases d with
        | none => cases hy
        | _ => simpa [newI] using hy
      rw [ea] at hx
      obtain ⟨q, hq, rfl⟩ := List.mem_map.mp hx
      have := (List.mem_filter.mp hq).2
      unfold isDeed at this
      rw [hy']
      simpa using this
theorem okRules_args (N : Neat e) (hs : s ∈ deedsT) : okRules (.dct (argsI e.rules s ++ newI s d)) = okD d := by
  show (argsI e.rules s ++ newI s d).all okRule = _
  have ha : (argsI e.rules s).all okRule = true := List.all_eq_true.mpr fun p hp => by
    obtain ⟨q, hq, rfl⟩ := List.mem_map.mp hp
    have hr := N.rules q (List.mem_filter.mp hq).1
    obtain ⟨t, et, ht⟩ := hr.deed
    obtain ⟨ks, ek, lk, okk, _⟩ := hr.pairs
    show (inT deedsT (keyD q.1) && (sortD ((ksOf q.2).map pairD)).all (isPair 0 3)) = true
    rw [et, show inT deedsT (keyD (.inr t)) = true from deed_in ht, Bool.true_and, ek]
    refine List.all_eq_true.mpr fun x hx => ?_
    obtain ⟨k, hk, rfl⟩ := List.mem_map.mp (sortD_mem.mp hx)
    exact pair_isPair (okk k hk)
  rw [List.all_append, ha, Bool.true_and]
  have hn : ∀ x : PyData, okRule (.inr s, .d x) = okPairs x := fun x => by
    show (inT deedsT (.str s) && okPairs x) = _
    rw [deed_in hs, Bool.true_and]
  cases d with
  | none => rfl
  | _ => exact (by show (okRule _ && true) = _; rw [Bool.and_true, hn]; rfl)
theorem wrong_with (N : Neat e) (hs : s ∈ deedsT) : wrongE (withP e s d) = (if okD d = true then (none : Option Str) else some "rules") := by
  unfold wrongE withP
  have m : betw 1 3 (.int e.most) = true := by simp [betw, N.most.1, N.most.2]
  have u : okUses (keysA (.dct e.own)) (.dct e.uses) = true := N.uses
  simp only [N.own, u, okRules_args (d := d) N hs, m]
  cases okD d <;> rfl
theorem neat_with (N : Neat e) (hs : s ∈ deedsT) (few : Few d) (sh : Short d) (ok : okD d = true) : Neat (withE e s d) :=
  neat_of (p := withP e s d) (by rw [wrong_with N hs, if_pos ok]) N.pu (plain_args _ _ _) N.so N.su (small_args N hs few sh)
end
end Chk
set_option maxHeartbeats 4000000
/-! with_pairs. -/
namespace Chk
open PySem PySem.Spec PyProof.Rows L2 Evl Pd Gd Us Wlk
abbrev nWith : List Str := ["self", "deed", "pairs", "rules", "known"]
theorem scWith : FnScope nWith ["self", "deed", "pairs"] (defScope mWith) := ⟨rfl, rfl, rfl, by decide +kernel, rfl, by decide +kernel, by decide +kernel⟩
def spWith (K : PySem.W.Frag) (C CE CD CB : Addr) : Sp := fun vs H Q E => vs.length = 3 ∧ ∃ x y z d dp e, vs = [x, y, z] ∧ EndV K C CE e x H ∧ Neat e ∧ Dq H y d ∧ Dq H z dp ∧ Few dp ∧ Short dp ∧
  (∀ s, d = .str s → s ∈ deedsT → okD dp = true → ∀ r H', Ex H H' → EndV K C CE (withE e s dp) r H' → Q r H') ∧
  (∀ s, d = .str s → s ∈ deedsT → okD dp = false → ∀ o H', Ex H H' → H' o = none → E (.ref CB) (some o) (upd H' o (.xd [("part", .str "rules")]))) ∧
  (inT deedsT d = false → ∀ o H', Ex H H' → H' o = none → E (.ref CD) (some o) (upd H' o (.xd [("value", y)])))
section
variable {K : PySem.W.Frag} {σ : L2.St} {H : Hp} {te : TE} {tz : TS} {D : Ends} {vs : List (Key × V)}
/-- name = a value, inside a lock -/
theorem q_lockAsg {d : Addr} {P : PV} {i : Nat} (hd : H d = some (.dK vs)) (un : ∀ (x : V) (H2 : Hp) (od : Obj), Ex (lk H d od vs) H2 → P x H2 → P x (upd H2 d (.dK vs))) (h : ∀ od, EvP te σ (lk H d od vs) P) (k : ∀ x H1, Ex H H1 → P x H1 → tz D (σ.set i (some x)) H1) : tSeq (tLock (tAsg te (gName i))) tz D σ H :=
  ⟨d, .dK vs, hd, trivial, fun od => h od _ (Ex.refl _) _ fun x H2 e2 p => ⟨e2 _ _ upd_same, k x _ (EqD.ex_lock hd e2) (un x H2 od e2 p)⟩⟩
theorem ItemsV.put {C : Addr} {kvs : Its'} {ws : List (Key × V)} {D : Addr} {ks ls : List (Key × V)} (h : ItemsV K C kvs ws H) (hd : H D = some (.dK ks)) : ItemsV K C kvs ws (upd H D (.dK ls)) := ⟨h.len, fun i k t hi => let ⟨v, h1, h2⟩ := h.at_ i k t hi; ⟨v, h1, dw_itm (K := K) _ _ _ _ _ hd h2⟩⟩
theorem ItemsV.snoc {C : Addr} {kvs : Its'} {ws : List (Key × V)} {k : Key} {t : Itm} {v : V} (h : ItemsV K C kvs ws H) (hv : ItmV K C t v H) : ItemsV K C (kvs ++ [(k, t)]) (ws ++ [(k, v)]) H := ⟨by simp [h.len], fun i k2 t2 hi => by
  rcases Nat.lt_or_ge i kvs.length with c | c
  · rw [List.getElem?_append_left c] at hi
    obtain ⟨u, h1, h2⟩ := h.at_ i k2 t2 hi
    exact ⟨u, by rw [List.getElem?_append_left (by rw [h.len]; exact c)]; exact h1, h2⟩
  · rw [List.getElem?_append_right c] at hi
    have e : i - kvs.length = 0 := by
      have := (List.getElem?_eq_some_iff.mp hi).1
      simp at this
      omega
    rw [e] at hi
    cases hi
    exact ⟨v, by rw [List.getElem?_append_right (by rw [h.len]; exact c), h.len, e]; rfl, hv⟩⟩
/-- a write to a list's dict that was made on the way leaves an end -/
theorem qe_unlock {d : Addr} {od : Obj} {x : V} {e : PyData} (hd : H d = some (.frz od (.dK vs))) (h : Dq H x e) : Dq (upd H d (.dK vs)) x e :=
  Lw.dq_by (fun b _ h => by rw [upd_ne (fun z => by rw [z, hd] at h; cases h)]; exact h) (fun b _ h => by rw [upd_ne (fun z => by rw [z, hd] at h; cases h)]; exact h) h
end
section
variable {K : PySem.W.Frag} {C CE CD : Addr} {rs : Its'} {σ : L2.St} {H : Hp} {te ty : TE} {E : XK} {s : Str}
theorem p_pairsM (h : EvP te σ H (RulV K C CE rs)) (hd : Ev ty σ H (.str s)) (hs : s ∈ deedsT) (nr : (rs.map (·.1)).Nodup) (okr : ∀ p ∈ rs, OkRul p) : EvP (tMeth CE "pairs" (spPairs K C CE CD) [] E te (tCons ty tNil)) σ H (fun z H' => PairsV H (pairsOf rs s) z H') := fun H1 e1 Q q =>
  h H1 e1 _ fun x H2 e2 ⟨a, ex, at_⟩ => by
    obtain ⟨dx, fs, d3, v3, h0, _, _, _, n1, _⟩ := at_.ex
    refine ⟨a, dx, fs, ex, h0, n1, hd H2 (e1.trans e2) _ fun H3 e3 => ⟨rfl, x, .str s, .str s, rs, rfl, ⟨a, ex, at_.up e3⟩, nr, okr, .str s, fun t et _ z H4 e4 p => q z H4 (e2.trans (e3.trans e4)) ?_, fun c => by rw [deed_in hs] at c; cases c⟩⟩
    cases et
    cases e : pairsOf rs s with
    | none => rw [e] at p; exact p
    | some ks =>
      rw [e] at p
      obtain ⟨⟨r, er, nr⟩, p2⟩ := p
      exact ⟨⟨r, er, fresh_back (e1.trans (e2.trans e3)) nr⟩, p2⟩
theorem args_no {p : Key × Itm} (h : p ∈ argsI rs s) : p.1 ≠ .inr s := by
  obtain ⟨q, hq, rfl⟩ := List.mem_map.mp h
  have := (List.mem_filter.mp hq).2
  unfold isDeed at this
  simpa using this
theorem keys_none {kvs : Its'} {ws : List (Key × V)} {k : Key} (h : ItemsV K C kvs ws H) (no : ∀ p ∈ kvs, p.1 ≠ k) : valV ws k = none := by
  cases ev : valV ws k with
  | none => rfl
  | some v =>
    exfalso
    have a : (ws.any fun kv => decide (kv.1 = k)) = true := by rw [valV_any, ev]; rfl
    obtain ⟨p, hp, ek⟩ := List.any_eq_true.mp a
    obtain ⟨i, hi, rfl⟩ := List.getElem_of_mem hp
    obtain ⟨t, ht, _⟩ := h.from (show ws[i]? = some (ws[i].1, ws[i].2) from List.getElem?_eq_getElem hi)
    exact no _ (List.mem_of_getElem? ht) (of_decide_eq_true ek)
theorem newI_some {d : PyData} (h : d ≠ .none) : newI s d = [(.inr s, .d d)] := by
  cases d with
  | none => exact absurd rfl h
  | _ => rfl
end
section
variable {P : Program} {w : World} {K : PySem.W.Frag} {mg : Str → Option Value} {base : Heap} {C CE CD CB fD f : Addr} {fd : FuncData}
theorem ok_with (F : Fun K "with_pairs" "End.with_pairs" mWith f fd) (T : ClsE K CE) (B : Bc mg) (mE : mg "End" = some (.ref CE)) (UC : UseX P w K mg base 2 "check_deed" ["deed"] (spCheck CD))
    (MK : ∃ fI fdI, Mk K CE fI ∧ L2.Binds K fdI psInitE [] ∧ FnOk P w K mg base (L2.CX P w) 7 fI fdI psInitE (spInitE K C CE CB)) (MP : ∃ fP fdP, Meth K CE "pairs" fP ∧ L2.Binds K fdP ["self", "deed"] [] ∧ FnG P w K mg base (L2.CX P w) 3 fP fdP ["self", "deed"] (spPairs K C CE CD)) :
    FnG P w K mg base (L2.CX P w) 9 f fd ["self", "deed", "pairs"] (spWith K C CE CD CB) := by
  refine okGX F scWith (fun vs H Q E h => h.1) (fun cdv A outer s H vs Q E hr hg h => ?_)
  obtain ⟨_, x, y, z, d, dp, e, rfl, ⟨a, rfl, hea⟩, N, hd, hdp, few, sh, good, badB, badD⟩ := h
  obtain ⟨fI, fdI, M, bI, FI⟩ := MK
  obtain ⟨fP, fdP, mP, bP, FP⟩ := MP
  have hu1 : (A.deeper (envOfC "End.with_pairs" (defScope mWith) s.heap.objs.size f cdv)).units + 1 < cLine := by have := hr.un; omega
  have nd := scWith.nd
  refine ⟨_, pss_cons (ps_expr (pe_useX (E := E) UC hr (by decide) (by rfl) (passes_call (takes_of rfl rfl rfl rfl) fun _ _ _ _ h => h) (pa_cons (pv 1) pa_nil)))
    (pss_cons (ps_lock (ps_setDc (i := 3) (own := [("known", 4)]) (g := gName 4) rfl nd rfl rfl (swD_true rfl rfl rfl rfl) (pi_keys (pe_fld (pv 0) rfl)) (blkOk_by (N := nWith) (sc := defScope mWith) (by decide +kernel))
      (fun _ _ _ _ _ => pg_name (i := 4) nd rfl (Or.inl rfl)) (fun _ _ _ _ _ => pts_one (pt_cmpR op_ne (pv 4) (pv 1) (nomark _))) (fun _ _ _ _ _ => pv 4)
      (fun _ _ _ _ _ => pe_methG (E := fun _ _ _ => False) (pv 0) T.cl mP FP (hr.mono (by decide)) hg bP (passes_call LamX.takes0 fun _ _ _ _ h => h) (pa_cons (pv 4) pa_nil))))
    (pss_cons (ps_if (pt_cmpR op_notN (pv 2) pe_non (nomark _)) (pss_one (ps_dput hu1 (pv 3) (pv 1) (pv 2) rfl)) pss_nil)
    (pss_one (ps_ret (pe_make (E := E) M FI hr (by rfl) mE bI .nil (passes_call (takes_of rfl rfl rfl rfl) fun _ _ _ _ h => h) (pa_cons (pe_fld (pv 0) rfl) (pa_cons (pe_fld (pv 0) rfl) (pa_cons (pv 3) (pa_cons (pe_fld (pv 0) rfl) pa_nil))))))))), ?_⟩
  obtain ⟨dx, fs, d1, d2, d3, v1, v2, v3, h0, h1, h2, h3, i1, i2, i3, f1, f2, f3, f4, fm⟩ := id hea.ex
  refine ⟨y, rfl, rfl, y, d, rfl, hd, fun c H1 e1 => ?_, fun c => badD c⟩
  obtain ⟨t, rfl⟩ : ∃ t, d = .str t := by
    cases d with
    | str t => exact ⟨t, rfl⟩
    | _ => cases c
  cases hd
  have ht := inT_mem c
  have h31 := e1 _ _ h3
  refine q_lockAsg (d := d3) (vs := v3) (P := fun x H' => ∃ D ws, x = .ref D ∧ H1 D = none ∧ D ≠ d3 ∧ H' D = some (.dK ws) ∧ ItemsV K C (argsI e.rules t) ws H') h31 (fun x H2 od e2 ⟨D, ws, ex, nD, ne, hD, hi⟩ => ⟨D, ws, ex, nD, ne, by rw [upd_ne ne]; exact hD, hi.len, fun i k it hk => ?un⟩) (fun od => ?comp) fun x H3 e3 ⟨D, ws, ex, nD, ne, hD, hi⟩ => ?rest
  case un =>
    obtain ⟨v, g1, g2⟩ := hi.at_ i k it hk
    refine ⟨v, g1, ?_⟩
    unfold argsI at hk
    rw [List.getElem?_map] at hk
    obtain ⟨q, _, eq⟩ := Option.map_eq_some_iff.mp hk
    cases eq
    exact qe_unlock (e2 _ _ upd_same) g2
  case comp =>
    have ra : RulAt K C CE e.rules a (lk H1 d3 od v3) := by
      obtain ⟨b, eb, hb⟩ := lk_rul (K := K) (C := C) (CE := CE) (rs := e.rules) (.ref a) H1 d3 v3 od h31 ⟨a, rfl, hea.rul.up e1⟩
      cases eb
      exact hb
    have key := p_dcW (σ := L2.start nWith [.ref a, .str t, z]) (H := lk H1 d3 od v3) (tk := tVar 4) (tv := tMeth CE "pairs" (spPairs K C CE CD) [] (fun _ _ _ => False) (tVar 0) (tCons (tVar 4) tNil)) (t := tTest (tOp rNe (tVar 4) (tVar 1))) (wi := iKeys (tFld K (tVar 0) "_rules")) (g := gName 4) (vs := [4])
      (fun i => (e.rules[i]?).elim false (isDeed t)) (fun n => ((e.rules[n]?).map (·.1)).getD (.inl 0)) (fun n => Qe (.list (sortD ((ksOf (((e.rules[n]?).map (·.2)).getD (.d .none))).map pairD)))) (fun _ => mo_qe) (fun _ => dw_qe)
      (walk_keys (d := d3) (o := od) (kvs := v3)) (by rw [i3.len]; have := N.lr; omega) (fun m n hm hn z => ?_) (fun H2 e2 R r => ev_fld T.cl T.rules (ev_var rfl) (at_lock h31 (e1 _ _ h0) fun _ z => nomatch z) f3 H2 e2 _ fun H3 e3 => ⟨d3, od, rfl, .inl ⟨v3, (e2.trans e3) _ _ upd_same, r H3 e3⟩⟩) (fun H2 e2 => e2 _ _ upd_same) (fun n x H2 H3 hn e2 y => ?_)
    · refine key.imp fun x H2 e2 ⟨⟨D, ws, ex, hD, pr⟩, D', ex', nD⟩ => ?_
      rw [ex] at ex'
      cases ex'
      have nD2 := none_un nD
      refine ⟨D, ws, ex, nD2.2, nD2.1, hD, ?_⟩
      have ix := idx_at (isDeed t) e.rules
      have el : (List.range v3.length).filter (fun i => (e.rules[i]?).elim false (isDeed t)) = idxOf (isDeed t) e.rules := by rw [i3.len]; rfl
      rw [el] at pr
      refine ⟨by rw [pr.len, ix.1]; unfold argsI; rw [List.length_map], fun j k it hk => ?_⟩
      unfold argsI at hk
      rw [List.getElem?_map] at hk
      obtain ⟨q, hq, eq⟩ := Option.map_eq_some_iff.mp hk
      cases eq
      obtain ⟨i, hi1, hi2⟩ := ix.2 j q hq
      obtain ⟨v, g1, g2⟩ := pr.at_ j i hi1
      rw [hi2] at g1 g2
      exact ⟨v, g1, g2⟩
    · rw [i3.len] at hm hn
      rw [List.getElem?_eq_getElem hm, List.getElem?_eq_getElem hn] at z
      exact nodup_at N.nr (i := m) (j := n) (x := e.rules[m].1) (by rw [List.getElem?_map, List.getElem?_eq_getElem hm]; rfl) (by rw [List.getElem?_map, List.getElem?_eq_getElem hn]; exact congrArg some z.symm)
    · obtain ⟨rfl, k, v, hk, rfl⟩ := y
      obtain ⟨it, hit, _⟩ := (((i3.up e1).lock (od := od) h31).up e2).from hk
      have okr := N.rules _ (List.mem_of_getElem? hit)
      obtain ⟨t2, ek, ht2⟩ := okr.deed
      have ek' : k = .inr t2 := ek
      subst ek'
      obtain ⟨ks, eks, _⟩ := okr.pairs
      have eks' : it = .dt ks := eks
      subst eks'
      refine ⟨Ex.refl _, _, fun k hk => hk, rfl, ?_, fun _ => ?_⟩
      · rw [hit]
        refine et_test (ev_is (ev_op (ev_var rfl) (ev_var rfl) (rv_ne rfl)) (congrArg V.bl ?_))
        show (!decide (V.str t2 = V.str t)) = (!decide ((Sum.inr t2 : Key) = .inr t))
        congr 1
        rw [Bool.eq_iff_iff, decide_eq_true_iff, decide_eq_true_iff]
        exact ⟨fun h => by injection h with h; rw [h], fun h => by injection h with h; rw [h]⟩
      · rw [hit]
        refine ⟨ev_var rfl, (p_pairsM (p_var rfl mo_rul ⟨a, rfl, ra.up e2⟩) (ev_var rfl) ht2 N.nr N.rules).imp fun r H5 e5 p5 => ?_⟩
        unfold pairsOf at p5
        rw [find_keys N.nr hit] at p5
        exact p5.2
  case rest =>
    subst ex
    have up3 := e1.trans e3
    -- End(..) with these rules
    have fin : ∀ (H4 : Hp) (ws' : List (Key × V)), Ex H H4 → H4 D = some (.dK ws') → ItemsV K C (argsI e.rules t ++ newI t dp) ws' H4 →
        tRet (tMake CE (spInitE K C CE CB) [] E (tCons (tFld K (tVar 0) "_settings") (tCons (tFld K (tVar 0) "_uses") (tCons (tVar 3) (tCons (tFld K (tVar 0) "_most") tNil))))) { nx := fun _ H' => Q .non H', rt := Q } ((L2.start nWith [.ref a, .str t, z]).set 3 (some (.ref D))) H4 := fun H4 ws' e4 hD4 hi4 => by
      have args : EvPs (tCons (tFld K (tVar 0) "_settings") (tCons (tFld K (tVar 0) "_uses") (tCons (tVar 3) (tCons (tFld K (tVar 0) "_most") tNil)))) ((L2.start nWith [.ref a, .str t, z]).set 3 (some (.ref D))) H4 (argsV K C (withP e t dp)) :=
        ps_cons mo_arg (.of (ev_fld T.cl T.settings (ev_var rfl) (e4 _ _ h0) f1) mo_arg ⟨⟨d1, v1, rfl, e4 _ _ h1, i1.up e4⟩, N.so⟩)
        (ps_cons mo_arg (.of (ev_fld T.cl T.uses (ev_var rfl) (e4 _ _ h0) f2) mo_arg ⟨⟨d2, v2, rfl, e4 _ _ h2, i2.up e4⟩, N.su⟩)
        (ps_cons mo_arg (.of (ev_var rfl) mo_arg ⟨⟨D, ws', rfl, hD4, hi4⟩, small_args N ht few sh⟩)
        (ps_cons mo_de (.of (ev_fld T.cl T.most (ev_var rfl) (e4 _ _ h0) f4) mo_de (.int e.most)) ps_nil)))
      cases ok : okD dp with
      | true => exact d_ret (p_makeE args N.pu (plain_args _ _ _) (by rw [wrong_with N ht, ok, if_pos rfl])) fun r H5 e5 p5 => good t rfl ht ok r H5 (e4.trans e5) p5
      | false => exact make_badE args N.pu (plain_args _ _ _) (by rw [wrong_with N ht, ok, if_neg (by decide)]) fun o H5 e5 ho => badB t rfl ht ok o H5 (e4.trans e5) ho
    have test : EvT (tTest (tOp (fun x y H Q => y = .non ∧ Q (.bl (!decide (x = .non))) H) (tVar 2) (tC .non))) ((L2.start nWith [.ref a, .str t, z]).set 3 (some (.ref D))) H3 (!decide (z = .non)) :=
      et_test (ev_op (ev_var rfl) ev_c fun H2 _ Q' q' => ⟨rfl, q' H2 (Ex.refl H2)⟩)
    refine q_when test (fun c2 H4 e4 => ?_) fun c2 H4 e4 => ?_
    · have zn : z ≠ .non := by simpa using c2
      have dn : dp ≠ .none := fun w => by
        rw [w] at hdp
        cases hdp
        exact zn rfl
      have hD4 := e4 _ _ hD
      have hi4 := hi.up e4
      have no : valV ws (.inr t) = none := keys_none hi4 fun p hp => args_no hp
      refine ⟨z, rfl, .ref D, rfl, .str t, rfl, D, _, rfl, DPut.k (k := .inr t) hD4 (sz_lt ?_), ?_⟩
      · rw [hi4.len]
        have := (small_args N ht few sh).1
        rw [List.length_append] at this
        omega
      · have e5 : Ex H (upd H4 D (.dK (putK ws (.inr t) z))) := e1.trans ((e3.trans e4).mut nD)
        refine fin _ _ e5 upd_same ?_
        rw [putK_new z no, newI_some dn]
        exact (hi4.put hD4).snoc (dw_qe (d := dp) _ _ _ _ _ hD4 (dq_up (up3.trans e4) hdp))
    · have zn : z = .non := by simpa using c2
      have dn : dp = .none := by
        subst zn
        cases hdp
        rfl
      refine fin H4 ws (up3.trans e4) (e4 _ _ hD) ?_
      rw [dn]
      show ItemsV K C (argsI e.rules t ++ []) ws H4
      rw [List.append_nil]
      exact hi.up e4
end
end Chk
set_option maxHeartbeats 4000000
/-! == of ends. -/
namespace Chk
open PySem PySem.Spec PyProof.Rows L2 Evl Pd Gd Us Wlk EqE
def eqItm : Itm → Itm → Bool
  | .set g, .set h => eqS g h
  | .dt ks, .dt ls => eqK ks ls
  | .d (.str a), .d (.str b) => a == b
  | _, _ => false
/-- may stand beside each other -/
inductive Alike : Itm → Itm → Prop
  | set (g h : Stg) : Alike (.set g) (.set h)
  | dt (ks ls : List (List Key)) : Alike (.dt ks) (.dt ls)
  | str (a b : Str) : Alike (.d (.str a)) (.d (.str b))
def eqI (ks ls : Its') : Bool := ks.length == ls.length && ks.all fun p => (ls.any fun q => decide (q.1 = p.1)) && eqItm p.2 (itemAt ls p.1)
def eqE (e e' : Eg) : Bool := eqI e.own e'.own && (eqI e.uses e'.uses && (eqI e.rules e'.rules && decide (e.most = e'.most)))
section
variable {K : PySem.W.Frag} {C : Addr} {σ : L2.St} {H : Hp} {ta tb : TE} {k1 k2 : Its'} {v1 v2 : List (Key × V)} {d1 d2 : Addr}
theorem same_items (i1 : ItemsV K C k1 v1 H) (i2 : ItemsV K C k2 v2 H) (n1 : (k1.map (·.1)).Nodup) : EqD.sameV (fun k => eqItm (itemAt k1 k) (itemAt k2 k)) v1 v2 = eqI k1 k2 := by
  unfold EqD.sameV eqI EqD.allV
  rw [i1.len, i2.len]
  congr 1
  have e1 : (v1.all fun p => (valV v2 p.1).elim false fun _ => eqItm (itemAt k1 p.1) (itemAt k2 p.1)) = (v1.map (·.1)).all fun k => (valV v2 k).elim false fun _ => eqItm (itemAt k1 k) (itemAt k2 k) := by rw [List.all_map]; rfl
  rw [e1, i1.keys, List.all_map]
  rw [Bool.eq_iff_iff, List.all_eq_true, List.all_eq_true]
  have step : ∀ p ∈ k1, ((valV v2 p.1).elim false fun _ => eqItm (itemAt k1 p.1) (itemAt k2 p.1)) = ((k2.any fun q => decide (q.1 = p.1)) && eqItm p.2 (itemAt k2 p.1)) := fun p hp => by
    obtain ⟨i, hi, rfl⟩ := List.getElem_of_mem hp
    have e2 : itemAt k1 k1[i].1 = k1[i].2 := item_at n1 (show k1[i]? = some (k1[i].1, k1[i].2) from List.getElem?_eq_getElem hi)
    have e3 : (k2.any fun q => decide (q.1 = k1[i].1)) = (valV v2 k1[i].1).isSome := by
      rw [← valV_any]
      have a : (v2.any fun kv => decide (kv.1 = k1[i].1)) = (v2.map (·.1)).any fun k => decide (k = k1[i].1) := by rw [List.any_map]; rfl
      have b : (k2.any fun kv => decide (kv.1 = k1[i].1)) = (k2.map (·.1)).any fun k => decide (k = k1[i].1) := by rw [List.any_map]; rfl
      rw [a, b, i2.keys]
    rw [e2, e3]
    cases valV v2 k1[i].1 <;> rfl
  exact ⟨fun h p hp => by rw [← step p hp]; exact h p hp, fun h p hp => by show (((valV v2 p.1).elim false fun _ => eqItm (itemAt k1 p.1) (itemAt k2 p.1)) : Bool) = true; rw [step p hp]; exact h p hp⟩
theorem ok_val {t u : Itm} {x y : V} {H1 : Hp} (al : Alike t u) (h1 : ItmV K C t x H) (h2 : ItmV K C u y H) (hd : H d1 = some (.dK v1)) (st : ∀ c o, c ≠ d1 → H c = some o → H1 c = some o) : OkVal C x y (eqItm t u) H1 := by
  have at_ : ∀ {b : Addr} {o : HO}, H b = some o → (∀ l, o ≠ .dK l) → H1 b = some o := fun {b o} hb ne => st b o (ne_other hd hb (ne _)) hb
  have sv : ∀ {g : Stg} {x : V}, SetV C g x H → SetV C g x H1 := fun {g x} ⟨a, ex, dx, e, fs, p1, p2, p3⟩ => ⟨a, ex, dx, e, fs, at_ p1 (fun _ z => nomatch z), at_ p2 (fun _ z => nomatch z), p3⟩
  cases al with
  | set g h => exact .inr (.inl ⟨g, h, sv h1, sv h2, rfl⟩)
  | dt ks ls =>
    obtain ⟨p, rfl, hp⟩ := h1
    obtain ⟨q, rfl, hq⟩ := h2
    exact .inr (.inr ⟨p, q, ks, ls, rfl, rfl, at_ hp (fun _ z => nomatch z), at_ hq (fun _ z => nomatch z), rfl⟩)
  | str a b =>
    cases h1
    cases h2
    exact .inl ⟨a, b, rfl, rfl, rfl⟩
theorem ev_eqI (h1 : Ev ta σ H (.ref d1)) (h2 : Ev tb σ H (.ref d2)) (hd1 : H d1 = some (.dK v1)) (hd2 : H d2 = some (.dK v2)) (i1 : ItemsV K C k1 v1 H) (i2 : ItemsV K C k2 v2 H) (n1 : (k1.map (·.1)).Nodup) (n2 : (k2.map (·.1)).Nodup)
    (al : ∀ p ∈ k1, ∀ q ∈ k2, Alike p.2 q.2) : Ev (tOp (EqD.rEqD (OkVal C)) ta tb) σ H (.bl (eqI k1 k2)) :=
  ev_op h1 h2 fun H1 e1 Q q => ⟨d1, d2, v1, v2, fun k => eqItm (itemAt k1 k) (itemAt k2 k), rfl, rfl, e1 _ _ hd1, e1 _ _ hd2, fun p hp z hz H2 st => by
    obtain ⟨i, hi, rfl⟩ := List.getElem_of_mem hp
    have j1 := i1.up e1
    obtain ⟨t, ht, pt⟩ := j1.from (show v1[i]? = some (v1[i].1, v1[i].2) from List.getElem?_eq_getElem hi)
    rcases (i2.up e1).get n2 v1[i].1 with ⟨no, _⟩ | ⟨v, u, ev, fu, pu⟩
    · rw [no] at hz
      cases hz
    · rw [ev] at hz
      cases hz
      have eu : itemAt k2 v1[i].1 = u := by unfold itemAt; rw [fu]; rfl
      show OkVal C v1[i].2 _ (eqItm (itemAt k1 v1[i].1) (itemAt k2 v1[i].1)) H2
      rw [item_at n1 ht, eu]
      exact ok_val (K := K) (al _ (List.mem_of_getElem? ht) _ (List.mem_of_find?_eq_some fu)) pt pu (e1 _ _ hd1) st, fun H2 e2 => by
    rw [same_items i1 i2 n1]
    exact q H2 e2⟩
end
theorem Neat.sets {e : Eg} (N : Neat e) : ∀ p ∈ e.own, ∃ g, p.2 = .set g := by
  obtain ⟨ks, ek, _, _, h⟩ := sets_dct N.own
  injection ek with ek
  rw [ek]
  exact h
theorem Neat.strs {e : Eg} (N : Neat e) : ∀ p ∈ e.uses, ∃ s : Str, p.2 = .d (.str s) ∧ s ∈ usesT := fun p hp => by
  obtain ⟨ks, ek, _, _, h⟩ := uses_dct N.uses
  injection ek with ek
  have := h p (by rw [← ek]; exact hp)
  obtain ⟨d, ed⟩ := N.pu p hp
  rw [ed] at this
  cases d with
  | str s => exact ⟨s, ed, inT_mem this⟩
  | _ => cases this
def spEqE (K : PySem.W.Frag) (C CE : Addr) : Sp := fun vs H Q _ => vs.length = 2 ∧ ∃ a e y, vs = [.ref a, y] ∧ EndAt K C CE e a H ∧ Neat e ∧ ((∃ b e', y = .ref b ∧ EndAt K C CE e' b H ∧ Neat e' ∧ ∀ H', Ex H H' → Q (.bl (eqE e e')) H') ∨
  ∃ t, (∀ H1, Ex H H1 → TyX K H1 y t) ∧ PySem.W.kitOne K t (.ref CE) = some false ∧ ∀ H', Ex H H' → Q (.bl false) H')
theorem scEqE : FnScope ["self", "other"] ["self", "other"] (defScope mEqE) := ⟨rfl, rfl, rfl, by decide +kernel, rfl, by decide +kernel, by decide +kernel⟩
section
variable {P : Program} {w : World} {K : PySem.W.Frag} {mg : Str → Option Value} {base : Heap} {C CE CS f : Addr} {fd : FuncData}
theorem ok_eqE (F : Fun K "__eq__" "End.__eq__" mEqE f fd) (B : Bc mg) (mE : mg "End" = some (.ref CE)) (T : ClsE K CE) (I : C8.InsC K CE) (S : SetC P w K mg base C CS) : FnOk P w K mg base CX0 3 f fd ["self", "other"] (spEqE K C CE) := by
  refine F.ok scEqE (fun vs H Q E h => h.1) (fun cdv A outer s H vs Q E hr h => ?_)
  obtain ⟨_, a, e, y, rfl, he, N, h⟩ := h
  refine ⟨_, pss_one (ps_ret (pe_and (pe_callB call_isi (by rfl) B.isi boot_isinstance (pa_cons (pv 1) (pa_cons (pe_gref (by rfl) mE) pa_nil)))
    (pe_and (pe_cmpR (op_eqVal S hr (by decide)) (pe_fld (pv 0) rfl) (pe_fld (pv 1) rfl) (nomark _)) (pe_and (pe_cmpR (op_eqVal S hr (by decide)) (pe_fld (pv 0) rfl) (pe_fld (pv 1) rfl) (nomark _)) (pe_and (pe_cmpR (op_eqVal S hr (by decide)) (pe_fld (pv 0) rfl) (pe_fld (pv 1) rfl) (nomark _))
    (pe_one (pe_cmpR op_eq (pe_fld (pv 0) rfl) (pe_fld (pv 1) rfl) (nomark _)))))))), ?_⟩
  have isi : ∀ {t : Value} {b : Bool}, PySem.W.kitOne K t (.ref CE) = some b → (∀ H1, Ex H H1 → TyX K H1 y t) → Ev (tCB (rIsi K) (tCons (tVar 1) (tCons (tC (.ref CE)) tNil))) (L2.start ["self", "other"] [.ref a, y]) H (.bl b) := fun {t b} hk up H1 e Q q =>
    ⟨y, rfl, y, .ref CE, t, .ref CE, b, rfl, .own CE, up H1 e, hk, q H1 (Ex.refl H1)⟩
  obtain ⟨dx, fs, d1, d2, d3, v1, v2, v3, h0, h1, h2, h3, i1, i2, i3, f1, f2, f3, f4, fm⟩ := he.ex
  rcases h with ⟨b, e', rfl, he', N', q⟩ | ⟨t, ty, kt, q⟩
  · obtain ⟨dy, gs, c1, c2, c3, w1, w2, w3, g0, g1, g2, g3, j1, j2, j3, k1, k2, k3, k4, km⟩ := he'.ex
    have ty : ∀ H1, Ex H H1 → TyX K H1 (.ref b) (.ref CE) := fun H1 ex => .base (.ins (ex _ _ g0) T.cl I.ha I.hn I.htk I.hm)
    have sf : ∀ {n : Str} {v : V}, NoAttr K CE n → fs.lookup n = some v → Ev (tFld K (tVar 0) n) (L2.start ["self", "other"] [.ref a, .ref b]) H v := fun n l => ev_fld T.cl n (ev_var rfl) h0 l
    have of_ : ∀ {n : Str} {v : V}, NoAttr K CE n → gs.lookup n = some v → Ev (tFld K (tVar 1) n) (L2.start ["self", "other"] [.ref a, .ref b]) H v := fun n l => ev_fld T.cl n (ev_var rfl) g0 l
    have a1 := ev_eqI (K := K) (C := C) (sf T.settings f1) (of_ T.settings k1) h1 g1 i1 j1 N.so.2.2 N'.so.2.2 fun p hp q hq => by
      obtain ⟨g, eg⟩ := N.sets p hp
      obtain ⟨h, eh⟩ := N'.sets q hq
      rw [eg, eh]
      exact .set g h
    have a2 := ev_eqI (K := K) (C := C) (sf T.uses f2) (of_ T.uses k2) h2 g2 i2 j2 N.su.2.2 N'.su.2.2 fun p hp q hq => by
      obtain ⟨g, eg, _⟩ := N.strs p hp
      obtain ⟨h, eh, _⟩ := N'.strs q hq
      rw [eg, eh]
      exact .str g h
    have a3 := ev_eqI (K := K) (C := C) (sf T.rules f3) (of_ T.rules k3) h3 g3 i3 j3 N.nr N'.nr fun p hp q hq => by
      obtain ⟨g, eg, _⟩ := (N.rules p hp).pairs
      obtain ⟨h, eh, _⟩ := (N'.rules q hq).pairs
      rw [eg, eh]
      exact .dt g h
    refine s_ret (ev_is (ev_andV (isi I.me ty) fun _ => ev_andV a1 fun _ => ev_andV a2 fun _ => ev_andV a3 fun _ => ev_op (sf T.most f4) (of_ T.most k4) (rv_eq rfl)) ?_) fun H1 e1 => q H1 e1
    have : decide (V.int e.most = V.int e'.most) = decide (e.most = e'.most) := by
      rw [Bool.eq_iff_iff, decide_eq_true_iff, decide_eq_true_iff]
      exact ⟨fun h => by injection h, fun h => by rw [h]⟩
    rw [this]
    rfl
  · exact s_ret (ev_is (ev_andV (a := false) (b := false) (isi kt ty) fun c => by cases c) rfl) fun H1 e1 => q H1 e1
end
end Chk
set_option maxHeartbeats 4000000
/-! The class End for those that call it. -/
namespace Chk
open PySem PySem.Spec PyProof.Rows L2 Evl Pd Gd Us Wlk
structure EndC (P : Program) (w : World) (K : PySem.W.Frag) (mg : Str → Option Value) (base : Heap) (C CE CD CB : Addr) : Prop where
  mE : mg "End" = some (.ref CE)
  T : ClsE K CE
  make : ∃ fI fd, Mk K CE fI ∧ L2.Binds K fd psInitE [] ∧ FnOk P w K mg base (L2.CX P w) 7 fI fd psInitE (spInitE K C CE CB)
  words : ∃ f fd, Meth K CE "words" f ∧ L2.Binds K fd ["self"] [] ∧ FnOk P w K mg base CX0 1 f fd ["self"] (spWords K C CE)
  pairs : ∃ f fd, Meth K CE "pairs" f ∧ L2.Binds K fd ["self", "deed"] [] ∧ FnG P w K mg base (L2.CX P w) 3 f fd ["self", "deed"] (spPairs K C CE CD)
  withP : ∃ f fd, Meth K CE "with_pairs" f ∧ L2.Binds K fd ["self", "deed", "pairs"] [] ∧ FnG P w K mg base (L2.CX P w) 9 f fd ["self", "deed", "pairs"] (spWith K C CE CD CB)
  eq : ∃ f fd, OwnNe.EqC K CE f ∧ L2.Binds K fd ["self", "other"] [] ∧ FnOk P w K mg base CX0 3 f fd ["self", "other"] (spEqE K C CE)
  nl : PySem.W.notFirst K CE (.type "list") = true
  most : ∃ p g fd, PropOf K CE "most" p g ∧ L2.Binds K fd ["self"] [] ∧ FnOk P w K mg base CX0 1 g fd ["self"] (getSp CE "_most")
section
variable {X : Cx} {C CE CD CB : Addr} {e o : Expr} {es : List Expr} {p pos apos : Pos} {ta tb : TE} {t : TA} {j : Nat} {E : XK}
theorem pe_end (S : EndC X.prog X.w X.K X.mg X.base C CE CD CB) (hr : Room j X.A) (hk : 8 ≤ j) (hg : Gl X "End") (hx : Passes (L2.CX X.prog X.w) X E) (ha : PA X (e :: es) t)
    (he : starEach (e :: es) X.env = (false, eval e X.env) :: starEach es X.env := by rfl) (hpl : (backTo pos (starEach es X.env)).any (·.1) = false := by rfl) :
    PE X (.Call (.Name "End" p) (e :: es) [] pos) (tMake CE (spInitE X.K C CE CB) [] E t) := by
  obtain ⟨fI, fd, M, b, F⟩ := S.make
  exact pe_make M F (hr.mono hk) hg S.mE b .nil hx ha (by decide) he hpl
theorem pe_wordsE {pl : Sem Bool} (S : EndC X.prog X.w X.K X.mg X.base C CE CD CB) (hr : Room j X.A) (hk : 1 ≤ j) (ho : PE X o ta)
    (ht : eval (.Call (.Attribute o "words" apos) [] [] pos) X.env = (do
      let ov ← eval o X.env
      standAt apos.atName
      let (f, first) ← holding [ov] (getMethod ov "words" pl)
      callWith pos f first (backTo pos (starEach [] X.env)) (backToKw pos (keywordEach [] X.env))) := by rfl) :
    PE X (.Call (.Attribute o "words" apos) [] [] pos) (tMeth CE "words" (spWords X.K C CE) [] (fun _ _ _ => False) ta tNil) := by
  obtain ⟨f, fd, M, b, F⟩ := S.words
  exact pe_meth0 ho S.T.cl M F (hr.mono hk) b .nil pass0 ht
theorem pe_mostP (S : EndC X.prog X.w X.K X.mg X.base C CE CD CB) (hr : Room j X.A) (hk : 2 ≤ j) (ho : PE X o ta) (hab : attributeBase o "most" X.env (eval o X.env) = eval o X.env := by rfl) : PE X (.Attribute o "most" pos) (tProp CE (getSp CE "_most") [] (fun _ _ _ => False) ta) := by
  obtain ⟨pp, g, fd, M, b, F⟩ := S.most
  exact pe_prop ho S.T.cl M F (hr.mono hk) b .nil pass0 hab
theorem pe_pairsE {pl : Sem Bool} (S : EndC X.prog X.w X.K X.mg X.base C CE CD CB) (hr : Room j X.A) (hk : 3 ≤ j) (hg : X.A.guards = some []) (hx : Passes (L2.CX X.prog X.w) X E) (ho : PE X o ta) (ha : PA X (e :: es) t)
    (hst : starEach (e :: es) X.env = (false, eval e X.env) :: starEach es X.env := by rfl) (hpl : (backTo pos (starEach es X.env)).any (·.1) = false := by rfl)
    (ht : eval (.Call (.Attribute o "pairs" apos) (e :: es) [] pos) X.env = (do
      let ov ← eval o X.env
      standAt apos.atName
      let (f, first) ← holding [ov] (getMethod ov "pairs" pl)
      callWith pos f first (backTo pos (starEach (e :: es) X.env)) (backToKw pos (keywordEach [] X.env))) := by rfl) :
    PE X (.Call (.Attribute o "pairs" apos) (e :: es) [] pos) (tMeth CE "pairs" (spPairs X.K C CE CD) [] E ta t) := by
  obtain ⟨f, fd, M, b, F⟩ := S.pairs
  exact pe_methG ho S.T.cl M F (hr.mono hk) hg b hx ha hst hpl ht
theorem pe_withE {pl : Sem Bool} (S : EndC X.prog X.w X.K X.mg X.base C CE CD CB) (hr : Room j X.A) (hk : 9 ≤ j) (hg : X.A.guards = some []) (hx : Passes (L2.CX X.prog X.w) X E) (ho : PE X o ta) (ha : PA X (e :: es) t)
    (hst : starEach (e :: es) X.env = (false, eval e X.env) :: starEach es X.env := by rfl) (hpl : (backTo pos (starEach es X.env)).any (·.1) = false := by rfl)
    (ht : eval (.Call (.Attribute o "with_pairs" apos) (e :: es) [] pos) X.env = (do
      let ov ← eval o X.env
      standAt apos.atName
      let (f, first) ← holding [ov] (getMethod ov "with_pairs" pl)
      callWith pos f first (backTo pos (starEach (e :: es) X.env)) (backToKw pos (keywordEach [] X.env))) := by rfl) :
    PE X (.Call (.Attribute o "with_pairs" apos) (e :: es) [] pos) (tMeth CE "with_pairs" (spWith X.K C CE CD CB) [] E ta t) := by
  obtain ⟨f, fd, M, b, F⟩ := S.withP
  exact pe_methG ho S.T.cl M F (hr.mono hk) hg b hx ha hst hpl ht
theorem op_eqEnd (S : EndC X.prog X.w X.K X.mg X.base C CE CD CB) (hr : Room j X.A) (hk : 3 ≤ j) : OpR X (compareOp .Eq) (OwnNe.rOwn CE (spEqE X.K C CE) false) := by
  obtain ⟨f, fd, M, b, F⟩ := S.eq
  exact OwnNe.op_eqOwn F M b (hr.mono hk) S.nl
theorem op_neEnd (S : EndC X.prog X.w X.K X.mg X.base C CE CD CB) (hr : Room j X.A) (hk : 4 ≤ j) : OpR X (compareOp .NotEq) (OwnNe.rOwn CE (spEqE X.K C CE) true) := by
  obtain ⟨f, fd, M, b, F⟩ := S.eq
  exact OwnNe.op_neOwn F M b (hr.mono hk) S.nl
end
section
variable {K : PySem.W.Frag} {C CE CD CB : Addr} {σ : L2.St} {H : Hp} {te ty tz ta tb : TE} {e e' : Eg} {s : Str} {dp : PyData} {E : XK}
theorem end_rul {x : V} (h : EndV K C CE e x H) : RulV K C CE e.rules x H := let ⟨a, h1, h2⟩ := h; ⟨a, h1, h2.rul⟩
theorem p_wordsE (h : EvP te σ H (EndV K C CE e)) (sm : Small e.own) : EvP (tMeth CE "words" (spWords K C CE) [] E te tNil) σ H (Qe (.list (e.own.map fun p => keyD p.1))) := fun H1 e1 Q q =>
  h H1 e1 _ fun x H2 e2 ⟨a, ex, at_⟩ => by
    obtain ⟨dx, fs, d1, d2, d3, v1, v2, v3, h0, _, _, _, _, _, _, _, _, _, _, fm⟩ := at_.ex
    exact ⟨a, dx, fs, ex, h0, fm _ (by decide), rfl, a, e, by rw [ex]; rfl, at_, sm, fun y H3 e3 _ p => q y H3 (e2.trans e3) p⟩
theorem ev_mostE (h : EvP te σ H (EndV K C CE e)) : Ev (tProp CE (getSp CE "_most") [] E te) σ H (.int e.most) := fun H1 e1 Q q =>
  h H1 e1 _ fun x H2 e2 ⟨a, ex, at_⟩ => by
    obtain ⟨dx, fs, d1, d2, d3, v1, v2, v3, h0, _, _, _, _, _, _, _, _, _, f4, fm⟩ := at_.ex
    exact ⟨a, dx, fs, ex, h0, a, dx, fs, _, rfl, h0, f4, q H2 e2⟩
theorem p_pairsE (h : EvP te σ H (EndV K C CE e)) (N : Neat e) (hd : Ev ty σ H (.str s)) (hs : s ∈ deedsT) : EvP (tMeth CE "pairs" (spPairs K C CE CD) [] E te (tCons ty tNil)) σ H (fun z H' => PairsV H (pairsOf e.rules s) z H') :=
  p_pairsM (h.imp fun _ _ _ p => end_rul p) hd hs N.nr N.rules
theorem p_withE (h : EvP te σ H (EndV K C CE e)) (N : Neat e) (hd : Ev ty σ H (.str s)) (hs : s ∈ deedsT) (hp : EvP tz σ H (Qe dp)) (few : Few dp) (sh : Short dp) (ok : okD dp = true) : EvP (tMeth CE "with_pairs" (spWith K C CE CD CB) [] E te (tCons ty (tCons tz tNil))) σ H (EndV K C CE (withE e s dp)) := fun H1 e1 Q q =>
  h H1 e1 _ fun x H2 e2 ⟨a, ex, at_⟩ => by
    obtain ⟨dx, fs, d1, d2, d3, v1, v2, v3, h0, _, _, _, _, _, _, _, _, _, _, fm⟩ := at_.ex
    refine ⟨a, dx, fs, ex, h0, fm _ (by decide), hd H2 (e1.trans e2) _ fun H3 e3 => hp H3 (e1.trans (e2.trans e3)) _ fun z H4 e4 pz => ⟨rfl, x, .str s, z, .str s, dp, e, rfl, ⟨a, ex, at_.up (e3.trans e4)⟩, N, .str s, pz, few, sh, fun t et _ _ r H5 e5 p => ?_, fun t et _ c => (by rw [ok] at c; cases c), fun c => (by rw [deed_in hs] at c; cases c)⟩⟩
    cases et
    exact q r H5 (e2.trans (e3.trans (e4.trans e5))) p
/-- with_pairs of a deed or of pairs that are none -/
theorem with_bad {Q : VK} {d : PyData} (h : EvP te σ H (EndV K C CE e)) (N : Neat e) (hd : EvP ty σ H (Qe d)) (hp : EvP tz σ H (Qe dp)) (few : Few dp) (sh : Short dp) (bad : inT deedsT d = false ∨ okD dp = false)
    (hE1 : inT deedsT d = false → ∀ y o H', Ex H H' → H' o = none → Dq H' y d → E (.ref CD) (some o) (upd H' o (.xd [("value", y)])))
    (hE2 : inT deedsT d = true → ∀ o H', Ex H H' → H' o = none → E (.ref CB) (some o) (upd H' o (.xd [("part", .str "rules")]))) : tMeth CE "with_pairs" (spWith K C CE CD CB) [] E te (tCons ty (tCons tz tNil)) σ H Q :=
  h H (Ex.refl H) _ fun x H2 e2 ⟨a, ex, at_⟩ => by
    obtain ⟨dx, fs, d1, d2, d3, v1, v2, v3, h0, _, _, _, _, _, _, _, _, _, _, fm⟩ := at_.ex
    refine ⟨a, dx, fs, ex, h0, fm _ (by decide), hd H2 e2 _ fun y H3 e3 py => hp H3 (e2.trans e3) _ fun z H4 e4 pz => ⟨rfl, x, y, z, d, dp, e, rfl, ⟨a, ex, at_.up (e3.trans e4)⟩, N, mo_qe _ _ _ e4 py, pz, few, sh, fun t et ht ok => ?_, fun t et ht _ o H5 e5 ho => hE2 (by rw [et]; exact deed_in ht) o H5 (e2.trans (e3.trans (e4.trans e5))) ho, fun c o H5 e5 ho => hE1 c y o H5 (e2.trans (e3.trans (e4.trans e5))) ho (mo_qe _ _ _ (e4.trans e5) py)⟩⟩
    rcases bad with c | c
    · rw [et, deed_in ht] at c
      cases c
    · rw [ok] at c
      cases c
/-- two ends, == and != -/
theorem ev_ownE {neg : Bool} (h1 : EvP ta σ H (EndV K C CE e)) (h2 : EvP tb σ H (EndV K C CE e')) (N : Neat e) (N' : Neat e') : Ev (tOp (OwnNe.rOwn CE (spEqE K C CE) neg) ta tb) σ H (.bl (if neg then !eqE e e' else eqE e e')) := fun H1 x Q q =>
  h1 H1 x _ fun y H2 e2 p1 => h2 H2 (x.trans e2) _ fun z H3 e3 ⟨b, eb, at2⟩ => by
    obtain ⟨a, rfl, at1⟩ := mo_end _ _ _ e3 p1
    subst eb
    obtain ⟨dx, fs, d1, d2, d3, v1, v2, v3, h0, _⟩ := id at1.ex
    obtain ⟨dy, gs, c1, c2, c3, w1, w2, w3, g0, _⟩ := id at2.ex
    exact ⟨a, dx, fs, rfl, h0, .inl ⟨b, dy, gs, rfl, g0⟩, rfl, a, e, .ref b, rfl, at1, N, .inl ⟨b, e', rfl, at2, N', fun H4 e4 => ⟨_, rfl, q H4 (e2.trans (e3.trans e4))⟩⟩⟩
end
end Chk
set_option maxHeartbeats 1000000
/-! What an expression gives where the tables of code objects may grow. -/
namespace Lw
open PySem PySem.Spec PyProof.Rows L2 Evl Pd Gd Us Chk LamX LamK
def MoN (P : PV) : Prop := ∀ x H H', ExtN H H' → P x H → P x H'
theorem mon_is {v : V} : MoN (Is v) := fun _ _ _ _ h => h
theorem mon_qe {d : PyData} : MoN (Qe d) := fun _ _ _ e h => dq_ext e h
theorem mon_set {C : Addr} {g : Stg} : MoN (SetV C g) := fun _ _ _ e ⟨a, h, dx, d, fs, h1, h2, h3⟩ => ⟨a, h, dx, d, fs, e _ _ h1 fun _ z => (nomatch z), e _ _ h2 fun _ z => (nomatch z), h3⟩
theorem mon_pool {K : PySem.W.Frag} : MoN (PoolV K) := fun _ _ _ e ⟨p, a, h1, h2, ns, h3, h4, h5⟩ => ⟨p, a, h1, e _ _ h2 (fun _ z => by unfold poolO at z; cases z), ns, h3, h4, e _ _ h5 fun _ z => nomatch z⟩
theorem ext_sql {K : PySem.W.Frag} {H H' : Hp} {a : Addr} {xs : List V} (e : ExtN H H') (h : SqL K H a xs) : SqL K H' a xs := by
  rcases h with (h | ⟨o, h⟩) | h
  · exact .inl (.inl (e _ _ h fun _ z => nomatch z))
  · exact .inl (.inr ⟨o, e _ _ h fun _ z => nomatch z⟩)
  · exact .inr h
theorem nn {H H' : Hp} {p : Addr} (e : ExtN H H') (h : H' p = none) (t : ∀ ps, H p ≠ some (.tbl ps)) : H p = none := by
  cases h1 : H p with
  | none => rfl
  | some o =>
    have := e p o h1 fun ps z => t ps (by rw [h1, z])
    rw [h] at this
    cases this
def EN (T : TabT) (te : TE) (σ : L2.St) (H : Hp) (P : PV) : Prop := ∀ H1, ExtN H H1 → Tabs T H1 → ∀ Q : VK, (∀ x H2, ExtN H1 H2 → Tabs T H2 → P x H2 → Q x H2) → te σ H1 Q
def ENT (T : TabT) (tt : TT) (σ : L2.St) (H : Hp) (b : Bool) : Prop := ∀ H1, ExtN H H1 → Tabs T H1 → ∀ Q : Bool → Hp → Prop, (∀ H2, ExtN H1 H2 → Tabs T H2 → Q b H2) → tt σ H1 Q
section
variable {T : TabT} {σ : L2.St} {H : Hp} {te ta tb : TE} {P P1 P2 : PV} {K : PySem.W.Frag} {E : XK} {d e : PyData} {ds : List PyData} {t u : TT} {b c : Bool}
theorem n_of (h : ∀ H1, ExtN H H1 → EvP te σ H1 P) : EN T te σ H P := fun H1 e hT Q q => h H1 e H1 (Ex.refl _) Q fun x H2 e2 p => q x H2 (ExtN.of e2) (hT.ext e2) p
theorem n_ofE {v : V} (h : ∀ H1, ExtN H H1 → Ev te σ H1 v) : EN T te σ H (Is v) := n_of fun H1 e => .of (h H1 e) mo_is rfl
theorem nt_of (h : ∀ H1, ExtN H H1 → EvT t σ H1 b) : ENT T t σ H b := fun H1 e hT Q q => h H1 e H1 (Ex.refl _) Q fun H2 e2 => q H2 (ExtN.of e2) (hT.ext e2)
theorem nt_test (h : EN T te σ H (Is (.bl b))) : ENT T (tTest te) σ H b := fun H1 e hT Q q => h H1 e hT _ fun x H2 e2 t2 p => ⟨b, p, q H2 e2 t2⟩
theorem nt_and (h1 : ENT T t σ H b) (h2 : b = true → ENT T u σ H c) : ENT T (tAnd t u) σ H (b && c) := fun H1 e hT Q q => h1 H1 e hT _ fun H2 e2 t2 => by
  cases b with
  | true =>
    show u σ H2 Q
    exact h2 rfl H2 (e.trans e2) t2 Q fun H3 e3 t3 => q H3 (e2.trans e3) t3
  | false =>
    show Q false H2
    exact q H2 e2 t2
theorem n_ne (h1 : EN T ta σ H (Qe d)) (h2 : EN T tb σ H (Qe e)) (sd : SeqAt.shaped d = true) (se : SeqAt.shaped e = true) : EN T (tOp (rNeD K) ta tb) σ H (Is (.bl (!PyData.eqv d e))) := fun H1 a hT Q q =>
  h1 H1 a hT _ fun x H2 e2 t2 p1 => h2 H2 (a.trans e2) t2 _ fun y H3 e3 t3 p2 => ⟨d, e, dq_dp (dq_ext e3 p1), dq_dp p2, sd, se, q _ H3 (e2.trans e3) t3 rfl⟩
theorem n_eq (h1 : EN T ta σ H (Qe d)) (h2 : EN T tb σ H (Qe e)) (sd : SeqAt.shaped d = true) (se : SeqAt.shaped e = true) : EN T (tOp (rEqD K) ta tb) σ H (Is (.bl (PyData.eqv d e))) := fun H1 a hT Q q =>
  h1 H1 a hT _ fun x H2 e2 t2 p1 => h2 H2 (a.trans e2) t2 _ fun y H3 e3 t3 p2 => ⟨d, e, dq_dp (dq_ext e3 p1), dq_dp p2, sd, se, q _ H3 (e2.trans e3) t3 rfl⟩
theorem n_srt (h : EN T ta σ H (Qe (.list ds))) (hs : ∀ d ∈ ds, Showy d) : EN T (tCall (spSrt T) [] E (tCons ta tNil)) σ H (Qe (.list (sortD ds))) := fun H1 a hT Q q =>
  h H1 a hT _ fun x H2 e2 t2 p => ⟨rfl, x, ds, rfl, p, hs, t2, fun y H3 e3 t3 p2 => q y H3 (e2.trans e3) t3 p2⟩
/-! statements -/
variable {D : Ends} {tz tu tw : TS}
theorem n_when (h : ENT T t σ H false) (hT : Tabs T H) (k : ∀ H1, ExtN H H1 → Tabs T H1 → tz D σ H1) : tSeq (tIfS t tu tNext) tz D σ H := h H (ExtN.refl H) hT _ fun H1 e t1 => k H1 e t1
theorem n_whenE (h : ENT T t σ H false) (hT : Tabs T H) (k : ∀ H1, ExtN H H1 → Tabs T H1 → D.nx σ H1) : tIfS t tu tNext D σ H := h H (ExtN.refl H) hT _ fun H1 e t1 => k H1 e t1
theorem n_asg {i : Nat} (h : EN T te σ H P) (hT : Tabs T H) (k : ∀ x H1, ExtN H H1 → Tabs T H1 → P x H1 → tz D (σ.set i (some x)) H1) : tSeq (tAsg te (gName i)) tz D σ H := h H (ExtN.refl H) hT _ k
theorem n_ret (h : EN T te σ H P) (hT : Tabs T H) (k : ∀ x H1, ExtN H H1 → P x H1 → D.rt x H1) : tRet te D σ H := h H (ExtN.refl H) hT _ fun x H1 e _ p => k x H1 e p
end
section
variable {T : TabT} {K : PySem.W.Frag} {σ : L2.St} {H : Hp} {te ta tb tix : TE} {t : TT} {E : XK} {D : Ends} {tz : TS}
theorem nt_is {b c : Bool} (h : ENT T t σ H b) (e : b = c) : ENT T t σ H c := by
  rw [← e]
  exact h
/-- a new list gets an item and is forgotten -/
theorem q_appNew {ds : List PyData} {v : V} (ha : EvP ta σ H (fun y H' => (∃ r, y = .ref r ∧ H r = none) ∧ Qe (.list ds) y H')) (h : ∀ H1, Ex H H1 → Ev te σ H1 v) (hz : ds.length < 100000) (k : ∀ H1, Ex H H1 → tz D σ H1) :
    tSeq (tDrop (tBM K "list" rAppend ta (tCons te tNil))) tz D σ H := ha H (Ex.refl H) _ fun x H1 e1 ⟨⟨r, er, nr⟩, p⟩ => by
  subst er
  cases p with
  | @lst _ xs _ z hl hd =>
    exact ⟨Or.inl ⟨rfl, xs, sq_of hl⟩, h H1 e1 H1 (Ex.refl _) _ fun H2 e2 => ⟨r, xs, v, rfl, rfl, e2 _ _ hl, sz_lt (by rw [dqAll_len hd]; exact hz), k _ ((e1.trans e2).mut nr)⟩⟩
end
end Lw
set_option maxHeartbeats 4000000
/-! repr of data. -/
namespace Gd
open PySem PySem.Spec PyProof.Rows L2 Evl Pd
structure Repable (d : PyData) : Prop where
  sh : d.showable = true
  nd : d.hasDict = false
  dp : d.depth ≤ 40
  ln : d.shown.length ≤ sizeLine
  int : ∀ i, d = .int i → i.natAbs.log2 < 1920
def rReprD (K : PySem.W.Frag) : List V → Hp → VK → Prop := fun xs H Q => ∃ x d, xs = [x] ∧ Dp K H x d ∧ Repable d ∧ Q (.str d.shown) H
section
variable {X : Cx}
theorem cr_reprD (hg : X.A.guards = some []) (hu : X.A.units + 64 < cLine) : CallR X (.builtin "repr") (rReprD X.K) := by
  intro pins s σ H xs us Q I r h
  obtain ⟨x, d, rfl, hd, R, q⟩ := h
  obtain ⟨u, rfl, ru⟩ := vals1 r
  obtain ⟨as, rd⟩ := Dp.reads I d x u hd ru
  have fin : ∀ t : Tok, ∀ s', Inv X pins σ H s' → EP X pins σ Q (.str d.shown t) s' := fun t s' J => ⟨.str d.shown, H, J, ⟨t, rfl⟩, q⟩
  have big : ∀ {a : Addr}, Reads s.heap (.ref a) d as → wpAny (model X.prog X.w) X.A (call (.builtin "repr") [.ref a]) (EP X pins σ Q) X.xe s := fun {a} rd =>
    PySem.repr_of_reads' rd R.sh (PyData.noDict_hsm R.nd) hg (by have := R.dp; omega) (fun _ _ z => z) (fun h' t tk kp => fin t _ (I.kept (t' := tk) kp)) R.ln
  cases rd with
  | none => exact PySem.P.repr_of_none (by have := fin s.toks _ (I.tok (s.toks + 1)); simpa [PyData.shown] using this)
  | bool b => exact PySem.P.repr_of_bool (by have := fin s.toks _ (I.tok (s.toks + 1)); cases b <;> simpa [PyData.shown] using this)
  | int i t => exact PySem.P.repr_of_int (R.int i rfl) (by have := fin s.toks _ (I.tok (s.toks + 1)); simpa [PyData.shown] using this)
  | str y t => exact PySem.P.repr_of_str (by have := fin s.toks _ (I.tok (s.toks + 1)); simpa [PyData.shown] using this) (by have := R.ln; simpa [PyData.shown] using this)
  | list h1 h2 h3 h4 => exact big (.list h1 h2 h3 h4)
  | tuple h1 h2 h3 h4 => exact big (.tuple h1 h2 h3 h4)
  | dict h1 h2 h3 h4 h5 => exact big (.dict h1 h2 h3 h4 h5)
end
section
variable {K : PySem.W.Frag} {σ : L2.St} {H : Hp} {te : TE} {d : PyData}
theorem ev_reprD (h : EvP te σ H (De K d)) (R : Repable d) : Ev (tCB (rReprD K) (tCons te tNil)) σ H (.str d.shown) := fun H1 e Q q => h H1 e _ fun x H2 e2 p => ⟨x, d, rfl, p, R, q H2 e2⟩
end
end Gd
set_option maxHeartbeats 4000000
/-! A lambda that is handed to a def and called there, where no repr is under way. -/
namespace LamG
open PySem PySem.Spec PyProof.Rows L2 Evl LamX
section
variable {X : Cx} {pins : List (Addr × Obj)} {σ : L2.St} {H : Hp} {s : Shared}
/-- the call of the lambda by the def that got it -/
theorem act {CY : CXT} {EY : XK} {Ny : List Str} {qy : Str} {sy : Scope} {g f lc : Addr} {gv pm ctv : Value} {ps : Arguments} {bd : Expr} {scope : Scope} {k i : Nat} {a : Str} {pn : List (Addr × Obj)} {xe : Value → Shared → Prop} {W : WX} {E : XK} {tb : TE} {p1 p2 : Pos}
    (I : Inv X pins σ H s) (L : LamS X.env.scope scope) (hf : s.heap.get? f = some (PySem.W.kla_obj "<lambda>" (X.env.qual ++ "<lambda>") ps bd scope (cloFrom X.env.cells scope.names []) pm lc ctv)) (nf : H f = none) (ff : f ∉ frs X.stack)
    (bind0 : bindArgs (PySem.W.kla_fn "<lambda>" (X.env.qual ++ "<lambda>") ps bd scope (cloFrom X.env.cells scope.names []) pm (.ref lc) ctv) ⟨[], []⟩ = pure [])
    (tk : Takes ((cxOf CY X.prog X.w X.K X.mg X.base Ny qy sy g gv X.A X.stack s H EY).tr pn xe) W) (hW : ∀ cls d σ' H', E cls d H' → W cls d σ' H') (hr : Room (k + 1) (X.A.deeper (envOfC qy sy s.heap.objs.size g gv))) (hg : X.A.guards = some [])
    (body : ∀ (A : Around) (outer : List Env) (s : Shared) (H : Hp), Room k (A.deeper (lamEnv X scope s.heap.objs.size f lc)) → (A.deeper (lamEnv X scope s.heap.objs.size f lc)).guards = some [] → PE (lamCx X A outer s H E scope f lc) bd tb)
    (at_ : Ny[i]? = some a) (vis : Vis sy a) (d1 : (a == ("__debug__" : Str)) = false := by decide) (d2 : (a == ("__classdict__" : Str)) = false := by decide) :
    PE ((cxOf CY X.prog X.w X.K X.mg X.base Ny qy sy g gv X.A X.stack s H EY).tr pn xe) (.Call (.Name a p1) [] [] p2) (fun τ G Q => τ[i]? = some (some (.ref f)) ∧ G lc = some (CodeO lc (X.env.qual ++ "<lambda>")) ∧ tb σ G Q) := by
  refine ⟨fun pz sz τ G Q J ⟨h1, h2, h3⟩ => ?_⟩
  have look := (pe_var (X := (cxOf CY X.prog X.w X.K X.mg X.base Ny qy sy g gv X.A X.stack s H EY).tr pn xe) (pos := p1) (i := i) at_ vis d1 d2).run pz sz τ G (fun v G' => v = .ref f ∧ G' = G) J ⟨.ref f, h1, rfl, rfl⟩
  refine wpAny_Call_Name_kw (thn look fun u s1 ⟨v, G1, J1, rv, ev, eG⟩ => ?_)
  subst ev eG
  obtain rfl : u = Value.ref f := rv
  have fn1 := J1.base.keep f _ hf nf ff (fun z => nomatch (show f ∈ ([] : List Addr) from z))
  refine PySem.W.callWith_F0 ⟨_, _, _, _, fn1⟩ ?_
  have grown : Un (frs X.stack) [] H G1 s.heap s1.heap := J1.base
  obtain ⟨⟨oc, vs, t, c1, c2, c3⟩, _, _⟩ := J1.hok lc _ h2
  have run : codeAny (model X.prog X.w) (X.A.deeper (envOfC qy sy s.heap.objs.size g gv)) (.call (.ref f) ⟨[], []⟩) (CR (L2.CX X.prog X.w) (envOfC qy sy s.heap.objs.size g gv :: X.stack) X.prog X.w G1 s1 Q E) s1 := by
    refine PySem.W.kla_callFunE hr.depth fn1 rfl L.co L.gen rfl ⟨lc, oc, vs, t, rfl, c1, c2, c3⟩ ?_
    rw [bind0]
    refine wpAny_pure (wpAny_newFunctionEnv (fun y hy => (L.own y hy).2) (fun y hy => absurd hy (by simp)) (fun hp hns hsb => ⟨J1.nolimit.fresh _ hsb, ?_⟩) L.kind)
    have kept : ∀ b o, s1.heap.get? b = some o → hp.get? b = some o := fun b o e => hsb.extBut b o (Nat.ne_of_lt (Heap.lt_size e)) (Heap.get?_push_of_some _ e)
    have J2 := lam_start2 (E := E) (tk := s1.toks + ([] : List (Str × Value)).length) (f := f) (c' := lc) I L J1.env0 hr.hd grown hns kept
    refine PySem.W.kla_codeExpr (wpAny_mono ((body _ _ s1 G1 (hr.deeper _) hg).run [] _ _ G1 Q J2 h3) (fun v s' ⟨w', H', J', rv, q⟩ => ⟨w', H', J'.os, J'.bare, J'.base, J'.hok, rv, q⟩) fun e s' hq => hq)
  have out : Passes (L2.CX X.prog X.w) ((cxOf CY X.prog X.w X.K X.mg X.base Ny qy sy g gv X.A X.stack s H EY).tr pn xe) E := passes_call tk hW
  refine wpAny_call (codeAny_mono run fun r s' hq => ?_)
  match r, hq with
  | .error e, hq => exact out pz τ G1 s1 e s' J1 hq
  | .ok (.ret u), hq => exact J1.after hq
  | .ok .next, hq => exact False.elim hq
  | .ok .brk, hq => exact False.elim hq
  | .ok .cont, hq => exact False.elim hq
end
section
variable {X : Cx}
/-- g(lambda: body) -/
theorem pe_lamG {T : List (Addr × Str)} {TT : (XK → Hp → VK → Prop) → Hp → VK → Prop} {x a : Str} {g c P : Addr} {k : Nat} {pg ps : Arguments} {bg : List Stmt} {sg scope : Scope} {dV kV doc pm cdv ct oc : Value} {an od : Option Addr} {osl : Array (Option Value)} {Ng : List Str} {bd : Expr} {t : XK → TE} {p lpos pos : Pos}
    (gl : Gl X x) (m : X.mg x = some (.ref g)) (kp : PySem.W.keepIn X.K (.ref g) = true) (lk : X.K.lookup g = some ⟨oc, od, .func (PySem.W.fnOf x x pg bg sg dV kV doc pm an cdv ct), osl⟩) (hcg : PySem.W.codeIn X.K cdv x = true)
    (hb : L2.Binds X.K (PySem.W.fnOf x x pg bg sg dV kV doc pm an cdv ct) [a] []) (Sg : FnScope Ng [a] sg) (n0 : Ng[0]? = some a) (va : Vis sg a) (gives : GivesTo X Ng x sg g cdv bg a (X.env.qual ++ "<lambda>") TT)
    (TB : TabB X.base X.mg c P) (code : X.env.code = .ref c) (mT : (P, X.env.qual ++ "<lambda>") ∈ T) (uT : ∀ p ∈ T, p.1 = P → p.2 = X.env.qual ++ "<lambda>") (hr : Room (k + 2) X.A) (hg : X.A.guards = some []) (L : LamS X.env.scope scope) (hdef : defaultsOf ps X.env = ([], []))
    (bind0 : ∀ (q : Str) (cl : List (Str × Addr)) (pm cv ctv : Value), bindArgs (PySem.W.kla_fn "<lambda>" q ps bd scope cl pm cv ctv) ⟨[], []⟩ = pure [])
    (body : ∀ (A : Around) (outer : List Env) (s : Shared) (H : Hp) (E : XK) (f lc : Addr), Room k (A.deeper (lamEnv X scope s.heap.objs.size f lc)) → (A.deeper (lamEnv X scope s.heap.objs.size f lc)).guards = some [] → PE (lamCx X A outer s H E scope f lc) bd (t E))
    (e1 : (x == ("__debug__" : Str)) = false := by decide) (e2 : (a == ("__debug__" : Str)) = false := by decide) (e3 : (a == ("__classdict__" : Str)) = false := by decide) : PE X (.Call (.Name x p) [.Lambda ps bd scope lpos] [] pos) (tLam T TT t) := by
  refine ⟨fun pins s σ H Q I ⟨hT, h⟩ => ?_⟩
  refine wpAny_Call_Name_kw (ld_glob I gl m ?_ e1)
  refine PySem.W.callWith_K (h₀ := X.base) I.ok.mod.kin kp ?_ (by rfl) (by rfl)
  show wpAny _ _ (spliced ((false, eval (.Lambda ps bd scope lpos) X.env) :: backTo pos (starEach [] X.env))) _ _ s
  refine Calls.spliced_cons (lam_make2 I TB code mT uT hT hdef (L.has I.ok) fun f lc pm' ctv H1 s' J eN T1 o1 o2 o3 o4 => Calls.spliced_nil ⟨J.kIn, ?_⟩)
  refine wpAny_call (codeAny_mono (run_ofS (CX := C8.CX0) (Q := Q) (E := C8.E0) (N := Ng) (ps := [a]) (us := [.ref f]) (vs := [.ref f]) lk hcg Sg hr J.env0 (hb s' [.ref f] J.kIn rfl) (.cons rfl .nil) rfl fun hr' => ?_) fun r s2 hq => ?_)
  · obtain ⟨t', ht', hq'⟩ := gives f lc s' H1 Q (fun E H' Q' => t E σ H' Q') (fun W pn xe E p1 p2 tk hW => act (i := 0) J L o1 o2 o3 (bind0 _ _ _ _ _) tk hW hr' hg (fun A outer s H hr2 hg2 => body A outer s H E f lc hr2 hg2) n0 va e2 e3) o4 (h H1 eN T1)
    exact ⟨t', ht'.nox, hq'⟩
  · match r, hq with
    | .error e, hq => exact (show False from hq).elim
    | .ok (.ret u), hq => exact J.after hq
    | .ok .next, hq => exact False.elim hq
    | .ok .brk, hq => exact False.elim hq
    | .ok .cont, hq => exact False.elim hq
end
end LamG
set_option maxHeartbeats 4000000
/-! _law_bad: what a call raises, told as a list. -/
namespace Lw
open PySem PySem.Spec PyProof.Rows L2 Evl Pd Gd Us Chk LamX LamK TryAs
abbrev sBad : Stmt := Tp.s__law_bad
/-- an error that is told: its class, its label, its field, whether its field is told by repr -/
structure Er where
  C : Addr
  lab : Str
  fd : Str
  rep : Bool
def TellsOf (K : PySem.W.Frag) (r : Er) (v w : V) (H : Hp) : Prop := if r.rep then ∃ dt, Dp K H v dt ∧ Repable dt ∧ w = .str dt.shown else w = v
def TBad (K : PySem.W.Frag) (l : List Er) : (XK → Hp → VK → Prop) → Hp → VK → Prop := fun tl H Q =>
  tl (fun k d H' => ∃ l1 r l2 dd v w, l = l1 ++ r :: l2 ∧ k = .ref r.C ∧ d = some dd ∧ H' dd = some (.xd [(r.fd, v)]) ∧ TellsOf K r v w H' ∧ ∀ p, H' p = none → Q (.ref p) (upd H' p (.lst [.str r.lab, w]))) H fun _ H' => Q .non H'
def tTell (K : PySem.W.Frag) (r : Er) (a : Addr) (k : Value) (d : Option Addr) : TE := if r.rep then tCB (rReprD K) (tCons (tXf a k d r.C r.fd (tVar 1)) tNil) else tXf a k d r.C r.fd (tVar 1)
def clOf (K : PySem.W.Frag) (r : Er) : Cl := ⟨.ref r.C, some 1, fun a k d => tRet (tLst (tCons (tC (.str r.lab)) (tCons (tTell K r a k d) tNil)))⟩
theorem lk1 {f : Str} {v : V} : List.lookup f [(f, v)] = some v := by simp [List.lookup]
theorem wish_at {K : PySem.W.Frag} {W : WX} {D : Ends} {k : Value} {d : Option Addr} {σ : L2.St} {H : Hp} : ∀ {l1 : List Cl} {c : Cl} {l2 : List Cl}, (∀ b ∈ l1, PySem.W.exmOne K k b.cls = some false) → PySem.W.exmOne K k c.cls = some true → (∀ a, H a = none → runs c a k d D σ H) → wish K W D (l1 ++ c :: l2) k d σ H
  | [], c, l2, _, h2, h3 => ⟨true, h2, fun _ => h3, fun z => nomatch z⟩
  | b :: l1, c, l2, h1, h2, h3 => ⟨false, h1 b List.mem_cons_self, fun z => (nomatch z), fun _ => wish_at (fun b hb => h1 b (List.mem_cons_of_mem _ hb)) h2 h3⟩
/-- the errors' classes -/
def errs (a0 a1 a2 a3 a4 a5 a6 a7 a8 a9 : Addr) : List Er := [⟨a0, "setting", "part", false⟩, ⟨a1, "end", "part", false⟩, ⟨a2, "pact", "part", false⟩, ⟨a3, "name", "value", true⟩, ⟨a4, "deed", "value", true⟩, ⟨a5, "argument", "value", true⟩, ⟨a6, "state", "value", true⟩, ⟨a7, "move", "value", true⟩, ⟨a8, "script", "at", false⟩, ⟨a9, "claim", "value", true⟩]
structure Errs (K : PySem.W.Frag) (mg : Str → Option Value) (a0 a1 a2 a3 a4 a5 a6 a7 a8 a9 aX : Addr) : Prop where
  m0 : mg "BadSetting" = some (.ref a0)
  m1 : mg "BadEnd" = some (.ref a1)
  m2 : mg "BadPact" = some (.ref a2)
  m3 : mg "BadName" = some (.ref a3)
  m4 : mg "BadDeed" = some (.ref a4)
  m5 : mg "BadArgument" = some (.ref a5)
  m6 : mg "BadState" = some (.ref a6)
  m7 : mg "BadMove" = some (.ref a7)
  m8 : mg "BadScript" = some (.ref a8)
  m9 : mg "BadClaim" = some (.ref a9)
  mX : mg "PactError" = some (.ref aX)
  xf : ∀ r ∈ errs a0 a1 a2 a3 a4 a5 a6 a7 a8 a9, XfC K r.C ∧ PySem.W.findIn K (.ref r.C) r.fd = some none
  ex : ∀ l1 r l2, errs a0 a1 a2 a3 a4 a5 a6 a7 a8 a9 = l1 ++ r :: l2 → (∀ c ∈ l1, PySem.W.exmOne K (.ref r.C) (.ref c.C) = some false) ∧ PySem.W.exmOne K (.ref r.C) (.ref r.C) = some true
  repr : mg "repr" = none
theorem scBad : FnScope ["call", "e"] ["call"] (defScope sBad) := ⟨rfl, rfl, rfl, by decide +kernel, rfl, by decide +kernel, by decide +kernel⟩
theorem takes_len {X : Cx} {W : WX} (t : Takes X W) : Takes X (fun cls d σ H => σ.length = X.N.length → W cls d σ H) := fun u s' x => by
  obtain ⟨a, B, sI, pins, σ, H, cls, d, e, I, nb, up, sky, na, os, ag, w⟩ := x
  exact t u s' ⟨a, B, sI, pins, σ, H, cls, d, e, I, nb, up, sky, na, os, ag, w I.len⟩
theorem bad_gives {X : Cx} {g : Addr} {cdg : Value} {q : Str} {a0 a1 a2 a3 a4 a5 a6 a7 a8 a9 aX : Addr} (R : Errs X.K X.mg a0 a1 a2 a3 a4 a5 a6 a7 a8 a9 aX) (hg : X.A.guards = some []) {k0 : Nat} (hr0 : Room (k0 + 1) X.A) :
    GivesTo X ["call", "e"] "_law_bad" (defScope sBad) g cdg (defBody sBad) "call" q (TBad X.K (errs a0 a1 a2 a3 a4 a5 a6 a7 a8 a9)) := by
  intro f c' s H Q tl act hc h
  have xp : ∀ r ∈ errs a0 a1 a2 a3 a4 a5 a6 a7 a8 a9, ∀ (a : Addr) (o : Obj) (k : Value) (d : Option Addr) (pn : List (Addr × Obj)), Zc k d o → (∃ vs, o.data = .fields vs) → ∀ {p1 p2 : Pos},
      PE ((cxOf C8.CX0 X.prog X.w X.K X.mg X.base ["call", "e"] "_law_bad" (defScope sBad) g cdg X.A X.stack s H C8.E0).nox.suite a ((a, o) :: pn)) (.Attribute (.Name "e" p1) r.fd p2) (tXf a k d r.C r.fd (tVar 1)) := fun r hr a o k d pn hz hf p1 p2 => by
    obtain ⟨h1, h2⟩ := R.xf r hr
    have hb : attributeBase (.Name "e" p1) r.fd (cxOf C8.CX0 X.prog X.w X.K X.mg X.base ["call", "e"] "_law_bad" (defScope sBad) g cdg X.A X.stack s H C8.E0).nox.env (eval (.Name "e" p1) (cxOf C8.CX0 X.prog X.w X.K X.mg X.base ["call", "e"] "_law_bad" (defScope sBad) g cdg X.A X.stack s H C8.E0).nox.env) = eval (.Name "e" p1) (cxOf C8.CX0 X.prog X.w X.K X.mg X.base ["call", "e"] "_law_bad" (defScope sBad) g cdg X.A X.stack s H C8.E0).nox.env := rfl
    exact pe_xf h1 h2 hz hf (pv 1) (hb := hb)
  have hU : ∀ v : Option Value, ((X.A.deeper (envOfC "_law_bad" (defScope sBad) s.heap.objs.size g cdg)).mark v).units + 64 < cLine := fun v => by
    have e : ((X.A.deeper (envOfC "_law_bad" (defScope sBad) s.heap.objs.size g cdg)).mark v).units = (X.A.deeper (envOfC "_law_bad" (defScope sBad) s.heap.objs.size g cdg)).units := rfl
    have := (hr0.deeper (envOfC "_law_bad" (defScope sBad) s.heap.objs.size g cdg)).un
    omega
  have xr : ∀ r ∈ errs a0 a1 a2 a3 a4 a5 a6 a7 a8 a9, r.fd = "value" → ∀ (a : Addr) (o : Obj) (k : Value) (d : Option Addr) (pn : List (Addr × Obj)), Zc k d o → (∃ vs, o.data = .fields vs) → ∀ {p1 p2 p3 p4 : Pos},
      PE ((cxOf C8.CX0 X.prog X.w X.K X.mg X.base ["call", "e"] "_law_bad" (defScope sBad) g cdg X.A X.stack s H C8.E0).nox.suite a ((a, o) :: pn)) (.Call (.Name "repr" p3) [.Attribute (.Name "e" p1) "value" p2] [] p4) (tCB (rReprD X.K) (tCons (tXf a k d r.C "value" (tVar 1)) tNil)) := fun r hr e a o k d pn hz hf p1 p2 p3 p4 => by
    have h0 := xp r hr a o k d pn hz hf (p1 := p1) (p2 := p2)
    rw [e] at h0
    exact pe_callB (X := (cxOf C8.CX0 X.prog X.w X.K X.mg X.base ["call", "e"] "_law_bad" (defScope sBad) g cdg X.A X.stack s H C8.E0).nox.suite a ((a, o) :: pn)) (id := "repr") (cr_reprD hg (hU _)) (by rfl) R.repr (by decide +kernel) (pa_cons h0 pa_nil)
  refine ⟨_, pss_cons (ps_try_clauses (X := (cxOf C8.CX0 X.prog X.w X.K X.mg X.base ["call", "e"] "_law_bad" (defScope sBad) g cdg X.A X.stack s H C8.E0).nox)
      (tb := fun W D σ H => ∃ Ech : XK, (∀ cls d (σ' : L2.St) H', Ech cls d H' → σ'.length = 2 → W cls d σ' H') ∧ σ[0]? = some (some (.ref f)) ∧ H c' = some (CodeO c' q) ∧ tl Ech H fun _ H' => D.nx σ H')
      (l := (errs a0 a1 a2 a3 a4 a5 a6 a7 a8 a9).map (clOf X.K) ++ [⟨.ref aX, none, fun _ _ _ => tNever⟩])
      rfl rfl scBad.nd LamX.takes0 (fun W pn xe tk _ => ?body) ?cls) (pss_one (ps_ret pe_non)), ?_⟩
  case body =>
    refine ⟨fun pins s' σ H' D I h' => ?_⟩
    obtain ⟨Ech, hW, h1, h2, h3⟩ := h'
    exact (pss_one (ps_expr (act _ pn xe Ech _ _ (takes_len tk) hW))).run pins s' σ H' D I ⟨h1, h2, h3⟩
  case cls =>
    show Cls _ _ [clOf X.K ⟨a0, "setting", "part", false⟩, clOf X.K ⟨a1, "end", "part", false⟩, clOf X.K ⟨a2, "pact", "part", false⟩, clOf X.K ⟨a3, "name", "value", true⟩, clOf X.K ⟨a4, "deed", "value", true⟩, clOf X.K ⟨a5, "argument", "value", true⟩, clOf X.K ⟨a6, "state", "value", true⟩, clOf X.K ⟨a7, "move", "value", true⟩, clOf X.K ⟨a8, "script", "at", false⟩, clOf X.K ⟨a9, "claim", "value", true⟩, ⟨.ref aX, none, fun _ _ _ => tNever⟩]
    refine .named rfl rfl ⟨by rfl, by decide, .inl R.m0⟩ (fun a o k d pn hz hf => pss_one (ps_ret (pe_lst (pa_cons pe_str (pa_cons (xp ⟨a0, "setting", "part", false⟩ (by simp [errs]) a o k d pn hz hf) pa_nil))))) ?_
    refine .named rfl rfl ⟨by rfl, by decide, .inl R.m1⟩ (fun a o k d pn hz hf => pss_one (ps_ret (pe_lst (pa_cons pe_str (pa_cons (xp ⟨a1, "end", "part", false⟩ (by simp [errs]) a o k d pn hz hf) pa_nil))))) ?_
    refine .named rfl rfl ⟨by rfl, by decide, .inl R.m2⟩ (fun a o k d pn hz hf => pss_one (ps_ret (pe_lst (pa_cons pe_str (pa_cons (xp ⟨a2, "pact", "part", false⟩ (by simp [errs]) a o k d pn hz hf) pa_nil))))) ?_
    refine .named rfl rfl ⟨by rfl, by decide, .inl R.m3⟩ (fun a o k d pn hz hf => pss_one (ps_ret (pe_lst (pa_cons pe_str (pa_cons (xr ⟨a3, "name", "value", true⟩ (by simp [errs]) rfl a o k d pn hz hf) pa_nil))))) ?_
    refine .named rfl rfl ⟨by rfl, by decide, .inl R.m4⟩ (fun a o k d pn hz hf => pss_one (ps_ret (pe_lst (pa_cons pe_str (pa_cons (xr ⟨a4, "deed", "value", true⟩ (by simp [errs]) rfl a o k d pn hz hf) pa_nil))))) ?_
    refine .named rfl rfl ⟨by rfl, by decide, .inl R.m5⟩ (fun a o k d pn hz hf => pss_one (ps_ret (pe_lst (pa_cons pe_str (pa_cons (xr ⟨a5, "argument", "value", true⟩ (by simp [errs]) rfl a o k d pn hz hf) pa_nil))))) ?_
    refine .named rfl rfl ⟨by rfl, by decide, .inl R.m6⟩ (fun a o k d pn hz hf => pss_one (ps_ret (pe_lst (pa_cons pe_str (pa_cons (xr ⟨a6, "state", "value", true⟩ (by simp [errs]) rfl a o k d pn hz hf) pa_nil))))) ?_
    refine .named rfl rfl ⟨by rfl, by decide, .inl R.m7⟩ (fun a o k d pn hz hf => pss_one (ps_ret (pe_lst (pa_cons pe_str (pa_cons (xr ⟨a7, "move", "value", true⟩ (by simp [errs]) rfl a o k d pn hz hf) pa_nil))))) ?_
    refine .named rfl rfl ⟨by rfl, by decide, .inl R.m8⟩ (fun a o k d pn hz hf => pss_one (ps_ret (pe_lst (pa_cons pe_str (pa_cons (xp ⟨a8, "script", "at", false⟩ (by simp [errs]) a o k d pn hz hf) pa_nil))))) ?_
    refine .named rfl rfl ⟨by rfl, by decide, .inl R.m9⟩ (fun a o k d pn hz hf => pss_one (ps_ret (pe_lst (pa_cons pe_str (pa_cons (xr ⟨a9, "claim", "value", true⟩ (by simp [errs]) rfl a o k d pn hz hf) pa_nil))))) ?_
    exact .bare ⟨by rfl, by decide, .inl R.mX⟩ (fun a o k d pn hz hf => pss_never) .nil
  refine ⟨fun k d H' => ∃ l1 r l2 dd v w, errs a0 a1 a2 a3 a4 a5 a6 a7 a8 a9 = l1 ++ r :: l2 ∧ k = .ref r.C ∧ d = some dd ∧ H' dd = some (.xd [(r.fd, v)]) ∧ TellsOf X.K r v w H' ∧ ∀ p, H' p = none → Q (.ref p) (upd H' p (.lst [.str r.lab, w])), fun k d σ' H' ⟨l1, r, l2, dd, v, w, el, ek, ed, hd, ht, hq⟩ hl => ?_, rfl, hc, ?_⟩
  · subst ek ed
    obtain ⟨x1, x2⟩ := R.ex l1 r l2 el
    rw [el, List.map_append, List.map_cons, List.append_assoc, List.cons_append]
    refine wish_at (fun b hb => ?_) x2 fun a ha => ?_
    · obtain ⟨c, hc1, rfl⟩ := List.mem_map.mp hb
      exact x1 c hc1
    have at1 : (σ'.set 1 (some (V.ref a)))[1]? = some (some (V.ref a)) := by
      rw [List.getElem?_set_self (by omega)]
    show tTell X.K r a (.ref r.C) (some dd) (σ'.set 1 (some (V.ref a))) H' (fun x H1 => tNil (σ'.set 1 (some (V.ref a))) H1 fun us H2 => _)
    unfold TellsOf at ht
    unfold tTell
    cases hr : r.rep with
    | false =>
      rw [hr] at ht
      obtain rfl : w = v := ht
      exact ⟨.ref a, at1, rfl, rfl, dd, _, _, rfl, hd, lk1, show 2 ≤ sizeLine from by decide, fun p hp => hq p hp⟩
    | true =>
      rw [hr] at ht
      obtain ⟨dt, h1, h2, rfl⟩ := ht
      exact ⟨.ref a, at1, rfl, rfl, dd, _, v, rfl, hd, lk1, ⟨v, dt, rfl, h1, h2, show 2 ≤ sizeLine from by decide, fun p hp => hq p hp⟩⟩
  · exact h
end Lw
set_option maxHeartbeats 4000000
/-! The law's own call where defs make lambdas (tables of code objects) and no repr is under way. -/
namespace Gd
open PySem PySem.Spec PyProof.Rows L2 Evl Pd LamX
abbrev tabObj : Obj := { cls := .none, data := .fields #[] }
abbrev scrObj (vs : List Value) : Obj := { cls := .type "list", data := .seq vs.toArray }
/-- what the call sees: the tables, empty, and the script where it is not of the fragment -/
structure SeesT (K : PySem.W.Frag) (cs : List (Addr × Addr)) (a : Addr) (vs : List Value) (ns : List Int) (H : Hp) : Prop where
  tab : ∀ p ∈ cs, H p.2 = some (.tbl #[])
  off : ∀ b, (∀ p ∈ cs, b ≠ p.2) → H b = none ∨ (b = a ∧ K.lookup a = none ∧ H b = some (.frz (scrObj vs) (.lst (ns.map V.int))))
  scr : (∀ p ∈ cs, a ≠ p.2) → K.lookup a = none → H a = some (.frz (scrObj vs) (.lst (ns.map V.int)))
open Classical in
theorem seesT_ex (K : PySem.W.Frag) (cs : List (Addr × Addr)) (a : Addr) (vs : List Value) (ns : List Int) : ∃ H, SeesT K cs a vs ns H := by
  refine ⟨fun b => if ∃ p ∈ cs, b = p.2 then some (.tbl #[]) else if b = a ∧ K.lookup a = none then some (.frz (scrObj vs) (.lst (ns.map V.int))) else none, fun p hp => if_pos ⟨p, hp, rfl⟩, fun b nb => ?_, fun na nk => ?_⟩
  · have n1 : ¬ ∃ p ∈ cs, b = p.2 := fun ⟨p, hp, e⟩ => nb p hp e
    by_cases c : b = a ∧ K.lookup a = none
    · exact .inr ⟨c.1, c.2, by rw [if_neg n1, if_pos c]⟩
    · exact .inl (by rw [if_neg n1, if_neg c])
  · have n1 : ¬ ∃ p ∈ cs, a = p.2 := fun ⟨p, hp, e⟩ => na p hp e
    show (if _ then _ else _) = _
    rw [if_neg n1, if_pos ⟨rfl, nk⟩]
section
variable {P : Program} {w : World} {K : PySem.W.Frag} {mg mb : Str → Option Value} {k : Nat} {fa a : Addr} {fd : FuncData} {x : Str} {sp : Sp} {s1 : Shared} {vs : List Value} {ns : List Int} {cs : List (Addr × Addr)} {H : Hp}
theorem SeesT.kind (S : SeesT K cs a vs ns H) (hT : ∀ p ∈ cs, s1.heap.get? p.2 = some tabObj) (ha : s1.heap.get? a = some (scrObj vs)) {b : Addr} {o : Obj} (e : s1.heap.get? b = some o) : H b = none ∨ o = tabObj ∨ o = scrObj vs := by
  by_cases c : ∃ p ∈ cs, b = p.2
  · obtain ⟨p, hp, rfl⟩ := c
    exact .inr (.inl (Option.some.inj (e.symm.trans (hT p hp))))
  · rcases S.off b (fun p hp z => c ⟨p, hp, z⟩) with z | ⟨rfl, _, _⟩
    · exact .inl z
    · exact .inr (.inr (Option.some.inj (e.symm.trans ha)))
theorem SeesT.dict (S : SeesT K cs a vs ns H) (hT : ∀ p ∈ cs, s1.heap.get? p.2 = some tabObj) (ha : s1.heap.get? a = some (scrObj vs)) {b : Addr} {o : Obj} {es : Array DictEntry} {ep : Nat} (e : s1.heap.get? b = some o) (d : o.data = .dict es ep) : H b = none := by
  rcases S.kind hT ha e with z | rfl | rfl
  · exact z
  · cases d
  · cases d
theorem SeesT.frag (S : SeesT K cs a vs ns H) (nT : ∀ p ∈ cs, K.lookup p.2 = none) {b : Addr} {o : Obj} (e : K.lookup b = some o) : H b = none := by
  by_cases c : ∃ p ∈ cs, b = p.2
  · obtain ⟨p, hp, rfl⟩ := c
    rw [nT p hp] at e
    cases e
  · rcases S.off b (fun p hp z => c ⟨p, hp, z⟩) with z | ⟨rfl, n, _⟩
    · exact z
    · rw [n] at e
      cases e
theorem law_callTG (KX : K.In s1.heap) (hns : s1.heap.Ns mainGlobals mg) (hb : s1.heap.Ns builtinsNs mb) (hbb : ∀ x : Str, x ≠ "__name__" → mb x = bootBuiltins x) (lim : s1.heap.NoLimit) (hg : s1.gens = #[]) (hT : ∀ p ∈ cs, s1.heap.get? p.2 = some tabObj) (nT : ∀ p ∈ cs, K.lookup p.2 = none)
    (C : ∀ p ∈ cs, PySem.W.CodeHd s1.heap p.1 p.2) (hbm : ∃ (bm : Addr) (ob : Obj), mg "__builtins__" = some (.ref bm) ∧ bm ≠ builtinsNs ∧ s1.heap.get? bm = some ob ∧ ob.cls = .type "module" ∧ ob.dict = some builtinsNs ∧ ob.data = .plain) (ha : s1.heap.get? a = some (scrObj vs))
    (hi : IntsAre vs ns) (hl : ns.length ≤ sizeLine) (hr : Room k callerA) (F : ∀ base : Heap, K.In base → base.Ns mainGlobals mg → (∀ p ∈ cs, TabB base mg p.1 p.2) → FnG P w K mg base CX0 k fa fd [x] sp) (hbind : ∀ (s : Shared) (u : Value), BindsTo s fd ⟨[u], []⟩ [(x, u)])
    (hsp : ∀ H : Hp, (∀ p ∈ cs, H p.2 = some (.tbl #[])) → SqL K H a (ns.map V.int) → sp [.ref a] H (fun v _ => v = .bl true) fun _ _ _ => False) :
    codeAny (model P w) callerA (.call (.ref fa) ⟨[.ref a], []⟩) (fun r s' => r = .ok (.ret (.bool true)) ∧ OldK s1.heap s'.heap ∧ s'.os = s1.os ∧ AllBare s'.gens) s1 := by
  have rv := vals_ints hi
  obtain ⟨H, S⟩ := seesT_ex K cs a vs ns
  have na : ∀ p ∈ cs, a ≠ p.2 := fun p hp z => by
    have e := hT p hp
    rw [← z, ha] at e
    cases e
  have hS : SqL K H a (ns.map V.int) := by
    cases hk : K.lookup a with
    | none => exact .inl (.inr ⟨_, S.scr na hk⟩)
    | some o =>
      have e := KX a o hk
      rw [ha] at e
      cases e
      exact .inr ⟨_, vs.toArray, _, hk, rfl, rfl, rfl, by rw [List.size_toArray, hi.length]; exact hl, by simpa using rv⟩
  have ok : HOk P w H s1.heap := fun b u e => by
    by_cases c : ∃ p ∈ cs, b = p.2
    · obtain ⟨p, hp, rfl⟩ := c
      rw [S.tab p hp] at e
      cases e
      exact hT p hp
    · rcases S.off b (fun p hp z => c ⟨p, hp, z⟩) with z | ⟨rfl, _, z⟩
      · rw [z] at e
        cases e
      · rw [z] at e
        cases e
        exact ⟨ha, by rw [List.length_map]; exact hl, vs, _, rv, ha⟩
  have nsB : ∀ {b : Addr} {m : Str → Option Value}, s1.heap.Ns b m → (hidT s1.heap H).Ns b m := fun ⟨o, es, ep, e, d, r⟩ => ⟨o, es, ep, hidT_get e (S.dict hT ha e d), d, r⟩
  have KB : K.In (hidT s1.heap H) := fun b o e => hidT_get (KX b o e) (S.frag nT e)
  have M : Mod K mg (hidT s1.heap H) := ⟨KB, nsB hns, ⟨mb, nsB hb, hbb⟩, let ⟨mc, h1, h2⟩ := lim; ⟨mc, nsB h1, h2⟩⟩
  have gT : ∀ p ∈ cs, mainGlobals ≠ p.2 := fun p hp z => by
    obtain ⟨o, es, ep, e, hd, _⟩ := hns
    rw [z, hT p hp] at e
    cases e
    cases hd
  have TB : ∀ p ∈ cs, TabB (hidT s1.heap H) mg p.1 p.2 := fun p hp => by
    refine ⟨?_, ?_, gT p hp⟩
    · obtain ⟨o, us, file, tf, flags, tg, inF, text, tt, e1, r1, r2, r3, rest⟩ := C p hp
      refine ⟨o, us, file, tf, flags, tg, inF, text, tt, hidT_get e1 ?_, r1, r2, r3, rest⟩
      rcases S.kind hT ha e1 with z | rfl | rfl
      · exact z
      · cases r1
      · injection (show Value.type "list" = Value.type "code" from r1) with z
        exact absurd z (by decide)
    · obtain ⟨bm, ob, b1, b2, b3, b4, b5, b6⟩ := hbm
      refine ⟨bm, ob, b1, b2, fun q => ?_, fun q => ?_, hidT_get b3 ?_, b4, b5, b6⟩
      · obtain ⟨o, es, ep, e, hd, _⟩ := hns
        rw [q, e] at b3
        cases b3
        rw [hd] at b6
        cases b6
      · rw [q, hT p hp] at b3
        cases b3
        cases b4
      · rcases S.kind hT ha b3 with z | rfl | rfl
        · exact z
        · cases b4
        · injection (show Value.type "list" = Value.type "module" from b4) with z
          exact absurd z (by decide)
  have e0 : Env0 P w K mg (hidT s1.heap H) callerA [] s1 H := ⟨rfl, M, fun b o e => of_hidT e, Nat.le_of_eq (hidT_size _ _), trivial, fun b hb => (nomatch hb), ok, .of_eq hg⟩
  refine codeAny_mono ((F _ KB (nsB hns) TB).run callerA [] s1 H ⟨[.ref a], []⟩ [.ref a] [.ref a] _ _ hr rfl e0 (hbind s1 (.ref a)) (.cons rfl .nil) (hsp H S.tab hS)) fun r s' h => ?_
  cases r with
  | error e => exact h.elim
  | ok fl =>
    cases fl with
    | next => exact h.elim
    | brk => exact h.elim
    | cont => exact h.elim
    | ret u =>
      obtain ⟨v, H', os, bare, un, ok', r', q⟩ := h
      cases (show v = .bl true from q)
      cases (show u = Value.bool true from r')
      have stays : ∀ b o, s1.heap.get? b = some o → s'.heap.get? b = some o ∨ ∃ p ∈ cs, b = p.2 ∧ o = tabObj ∧ ∃ more : Array Value, s'.heap.get? b = some { cls := .none, data := .fields more } := fun b o e => by
        by_cases c : ∃ p ∈ cs, b = p.2
        · obtain ⟨p, hp, rfl⟩ := c
          obtain ⟨more, z⟩ := un.tbls p.2 #[] (S.tab p hp)
          exact .inr ⟨p, hp, rfl, Option.some.inj (e.symm.trans (hT p hp)), _, ok' p.2 _ z⟩
        · refine .inl ?_
          rcases S.off b (fun p hp z => c ⟨p, hp, z⟩) with z | ⟨rfl, _, z⟩
          · exact un.keep b o e z (fun m => nomatch (show b ∈ ([] : List Addr) from m)) (fun m => nomatch m)
          · have g2 := (ok' b _ (un.frzs b _ _ z)).1
            rw [ha] at e
            cases e
            exact g2
      refine ⟨rfl, ⟨fun b o e => ?_, fun b o e => ?_⟩, os, bare⟩
      · rcases stays b o e with z | ⟨p, hp, rfl, rfl, more, z⟩
        · exact .inl z
        · exact .inr (.inl ⟨((C p hp).tab (hT p hp)).isCodeTable, rfl, #[], more, rfl, by rw [Array.empty_append]; exact z⟩)
      · rcases stays b o e with z | ⟨p, hp, rfl, rfl, more, z⟩
        · exact ⟨o, z⟩
        · exact ⟨_, z⟩
end
/-- the law's promise at the head's heap -/
structure LawG (l : PySem.W.OpenLaw) (w : World) (K : PySem.W.Frag) (k n : Nat) (x : Str) (mg : Str → Option Value) (fa : Addr) (h : Heap) : Prop where
  ex : ∃ (fd : FuncData) (cs : List (Addr × Addr)) (sp : Sp), (∀ p ∈ cs, h.get? p.2 = some tabObj) ∧ (∀ p ∈ cs, K.lookup p.2 = none) ∧ (∀ p ∈ cs, PySem.W.CodeHd h p.1 p.2) ∧ (∀ (s : Shared) (u : Value), BindsTo s fd ⟨[u], []⟩ [(x, u)]) ∧
    (∀ (H : Hp) (a : Addr) (ns : List Int), ns.length ≤ n → (∀ p ∈ cs, H p.2 = some (.tbl #[])) → SqL K H a (ns.map V.int) → sp [.ref a] H (fun v _ => v = .bl true) fun _ _ _ => False) ∧ ∀ base : Heap, K.In base → base.Ns mainGlobals mg → (∀ p ∈ cs, TabB base mg p.1 p.2) → FnG l.prog w K mg base CX0 k fa fd [x] sp
theorem walk_ofTG {l : PySem.W.OpenLaw} {n k : Nat} {q : Program} {loose : List Str} {XP : (Str → Option Value) → Heap → Prop} {YP : World → Heap → Prop} {d : DefRec} {K : Params → PySem.W.Frag} {x : Str} (hn : l.most = some n) (hn2 : n ≤ sizeLine) (hdf : d.params.defaults = []) (hr : Room k callerA)
    (hY : ∀ (w : World) (h : Heap), YP w h → (K w.params).In h) (F : ∀ (w : World) (mg : Str → Option Value) (fa : Addr) (h : Heap), YP w h → (K w.params).In h → h.Ns mainGlobals mg → mg d.name = some (.ref fa) → LawG l w (K w.params) k n x mg fa h) :
    PySem.W.WalkO q loose XP YP l.row.toRowW d [] (fun f vs => PySem.call f vs) := by
  refine Att.attach_callB hn hdf fun w s0 s1 mg mb fa o pm cd doc a vs ns G Y ho hd hcd hmg hobj hints hlen _ hg => ?_
  obtain ⟨fd, cs, sp, h1, h2, h3, h4, h5, h6⟩ := (F w mg fa _ Y (hY w _ Y) G.T.g hmg).ex
  exact law_callTG (hY w _ Y) G.T.g G.T.b G.T.builtins G.T.nolimit hg h1 h2 h3 G.T.bmain hobj hints (Nat.le_trans hlen hn2) hr h6 h4 fun H e1 e2 => h5 H a ns hlen e1 e2
end Gd
set_option maxHeartbeats 1000000
/-! What a top has left, as facts of the written part. -/
namespace Lw
open PySem PySem.Spec PyProof.Rows L2 Evl Pd Gd Us Chk Wlk LamX LamK
/-- the def that gets a lambda -/
structure FunB (K : PySem.W.Frag) (mg : Str → Option Value) (x : Str) (st : Stmt) (g : Addr) : Prop where
  mg : mg x = some (.ref g)
  kp : PySem.W.keepIn K (.ref g) = true
  ex : ∃ (oc : Value) (od : Option Addr) (kV doc pm : Value) (an : Option Addr) (cd ct : Value) (osl : Array (Option Value)), K.lookup g = some ⟨oc, od, .func (PySem.W.fnOf x x (defArgs st) (defBody st) (defScope st) .none kV doc pm an cd ct), osl⟩ ∧ PySem.W.codeIn K cd x = true
section
variable {K : PySem.W.Frag} {h : Heap} {mg : Str → Option Value} {f : Addr} {x y qual : Str} {st : Stmt} {od an : Option Addr} {sl : Array (Option Value)} {oc kV dc pm cd ct : Value}
theorem dnU (X : K.In h) (G : h.Ns mainGlobals mg) (a : PySem.W.nsIn K mainGlobals x = some (some (.ref f))) (l : K.lookup f = some ⟨oc, od, .func (PySem.W.fnOf x x (defArgs st) (defBody st) (defScope st) .none kV dc pm an cd ct), sl⟩)
    (c : PySem.W.codeIn K cd x = true) (k : PySem.W.keepIn K (.ref f) = true) : Us.Dn K mg x st := ⟨f, _, PySem.W.mg_of X G a, k, fun_mk l c k⟩
theorem dnYU (X : K.In h) (G : h.Ns mainGlobals mg) (a : PySem.W.nsIn K mainGlobals x = some (some (.ref f))) (l : K.lookup f = some ⟨oc, od, .func (PySem.W.fnOf y y (defArgs st) (defBody st) (defScope st) .none kV dc pm an cd ct), sl⟩)
    (c : PySem.W.codeIn K cd y = true) (k : PySem.W.keepIn K (.ref f) = true) : Us.DnY K mg x y st := ⟨f, _, PySem.W.mg_of X G a, k, fun_mk l c k⟩
theorem funC {c : Addr} (l : K.lookup f = some ⟨oc, od, .func (PySem.W.fnOf x x (defArgs st) (defBody st) (defScope st) .none kV dc pm an (.ref c) ct), sl⟩) (hc : PySem.W.codeIn K (.ref c) x = true) : FunC K x x st f (PySem.W.fnOf x x (defArgs st) (defBody st) (defScope st) .none kV dc pm an (.ref c) ct) c :=
  ⟨oc, od, kV, dc, pm, an, ct, sl, rfl, l, hc⟩
theorem funB (X : K.In h) (G : h.Ns mainGlobals mg) (a : PySem.W.nsIn K mainGlobals x = some (some (.ref f))) (l : K.lookup f = some ⟨oc, od, .func (PySem.W.fnOf x x (defArgs st) (defBody st) (defScope st) .none kV dc pm an cd ct), sl⟩)
    (c : PySem.W.codeIn K cd x = true) (k : PySem.W.keepIn K (.ref f) = true) : FunB K mg x st f := ⟨PySem.W.mg_of X G a, k, oc, od, kV, dc, pm, an, cd, ct, sl, l, c⟩
theorem errU {C CP fI N : Addr} {g qn nm q : Str} {bs : List Value} {sn : List Str} {sub : List Value} {ab : Bool} {col : Option Bool} {dd : Option Addr} {m0 m1 m2 m3 m5 : Option Value} {p1 p2 q1 q2 q3 q4 : Pos}
    (b : K.lookup C = some (excClassObj nm q C N bs [.ref CP, .type "Exception", .type "BaseException", .type "object"] true sn sub ab col dd m0 m1 m2 m3 m5 "Exception.__new__"))
    (sa : PySem.W.findIn K (.ref C) "__setattr__" = some (some (.builtin "object.__setattr__"))) (ga : PySem.W.findIn K (.ref C) "__getattribute__" = some (some (.builtin "BaseException.__getattribute__"))) (gg : PySem.W.findIn K (.ref C) "__getattr__" = some none) (nf : PySem.W.findIn K (.ref C) g = some none)
    (i : PySem.W.findIn K (.ref C) "__init__" = some (some (.ref fI))) (t : PySem.W.typeIn K (.ref fI) = some (.type "function")) (l : K.lookup fI = some ⟨oc, od, .func (PySem.W.fnOf "__init__" qn (Err.iA g p1 p2) (Err.iB g q1 q2 q3 q4) (Err.iS g) .none .none dc pm an cd ct), sl⟩) (c : PySem.W.codeIn K cd qn = true)
    (kC : PySem.W.keepIn K (.ref C) = true) (eC : PySem.W.subIn K (.ref C) (.type "BaseException") = some true) (tC : PySem.W.typeIn K (.ref C) = some (.type "type")) (hC : PySem.W.hasDictIn K C = true) : Err.ErrC K C fI g :=
  ⟨⟨nm, q, N, bs, _, sn, sub, ab, col, dd, m0, m1, m2, m3, m5, b, .cons CP .base⟩, sa, ga, gg, nf, i, t, kC, eC, tC, hC, ⟨qn, oc, od, dc, pm, an, cd, ct, sl, p1, p2, q1, q2, q3, q4, l, c⟩⟩
theorem txgU {p : Addr} {od : Option Addr} {n : Nat} {xs : List Str} {its : Array Value} (X : K.In h) (G : h.Ns mainGlobals mg) (a : PySem.W.nsIn K mainGlobals x = some (some (.ref p))) (l : K.lookup p = some ⟨.type "tuple", od, .seq its n, sl⟩) (z : its.size ≤ sizeLine) (v : Vals (xs.map V.str) its.toList) : TxG K mg x xs :=
  ⟨p, PySem.W.mg_of X G a, fun H => .inr ⟨_, its, n, l, rfl, rfl, z, v⟩⟩
theorem stgU {s : Str} {u : Value} (X : K.In h) (G : h.Ns mainGlobals mg) (a : PySem.W.nsIn K mainGlobals x = some (some u)) (r : RelV (.str s) u) : StG mg x s := ⟨u, PySem.W.mg_of X G a, r⟩
theorem intgU {i : Int} {u : Value} (X : K.In h) (G : h.Ns mainGlobals mg) (a : PySem.W.nsIn K mainGlobals x = some (some u)) (r : RelV (.int i) u) : IntG mg x i := ⟨u, PySem.W.mg_of X G a, r⟩
theorem FunC.binds {x : Str} {st : Stmt} {f c : Addr} {fd : FuncData} {ps : List Str} (F : FunC K x x st f fd c) (k : PySem.W.keepIn K (.ref f) = true) (h : ∀ {fd : FuncData}, Fun K x x st f fd → L2.Binds K fd ps []) : L2.Binds K fd ps [] := by
  obtain ⟨oc, od, kV, doc, pm, an, ct, osl, rfl, l, hc⟩ := F.ex
  exact h (fun_mk l hc k)
theorem propU {C p g : Addr} {q : Str} {rest : List Value} (a : PySem.W.findIn K (.ref C) x = some (some (.ref p))) (b : PySem.W.specialIn K (.ref p) "__get__" = some (some (.builtin "property.__get__"))) (t : PySem.W.takesIn K (.ref p) = some true)
    (r : PySem.W.recIn K p "property" = some (.ref g :: rest)) (l : K.lookup g = some ⟨oc, od, .func (PySem.W.fnOf x q (defArgs st) (defBody st) (defScope st) .none kV dc pm an cd ct), sl⟩) (c : PySem.W.codeIn K cd q = true) (k : PySem.W.keepIn K (.ref g) = true) : ∃ p g fd, PropOf K C x p g ∧ Fun K x q st g fd :=
  ⟨p, g, _, ⟨a, b, t, ⟨rest, r⟩⟩, fun_mk l c k⟩
/-- the law where it makes lambdas of its own -/
theorem lawC {c fa : Addr} (X : K.In h) (G : h.Ns mainGlobals mg) (hm : mg "law" = some (.ref fa)) (a : PySem.W.nsIn K mainGlobals "law" = some (some (.ref f)))
    (l : K.lookup f = some ⟨oc, od, .func (PySem.W.fnOf "law" "law" (defArgs st) (defBody st) (defScope st) .none kV dc pm an (.ref c) ct), sl⟩) (hc : PySem.W.codeIn K (.ref c) "law" = true) : ∃ fd, mg "law" = some (.ref fa) ∧ FunC K "law" "law" st fa fd c := by
  have e := hm.symm.trans (PySem.W.mg_of X G a)
  cases e
  exact ⟨_, hm, funC l hc⟩
/-! ### the errors' table -/
def xfAll (K : PySem.W.Frag) (l : List Er) : Bool := l.all fun r => xfB K r.C && decide (PySem.W.findIn K (.ref r.C) r.fd = some none)
def exB (K : PySem.W.Frag) : List Er → List Er → Bool
  | _, [] => true
  | seen, r :: rest => (seen.all fun c => decide (PySem.W.exmOne K (.ref r.C) (.ref c.C) = some false)) && (decide (PySem.W.exmOne K (.ref r.C) (.ref r.C) = some true) && exB K (seen ++ [r]) rest)
theorem xf_of {l : List Er} (h : xfAll K l = true) : ∀ r ∈ l, XfC K r.C ∧ PySem.W.findIn K (.ref r.C) r.fd = some none := fun r hr => by
  have := (List.all_eq_true.mp h) r hr
  rw [Bool.and_eq_true] at this
  exact ⟨xfB_ok this.1, of_decide_eq_true this.2⟩
theorem ex_of : ∀ {l seen : List Er}, exB K seen l = true → ∀ l1 r l2, l = l1 ++ r :: l2 → (∀ c ∈ seen ++ l1, PySem.W.exmOne K (.ref r.C) (.ref c.C) = some false) ∧ PySem.W.exmOne K (.ref r.C) (.ref r.C) = some true
  | [], _, _, l1, r, l2, e => by cases l1 <;> cases e
  | q :: l, seen, h, [], r, l2, e => by
    cases e
    have h : ((seen.all fun c => decide (PySem.W.exmOne K (.ref q.C) (.ref c.C) = some false)) && (decide (PySem.W.exmOne K (.ref q.C) (.ref q.C) = some true) && exB K (seen ++ [q]) l)) = true := h
    simp only [Bool.and_eq_true] at h
    refine ⟨fun c hc => ?_, of_decide_eq_true h.2.1⟩
    rw [List.append_nil] at hc
    exact of_decide_eq_true ((List.all_eq_true.mp h.1) c hc)
  | q :: l, seen, h, p :: l1, r, l2, e => by
    injection e with e1 e2
    subst e1
    have h : ((seen.all fun c => decide (PySem.W.exmOne K (.ref q.C) (.ref c.C) = some false)) && (decide (PySem.W.exmOne K (.ref q.C) (.ref q.C) = some true) && exB K (seen ++ [q]) l)) = true := h
    simp only [Bool.and_eq_true] at h
    have := ex_of h.2.2 l1 r l2 e2
    rw [List.append_assoc] at this
    exact this
end
end Lw
set_option maxHeartbeats 1000000
/-! More of an end's methods: used_words, setting, use. -/
namespace Chk
open PySem PySem.Spec PyProof.Rows L2 Evl Pd Gd Us Wlk
abbrev mUsedW : Stmt := Tp.m_End_used_words
abbrev mSetting : Stmt := Tp.m_End_setting
abbrev mUse : Stmt := Tp.m_End_use
def hasW (kvs : Its') : PyData → Bool
  | .str s => kvs.any fun p => decide (p.1 = .inr s)
  | _ => false
/-- is_one_of(value, a dict) -/
def rOneOfD (K : PySem.W.Frag) : List V → Hp → Bool → Prop := fun vs H b => ∃ x d a ws kvs, vs = [x, .ref a] ∧ Dp K H x d ∧ Rd H a (.dK ws) ∧ ws.map (·.1) = kvs.map (·.1) ∧ b = hasW kvs d
def getK (kvs : Its') (s : Str) : Itm := itemAt kvs (.inr s)
/-- what stands under a field of an end, also while it is walked -/
structure FldAt (K : PySem.W.Frag) (C CE : Addr) (fn : Str) (its : Its') (a : Addr) (H : Hp) : Prop where
  ex : ∃ (dx : Addr) (fs : List (Str × V)) (d : Addr) (ws : List (Key × V)), H a = some (.ins CE dx fs) ∧ Rd H d (.dK ws) ∧ ItemsV K C its ws H ∧ fs.lookup fn = some (.ref d) ∧ ∀ m ∈ methodsE, fs.lookup m = none
def FldV (K : PySem.W.Frag) (C CE : Addr) (fn : Str) (its : Its') : PV := fun x H => ∃ a, x = .ref a ∧ FldAt K C CE fn its a H
theorem FldAt.up {K : PySem.W.Frag} {C CE : Addr} {fn : Str} {its : Its'} {a : Addr} {H H' : Hp} (h : FldAt K C CE fn its a H) (x : Ex H H') : FldAt K C CE fn its a H' := by
  obtain ⟨dx, fs, d, ws, h0, h3, i3, r⟩ := h.ex
  exact ⟨dx, fs, d, ws, x _ _ h0, ex_rd x h3, i3.up x, r⟩
theorem mo_fld {K : PySem.W.Frag} {C CE : Addr} {fn : Str} {its : Its'} : Mo (FldV K C CE fn its) := fun _ _ _ x ⟨a, h1, h2⟩ => ⟨a, h1, h2.up x⟩
theorem lk_fld {K : PySem.W.Frag} {C CE : Addr} {fn : Str} {its : Its'} : Lk (FldV K C CE fn its) := fun x H d kvs od hd ⟨a, ex, h⟩ => by
  obtain ⟨dx, fs, d3, v3, h0, h3, i3, r⟩ := h.ex
  exact ⟨a, ex, dx, fs, d3, v3, at_lock hd h0 (fun _ z => nomatch z), rd_lock hd h3 (fun _ _ z => nomatch z), i3.lock hd, r⟩
theorem end_own {K : PySem.W.Frag} {C CE : Addr} {e : Eg} {x : V} {H : Hp} (h : EndV K C CE e x H) : FldV K C CE "_settings" e.own x H := by
  obtain ⟨a, ex, at_⟩ := h
  obtain ⟨dx, fs, d1, d2, d3, v1, v2, v3, h0, h1, h2, h3, i1, i2, i3, f1, f2, f3, f4, fm⟩ := at_.ex
  exact ⟨a, ex, dx, fs, d1, v1, h0, .inl h1, i1, f1, fm⟩
theorem end_uses {K : PySem.W.Frag} {C CE : Addr} {e : Eg} {x : V} {H : Hp} (h : EndV K C CE e x H) : FldV K C CE "_uses" e.uses x H := by
  obtain ⟨a, ex, at_⟩ := h
  obtain ⟨dx, fs, d1, d2, d3, v1, v2, v3, h0, h1, h2, h3, i1, i2, i3, f1, f2, f3, f4, fm⟩ := at_.ex
  exact ⟨a, ex, dx, fs, d2, v2, h0, .inl h2, i2, f2, fm⟩
/-- setting(word), use(word) -/
def spAt (K : PySem.W.Frag) (C CE CN : Addr) (fn : Str) : Sp := fun vs H Q E => vs.length = 2 ∧ ∃ x y d its, vs = [x, y] ∧ FldV K C CE fn its x H ∧ (its.map (·.1)).Nodup ∧ Dq H y d ∧
  (∀ s, d = .str s → hasW its d = true → ∀ v H', Ex H H' → ItmV K C (getK its s) v H' → Q v H') ∧ (hasW its d = false → ∀ o H', Ex H H' → H' o = none → E (.ref CN) (some o) (upd H' o (.xd [("value", y)])))
def spUsedW (K : PySem.W.Frag) (C CE : Addr) : Sp := fun vs H Q _ => vs.length = 1 ∧ ∃ a e, vs = [.ref a] ∧ EndAt K C CE e a H ∧ Small e.uses ∧ ∀ y H', Ex H H' → (∃ r, y = .ref r ∧ H r = none) → Qe (.list (e.uses.map fun p => keyD p.1)) y H' → Q y H'
theorem scSettingM : FnScope ["self", "word"] ["self", "word"] (defScope mSetting) := ⟨rfl, rfl, rfl, by decide +kernel, rfl, by decide +kernel, by decide +kernel⟩
theorem scUseM : FnScope ["self", "word"] ["self", "word"] (defScope mUse) := ⟨rfl, rfl, rfl, by decide +kernel, rfl, by decide +kernel, by decide +kernel⟩
theorem keys_dq {kvs : Its'} {H : Hp} : ∀ l : Its', DqAll H (l.map fun p => kV p.1) (l.map fun p => keyD p.1) := fun l => by
  induction l with
  | nil => exact .nil
  | cons p r ih =>
    refine .cons ?_ ih
    show Dq _ (kV p.1) (keyD p.1)
    cases p.1 with
    | inl i => exact .int i
    | inr s => exact .str s
theorem has_val {kvs : Its'} {ws : List (Key × V)} (h : ws.map (·.1) = kvs.map (·.1)) (s : Str) : (valV ws (.inr s)).isSome = hasW kvs (.str s) := by
  have e : ∀ (l : List (Key × V)) , (valV l (.inr s)).isSome = (l.map (·.1)).any fun k => decide (k = .inr s) := fun l => by
    rw [List.any_map]
    exact (valV_any (.inr s) l).symm
  rw [e, h, List.any_map]
  rfl
section
variable {P : Program} {w : World} {K : PySem.W.Frag} {mg : Str → Option Value} {base : Heap} {C CE CN fN f : Addr} {fd : FuncData}
theorem ok_oneOfD (D : Dn K mg "is_one_of" sIsOneOf) (B : Bc mg) : Use P w K mg base 1 "is_one_of" ["value", "texts"] (spAsk K 2 (rOneOfD K)) := by
  refine use_of D scOneOf (fun f fd F => F.binds (ps := ["value", "texts"]) fun _ _ _ _ _ _ us hl => match us, hl with | [_, _], _ => rfl) (fun vs H Q E h => h.1) (fun f cdv A outer s H vs Q E hr h => ?_)
  obtain ⟨_, b, ⟨x, d, a, ws, kvs, rfl, hd, ha, hk, rfl⟩, q⟩ := h
  have hu1 : (A.deeper (envOfC "is_one_of" (defScope sIsOneOf) s.heap.objs.size f cdv)).units + 1 < cLine := by have := hr.un; omega
  refine ⟨_, pss_one (ps_ret (pe_and (pe_isi (by rfl) B.isi (by rfl) B.str boot_str (pv 0)) (pe_one (pe_cmp (pc_din hu1 (pv 0) (pv 1)) (by rfl))))), ?_⟩
  have hx : EvP (tVar 0) (L2.start ["value", "texts"] [x, .ref a]) H (De K d) := p_var rfl mo_de hd
  refine s_ret (ev_is (ev_andV (a := isS d) (b := hasW kvs d) (ev_isi (kit_str d) hx) fun c => ?_) (by cases d <;> rfl)) fun H1 e => q H1 e
  cases d with
  | str s =>
    rw [dp_str hd]
    exact fun H1 e Q' q' => ⟨_, rfl, _, rfl, a, _, rfl, Or.inl ⟨ws, .inr s, ex_rd e ha, rfl, rfl⟩, by rw [has_val hk]; exact q' H1 (Ex.refl _)⟩
  | _ => cases c
theorem at_run {kvs : Its'} {ws : List (Key × V)} {H : Hp} {dd : Addr} {s : Str} (hi : ItemsV K C kvs ws H) (nd : (kvs.map (·.1)).Nodup) (h : hasW kvs (.str s) = true) : ∃ v, valV ws (.inr s) = some v ∧ ItmV K C (getK kvs s) v H := by
  obtain ⟨p, hp, ep⟩ := List.any_eq_true.mp (show (kvs.any fun p => decide (p.1 = .inr s)) = true from h)
  have ep : p.1 = .inr s := of_decide_eq_true ep
  obtain ⟨i, hil, rfl⟩ := List.getElem_of_mem hp
  have hk : kvs[i]? = some (.inr s, kvs[i].2) := by rw [List.getElem?_eq_getElem hil, ← ep]
  obtain ⟨v, h1, h2⟩ := hi.at_ i _ _ hk
  refine ⟨v, valV_at (by rw [hi.keys]; exact nd) h1, ?_⟩
  show ItmV K C (itemAt kvs (.inr s)) v H
  rw [item_at nd hk]
  exact h2
theorem ok_settingM (F : Fun K "setting" "End.setting" mSetting f fd) (T : ClsE K CE) (EN : Err.ErrC K CN fN "value") (mN : mg "BadName" = some (.ref CN)) (UO : Use P w K mg base 1 "is_one_of" ["value", "texts"] (spAsk K 2 (rOneOfD K))) : FnOk P w K mg base (L2.CX P w) 2 f fd ["self", "word"] (spAt K C CE CN "_settings") := by
  refine F.okX scSettingM (fun vs H Q E h => h.1) (fun cdv A outer s H vs Q E hr h => ?_)
  obtain ⟨_, x, y, d, its, rfl, ⟨a, rfl, he⟩, nd, hd, good, bad⟩ := h
  have hu1 : (A.deeper (envOfC "End.setting" (defScope mSetting) s.heap.objs.size f cdv)).units + 1 < cLine := by have := hr.un; omega
  refine ⟨_, pss_cons (ps_if (pt_not (pt_val (pe_use UO hr (by decide) (by rfl) (pa_cons (pv 1) (pa_cons (pe_fld (pv 0) rfl) pa_nil))))) (pss_one (ps_raise rfl (takes_of rfl rfl rfl rfl) (Err.pmk_err EN pf_value (hr.mono (by decide)) mN (by rfl) (pv 1) (fun _ _ _ _ _ _ _ _ _ _ _ _ _ _ => rfl)))) pss_nil)
    (pss_one (ps_ret (pe_dget hu1 (pe_fld (pv 0) rfl) (pv 1) (fun _ _ => rfl)))), ?_⟩
  obtain ⟨dx, fs, dd, ws, h0, h1, i1, f1, fm⟩ := he.ex
  refine q_when (et_not (et_B (ev_ask (Ps := [De K d, Is (.ref dd)]) (b := hasW its d) rfl (ps_cons mo_de (p_var rfl mo_de (dq_dp hd)) (ps_cons mo_is (.of (ev_fld T.cl T.settings (ev_var rfl) h0 f1) mo_is rfl) ps_nil)) fun xs H1 e1 ps => ?ask))) (fun c H1 e1 => ?raise) fun c H1 e1 => ?get
  case ask =>
    match xs, ps with
    | [y, z], ⟨py, pz, _⟩ => exact ⟨y, d, dd, ws, its, by rw [show z = _ from pz], py, ex_rd e1 h1, i1.keys, rfl⟩
  case raise => exact ⟨y, rfl, fun o ho => bad (by simpa using c) o H1 e1 ho⟩
  case get =>
    have c : hasW its d = true := by simpa using c
    obtain ⟨s2, rfl⟩ : ∃ s2, d = .str s2 := by
      cases d with
      | str s2 => exact ⟨s2, rfl⟩
      | _ => cases c
    cases hd
    obtain ⟨v, hv, pv2⟩ := at_run (dd := dd) (i1.up e1) nd c
    exact d_ret (p_dget (k := .inr s2) (ev_fld T.cl T.settings (ev_var rfl) (e1 _ _ h0) f1) (ev_var rfl) (ex_rd e1 h1) hv mo_itm pv2) fun r H2 e2 p => good s2 rfl c r H2 (e1.trans e2) p
theorem ok_useM (F : Fun K "use" "End.use" mUse f fd) (T : ClsE K CE) (EN : Err.ErrC K CN fN "value") (mN : mg "BadName" = some (.ref CN)) (UO : Use P w K mg base 1 "is_one_of" ["value", "texts"] (spAsk K 2 (rOneOfD K))) : FnOk P w K mg base (L2.CX P w) 2 f fd ["self", "word"] (spAt K C CE CN "_uses") := by
  refine F.okX scUseM (fun vs H Q E h => h.1) (fun cdv A outer s H vs Q E hr h => ?_)
  obtain ⟨_, x, y, d, its, rfl, ⟨a, rfl, he⟩, nd, hd, good, bad⟩ := h
  have hu1 : (A.deeper (envOfC "End.use" (defScope mUse) s.heap.objs.size f cdv)).units + 1 < cLine := by have := hr.un; omega
  refine ⟨_, pss_cons (ps_if (pt_not (pt_val (pe_use UO hr (by decide) (by rfl) (pa_cons (pv 1) (pa_cons (pe_fld (pv 0) rfl) pa_nil))))) (pss_one (ps_raise rfl (takes_of rfl rfl rfl rfl) (Err.pmk_err EN pf_value (hr.mono (by decide)) mN (by rfl) (pv 1) (fun _ _ _ _ _ _ _ _ _ _ _ _ _ _ => rfl)))) pss_nil)
    (pss_one (ps_ret (pe_dget hu1 (pe_fld (pv 0) rfl) (pv 1) (fun _ _ => rfl)))), ?_⟩
  obtain ⟨dx, fs, dd, ws, h0, h1, i1, f1, fm⟩ := he.ex
  refine q_when (et_not (et_B (ev_ask (Ps := [De K d, Is (.ref dd)]) (b := hasW its d) rfl (ps_cons mo_de (p_var rfl mo_de (dq_dp hd)) (ps_cons mo_is (.of (ev_fld T.cl T.uses (ev_var rfl) h0 f1) mo_is rfl) ps_nil)) fun xs H1 e1 ps => ?ask))) (fun c H1 e1 => ?raise) fun c H1 e1 => ?get
  case ask =>
    match xs, ps with
    | [y, z], ⟨py, pz, _⟩ => exact ⟨y, d, dd, ws, its, by rw [show z = _ from pz], py, ex_rd e1 h1, i1.keys, rfl⟩
  case raise => exact ⟨y, rfl, fun o ho => bad (by simpa using c) o H1 e1 ho⟩
  case get =>
    have c : hasW its d = true := by simpa using c
    obtain ⟨s2, rfl⟩ : ∃ s2, d = .str s2 := by
      cases d with
      | str s2 => exact ⟨s2, rfl⟩
      | _ => cases c
    cases hd
    obtain ⟨v, hv, pv2⟩ := at_run (dd := dd) (i1.up e1) nd c
    exact d_ret (p_dget (k := .inr s2) (ev_fld T.cl T.uses (ev_var rfl) (e1 _ _ h0) f1) (ev_var rfl) (ex_rd e1 h1) hv mo_itm pv2) fun r H2 e2 p => good s2 rfl c r H2 (e1.trans e2) p
end
end Chk
set_option maxHeartbeats 1000000
/-! used_words (a law that does not reach it has a wall in its place). -/
namespace Chk
open PySem PySem.Spec PyProof.Rows L2 Evl Pd Gd Us Wlk
theorem scUsedW : FnScope ["self"] ["self"] (defScope mUsedW) := ⟨rfl, rfl, rfl, by decide +kernel, rfl, by decide +kernel, by decide +kernel⟩
section
variable {P : Program} {w : World} {K : PySem.W.Frag} {mg : Str → Option Value} {base : Heap} {C CE CN fN f : Addr} {fd : FuncData}
theorem ok_usedW (F : Fun K "used_words" "End.used_words" mUsedW f fd) (T : ClsE K CE) (B : Bc mg) : FnOk P w K mg base CX0 1 f fd ["self"] (spUsedW K C CE) := by
  refine F.ok scUsedW (fun vs H Q E h => h.1) (fun cdv A outer s H vs Q E hr h => ?_)
  obtain ⟨_, a, e, rfl, he, sm, q⟩ := h
  refine ⟨_, pss_one (ps_ret (pe_callTy (call_listD rfl) (by rfl) B.list boot_list (pa_cons (pe_fld (pv 0) rfl) pa_nil))), ?_⟩
  obtain ⟨dx, fs, d1, d2, d3, v1, v2, v3, h0, h1, h2, h3, i1, i2, i3, f1, f2, f3, f4, fm⟩ := he.ex
  refine ⟨.ref a, rfl, a, CE, dx, fs, .ref d2, rfl, h0, T.cl, T.uses, f2, d2, v2, rfl, .inl h2, fun p hp => q _ _ (Ex.new hp) ⟨p, rfl, hp⟩ (.lst (by rw [List.length_map, i2.len]; have := sm.1; omega) upd_same ?_)⟩
  have e1 : (v2.map fun kv => kV kv.1) = (e.uses.map fun p => kV p.1) := by
    have := congrArg (List.map kV) i2.keys
    rwa [List.map_map, List.map_map] at this
  rw [e1]
  exact keys_dq (kvs := e.uses) e.uses
end
end Chk
set_option maxHeartbeats 1000000
/-! An end's lets. -/
namespace Chk
open PySem PySem.Spec PyProof.Rows L2 Evl Pd Gd Us Wlk
abbrev mLetsE : Stmt := Tp.m_End_lets
def hasP (ks : List (List Key)) : PyData → PyData → Bool
  | .int i, .int j => ks.any fun k => decide (k = [.inl i, .inl j])
  | _, _ => false
def letsE (rs : Its') (s : Str) (a b : PyData) : Bool := (betw 0 3 a && betw 0 3 b) && match pairsOf rs s with
  | none => true
  | some ks => hasP ks a b
def spLetsE (K : PySem.W.Frag) (C CE CD : Addr) : Sp := fun vs H Q E => vs.length = 4 ∧ ∃ x y z u d a b rs, vs = [x, y, z, u] ∧ RulV K C CE rs x H ∧ (rs.map (·.1)).Nodup ∧ (∀ p ∈ rs, OkRul p) ∧ Dq H y d ∧ Dp K H z a ∧ Dp K H u b ∧
  (∀ s, d = .str s → inT deedsT d = true → ∀ H', Ex H H' → Q (.bl (letsE rs s a b)) H') ∧ (inT deedsT d = false → ∀ e H', Ex H H' → H' e = none → E (.ref CD) (some e) (upd H' e (.xd [("value", y)])))
abbrev nLetsE : List Str := ["self", "deed", "opened", "owed"]
theorem scLetsE : FnScope nLetsE nLetsE (defScope mLetsE) := ⟨rfl, rfl, rfl, by decide +kernel, rfl, by decide +kernel, by decide +kernel⟩
theorem betwInt {lo hi : Int} {d : PyData} (h : betw lo hi d = true) : ∃ i : Int, d = .int i := by
  cases d with
  | int i => exact ⟨i, rfl⟩
  | _ => cases h
section
variable {P : Program} {w : World} {K : PySem.W.Frag} {mg : Str → Option Value} {base : Heap} {C CE CD f : Addr} {fd : FuncData}
theorem ok_letsE (F : Fun K "lets" "End.lets" mLetsE f fd) (T : ClsE K CE) (TG : IntG mg "GREATEST" 3) (UC : UseX P w K mg base 2 "check_deed" ["deed"] (spCheck CD)) (UB : Use P w K mg base 2 "is_between" ["value", "low", "high"] (spAsk K 3 (rBetween K))) :
    FnOk P w K mg base (L2.CX P w) 3 f fd nLetsE (spLetsE K C CE CD) := by
  refine F.okX scLetsE (fun vs H Q E h => h.1) (fun cdv A outer s H vs Q E hr h => ?_)
  obtain ⟨_, x, y, z, u, d, p, q', rs, rfl, ⟨a, rfl, hra⟩, nr, okr, hd, hz, hu, good, bad⟩ := h
  obtain ⟨gv, mG, rG⟩ := TG
  have hu1 : (A.deeper (envOfC "End.lets" (defScope mLetsE) s.heap.objs.size f cdv)).units + 1 < cLine := by have := hr.un; omega
  refine ⟨_, pss_cons (ps_expr (pe_useX (E := E) UC hr (by decide) (by rfl) (passes_call (takes_of rfl rfl rfl rfl) fun _ _ _ _ h => h) (pa_cons (pv 1) pa_nil)))
    (pss_cons (ps_if (PW.pt (pw_or (pt_not (pt_val (pe_use UB hr (by decide) (by rfl) (pa_cons (pv 2) (pa_cons pe_int (pa_cons (pe_glob (by rfl) mG rG) pa_nil)))))) (pw_or1 (pt_not (pt_val (pe_use UB hr (by decide) (by rfl) (pa_cons (pv 3) (pa_cons pe_int (pa_cons (pe_glob (by rfl) mG rG) pa_nil))))))))) (pss_one (ps_ret pe_bl)) pss_nil)
    (pss_one (ps_ret (pe_or (pe_cmp (pc_dnotin hu1 (pv 1) (pe_fld (pv 0) rfl)) (by rfl)) (pe_one (pe_cmp (pc_din hu1 (pe_tup (pa_cons (pv 2) (pa_cons (pv 3) pa_nil))) (pe_dget hu1 (pe_fld (pv 0) rfl) (pv 1) (fun _ _ => rfl))) (by rfl))))))), ?_⟩
  obtain ⟨dx, fs, d3, v3, h0, h3, i3, f3, _⟩ := hra.ex
  refine ⟨y, rfl, rfl, y, d, rfl, hd, fun c H1 e1 => ?_, fun c => bad c⟩
  obtain ⟨t, rfl⟩ : ∃ t, d = .str t := by
    cases d with
    | str t => exact ⟨t, rfl⟩
    | _ => cases c
  cases hd
  have q := good t rfl c
  have btw : ∀ {j : Nat} {v : V} {e : PyData} {Hx : Hp}, (L2.start nLetsE [.ref a, .str t, z, u])[j]? = some (some v) → Dp K Hx v e → Ev (tCall (spAsk K 3 (rBetween K)) [] (fun _ _ _ => False) (tCons (tVar j) (tCons (tC (.int 0)) (tCons (tC (.int 3)) tNil)))) (L2.start nLetsE [.ref a, .str t, z, u]) Hx (.bl (betw 0 3 e)) := fun {j v e Hx} hj he =>
    ev_ask (Ps := [De K e, Is (.int 0), Is (.int 3)]) rfl (ps_cons mo_de (p_var hj mo_de he) (ps_cons mo_is p_c (ps_cons mo_is p_c ps_nil))) fun zs H4 e4 ps => by
      match zs, ps with
      | [y, z, u], ⟨py, pz, pu, _⟩ => exact ⟨y, e, 0, 3, by rw [show z = _ from pz, show u = _ from pu], py, rfl⟩
  have key := et_or (et_not (et_B (btw (j := 2) rfl (dp_up e1 hz)))) fun _ => et_not (et_B (btw (j := 3) rfl (dp_up e1 hu)))
  refine q_when key (fun c2 H2 e2 => ?_) fun c2 H2 e2 => ?_
  · refine s_ret ev_c fun H3 e3 => ?_
    have : letsE rs t p q' = false := by
      unfold letsE
      have : (betw 0 3 p && betw 0 3 q') = false := by
        cases h1 : betw 0 3 p <;> cases h2 : betw 0 3 q' <;> simp_all
      rw [this, Bool.false_and]
    have q := q H3 (e1.trans (e2.trans e3))
    rw [this] at q
    exact q
  · have c3 : betw 0 3 p = true ∧ betw 0 3 q' = true := by
      cases h1 : betw 0 3 p <;> cases h2 : betw 0 3 q' <;> simp_all
    obtain ⟨i, rfl⟩ := betwInt c3.1
    obtain ⟨j, rfl⟩ := betwInt c3.2
    have e02 := e1.trans e2
    have fld : ∀ {H2 : Hp}, Ex H H2 → Ev (tFld K (tVar 0) "_rules") (L2.start nLetsE [.ref a, .str t, z, u]) H2 (.ref d3) := fun e2 => ev_fld T.cl T.rules (ev_var rfl) (e2 _ _ h0) f3
    have lt : letsE rs t (.int i) (.int j) = (match pairsOf rs t with | none => true | some ks => hasP ks (.int i) (.int j)) := by
      unfold letsE
      rw [c3.1, c3.2]
      rfl
    rcases i3.get nr (.inr t) with ⟨no, nf⟩ | ⟨v, it, ev, fe, hit⟩
    · have e : letsE rs t (.int i) (.int j) = true := by
        rw [lt]
        unfold pairsOf
        rw [nf]
        rfl
      refine s_ret (ev_is (ev_orV (a := (valV v3 (.inr t)).isNone) (b := true) (ev_is (ev_dnin (k := .inr t) (vs := v3) (ev_var rfl) (fld e02) (ex_rd e02 h3)) (by rw [no]; rfl)) fun c => (by rw [no] at c; cases c)) (by rw [no]; try rfl)) fun H3 e3 => by
        have q := q H3 (e02.trans e3)
        rw [e] at q
        exact q
    · obtain ⟨ks, ek, lk, okk, _⟩ := (okr _ (List.mem_of_find?_eq_some fe)).pairs
      have ek' : it = .dt ks := ek
      subst ek'
      obtain ⟨r, rfl, hr3⟩ := hit
      have e : letsE rs t (.int i) (.int j) = hasP ks (.int i) (.int j) := by
        rw [lt]
        unfold pairsOf
        rw [fe]
        rfl
      have hz' := dp_int hz
      have hu' := dp_int hu
      refine s_ret (ev_is (ev_orV (a := false) (b := hasP ks (.int i) (.int j)) (ev_is (ev_dnin (k := .inr t) (vs := v3) (ev_var rfl) (fld e02) (ex_rd e02 h3)) (by rw [ev]; rfl)) fun _ => ?_) (by rw [Bool.false_or])) fun H3 e3 => by
        have q := q H3 (e02.trans e3)
        rw [e] at q
        exact q
      rw [hz', hu']
      refine fun H3 e3 Q2 q2 => ⟨_, rfl, _, rfl, show 2 ≤ sizeLine from by decide, fun b hb => ?_⟩
      have e4 : Ex H (upd H3 b (.tup [.int i, .int j])) := e02.trans (e3.trans (Ex.new hb))
      have pd : EvP (tDGet (tFld K (tVar 0) "_rules") (tVar 1)) (L2.start nLetsE [.ref a, .str t, .int i, .int j]) (upd H3 b (.tup [.int i, .int j])) (DtV ks) := p_dget (k := .inr t) (ev_fld T.cl T.rules (ev_var rfl) (e4 _ _ h0) f3) (ev_var rfl) (ex_rd e4 h3) ev mo_dt ⟨r, rfl, e4 _ _ hr3⟩
      refine pd _ (Ex.refl _) _ fun z2 H5 e5 ⟨r2, ez, hT⟩ => ?_
      refine ⟨r2, _, ez, DGet.t (k := [.inl i, .inl j]) hT (e5 _ _ upd_same), ?_⟩
      rw [val_true]
      exact q2 H5 ((Ex.new hb).trans e5)
end
end Chk
set_option maxHeartbeats 1000000
/-! setting, use, lets for those that call them. -/
namespace Chk
open PySem PySem.Spec PyProof.Rows L2 Evl Pd Gd Us Wlk
structure EndM (P : Program) (w : World) (K : PySem.W.Frag) (mg : Str → Option Value) (base : Heap) (C CE CD CN : Addr) : Prop where
  cl : Cls K CE
  setting : ∃ f fd, Meth K CE "setting" f ∧ L2.Binds K fd ["self", "word"] [] ∧ FnOk P w K mg base (L2.CX P w) 2 f fd ["self", "word"] (spAt K C CE CN "_settings")
  use : ∃ f fd, Meth K CE "use" f ∧ L2.Binds K fd ["self", "word"] [] ∧ FnOk P w K mg base (L2.CX P w) 2 f fd ["self", "word"] (spAt K C CE CN "_uses")
  lets : ∃ f fd, Meth K CE "lets" f ∧ L2.Binds K fd nLetsE [] ∧ FnOk P w K mg base (L2.CX P w) 3 f fd nLetsE (spLetsE K C CE CD)
section
variable {X : Cx} {C CE CD CN : Addr} {e o : Expr} {es : List Expr} {pos apos : Pos} {ta : TE} {t : TA} {j : Nat} {E : XK}
theorem pe_settingM {pl : Sem Bool} (S : EndM X.prog X.w X.K X.mg X.base C CE CD CN) (hr : Room j X.A) (hk : 2 ≤ j) (hx : Passes (L2.CX X.prog X.w) X E) (ho : PE X o ta) (ha : PA X (e :: es) t)
    (hst : starEach (e :: es) X.env = (false, eval e X.env) :: starEach es X.env := by rfl) (hpl : (backTo pos (starEach es X.env)).any (·.1) = false := by rfl)
    (ht : eval (.Call (.Attribute o "setting" apos) (e :: es) [] pos) X.env = (do
      let ov ← eval o X.env
      standAt apos.atName
      let (f, first) ← holding [ov] (getMethod ov "setting" pl)
      callWith pos f first (backTo pos (starEach (e :: es) X.env)) (backToKw pos (keywordEach [] X.env))) := by rfl) :
    PE X (.Call (.Attribute o "setting" apos) (e :: es) [] pos) (tMeth CE "setting" (spAt X.K C CE CN "_settings") [] E ta t) := by
  obtain ⟨f, fd, M, b, F⟩ := S.setting
  exact pe_meth ho S.cl M F (hr.mono hk) b .nil hx ha hst hpl ht
theorem pe_useM {pl : Sem Bool} (S : EndM X.prog X.w X.K X.mg X.base C CE CD CN) (hr : Room j X.A) (hk : 2 ≤ j) (hx : Passes (L2.CX X.prog X.w) X E) (ho : PE X o ta) (ha : PA X (e :: es) t)
    (hst : starEach (e :: es) X.env = (false, eval e X.env) :: starEach es X.env := by rfl) (hpl : (backTo pos (starEach es X.env)).any (·.1) = false := by rfl)
    (ht : eval (.Call (.Attribute o "use" apos) (e :: es) [] pos) X.env = (do
      let ov ← eval o X.env
      standAt apos.atName
      let (f, first) ← holding [ov] (getMethod ov "use" pl)
      callWith pos f first (backTo pos (starEach (e :: es) X.env)) (backToKw pos (keywordEach [] X.env))) := by rfl) :
    PE X (.Call (.Attribute o "use" apos) (e :: es) [] pos) (tMeth CE "use" (spAt X.K C CE CN "_uses") [] E ta t) := by
  obtain ⟨f, fd, M, b, F⟩ := S.use
  exact pe_meth ho S.cl M F (hr.mono hk) b .nil hx ha hst hpl ht
theorem pe_letsEM {pl : Sem Bool} (S : EndM X.prog X.w X.K X.mg X.base C CE CD CN) (hr : Room j X.A) (hk : 3 ≤ j) (hx : Passes (L2.CX X.prog X.w) X E) (ho : PE X o ta) (ha : PA X (e :: es) t)
    (hst : starEach (e :: es) X.env = (false, eval e X.env) :: starEach es X.env := by rfl) (hpl : (backTo pos (starEach es X.env)).any (·.1) = false := by rfl)
    (ht : eval (.Call (.Attribute o "lets" apos) (e :: es) [] pos) X.env = (do
      let ov ← eval o X.env
      standAt apos.atName
      let (f, first) ← holding [ov] (getMethod ov "lets" pl)
      callWith pos f first (backTo pos (starEach (e :: es) X.env)) (backToKw pos (keywordEach [] X.env))) := by rfl) :
    PE X (.Call (.Attribute o "lets" apos) (e :: es) [] pos) (tMeth CE "lets" (spLetsE X.K C CE CD) [] E ta t) := by
  obtain ⟨f, fd, M, b, F⟩ := S.lets
  exact pe_meth ho S.cl M F (hr.mono hk) b .nil hx ha hst hpl ht
end
section
variable {K : PySem.W.Frag} {C CE CD CN : Addr} {σ : L2.St} {H : Hp} {te ty tz tu : TE} {e : Eg} {s : Str} {d a b : PyData} {E : XK} {Q : VK}
theorem p_settingM {its : Its'} (h : EvP te σ H (FldV K C CE "_settings" its)) (nd : (its.map (·.1)).Nodup) (hd : Ev ty σ H (.str s)) (hs : hasW its (.str s) = true) : EvP (tMeth CE "setting" (spAt K C CE CN "_settings") [] E te (tCons ty tNil)) σ H (ItmV K C (getK its s)) := fun H1 e1 Q q =>
  h H1 e1 _ fun x H2 e2 ⟨a, ex, at_⟩ => by
    obtain ⟨dx, fs, dd, ws, h0, _, _, _, fm⟩ := at_.ex
    exact ⟨a, dx, fs, ex, h0, fm _ (by decide), hd H2 (e1.trans e2) _ fun H3 e3 => ⟨rfl, x, .str s, .str s, its, rfl, ⟨a, ex, at_.up e3⟩, nd, .str s, fun s2 es _ v H4 e4 p => (by cases es; exact q v H4 (e2.trans (e3.trans e4)) p), fun c => (by rw [hs] at c; cases c)⟩⟩
theorem setting_bad (h : EvP te σ H (EndV K C CE e)) (nd : (e.own.map (·.1)).Nodup) (hd : EvP ty σ H (Qe d)) (hs : hasW e.own d = false) (hE : ∀ y o H', Ex H H' → H' o = none → Dq H' y d → E (.ref CN) (some o) (upd H' o (.xd [("value", y)]))) :
    tMeth CE "setting" (spAt K C CE CN "_settings") [] E te (tCons ty tNil) σ H Q := h H (Ex.refl _) _ fun x H2 e2 hx => by
  obtain ⟨a, ex, at_⟩ := end_own hx
  obtain ⟨dx, fs, dd, ws, h0, _, _, _, fm⟩ := at_.ex
  exact ⟨a, dx, fs, ex, h0, fm _ (by decide), hd H2 e2 _ fun y H3 e3 py => ⟨rfl, x, y, d, e.own, rfl, ⟨a, ex, at_.up e3⟩, nd, py, fun s2 es c => (by rw [hs] at c; cases c), fun _ o H4 e4 ho => hE y o H4 (e2.trans (e3.trans e4)) ho (mo_qe _ _ _ e4 py)⟩⟩
theorem p_useM {its : Its'} (h : EvP te σ H (FldV K C CE "_uses" its)) (nd : (its.map (·.1)).Nodup) (hd : Ev ty σ H (.str s)) (hs : hasW its (.str s) = true) : EvP (tMeth CE "use" (spAt K C CE CN "_uses") [] E te (tCons ty tNil)) σ H (ItmV K C (getK its s)) := fun H1 e1 Q q =>
  h H1 e1 _ fun x H2 e2 ⟨a, ex, at_⟩ => by
    obtain ⟨dx, fs, dd, ws, h0, _, _, _, fm⟩ := at_.ex
    exact ⟨a, dx, fs, ex, h0, fm _ (by decide), hd H2 (e1.trans e2) _ fun H3 e3 => ⟨rfl, x, .str s, .str s, its, rfl, ⟨a, ex, at_.up e3⟩, nd, .str s, fun s2 es _ v H4 e4 p => (by cases es; exact q v H4 (e2.trans (e3.trans e4)) p), fun c => (by rw [hs] at c; cases c)⟩⟩
theorem use_bad (h : EvP te σ H (EndV K C CE e)) (nd : (e.uses.map (·.1)).Nodup) (hd : EvP ty σ H (Qe d)) (hs : hasW e.uses d = false) (hE : ∀ y o H', Ex H H' → H' o = none → Dq H' y d → E (.ref CN) (some o) (upd H' o (.xd [("value", y)]))) :
    tMeth CE "use" (spAt K C CE CN "_uses") [] E te (tCons ty tNil) σ H Q := h H (Ex.refl _) _ fun x H2 e2 hx => by
  obtain ⟨a, ex, at_⟩ := end_uses hx
  obtain ⟨dx, fs, dd, ws, h0, _, _, _, fm⟩ := at_.ex
  exact ⟨a, dx, fs, ex, h0, fm _ (by decide), hd H2 e2 _ fun y H3 e3 py => ⟨rfl, x, y, d, e.uses, rfl, ⟨a, ex, at_.up e3⟩, nd, py, fun s2 es c => (by rw [hs] at c; cases c), fun _ o H4 e4 ho => hE y o H4 (e2.trans (e3.trans e4)) ho (mo_qe _ _ _ e4 py)⟩⟩
theorem ev_letsE (h : EvP te σ H (EndV K C CE e)) (N : Neat e) (hd : Ev ty σ H (.str s)) (hs : s ∈ deedsT) (ha : EvP tz σ H (De K a)) (hb : EvP tu σ H (De K b)) : Ev (tMeth CE "lets" (spLetsE K C CE CD) [] E te (tCons ty (tCons tz (tCons tu tNil)))) σ H (.bl (letsE e.rules s a b)) := fun H1 e1 Q q =>
  h H1 e1 _ fun x H2 e2 ⟨ad, ex, at_⟩ => by
    obtain ⟨dx, fs, d1, d2, d3, v1, v2, v3, h0, _, _, _, _, _, _, _, _, _, _, fm⟩ := at_.ex
    refine ⟨ad, dx, fs, ex, h0, fm _ (by decide), hd H2 (e1.trans e2) _ fun H3 e3 => ha H3 (e1.trans (e2.trans e3)) _ fun z H4 e4 pz => hb H4 (e1.trans (e2.trans (e3.trans e4))) _ fun u H5 e5 pu => ⟨rfl, x, .str s, z, u, .str s, a, b, e.rules, rfl, ⟨ad, ex, (at_.up (e3.trans (e4.trans e5))).rul⟩, N.nr, N.rules, .str s, dp_up e5 pz, pu, fun s2 es _ H6 e6 => ?_, fun c => (by rw [deed_in hs] at c; cases c)⟩⟩
    cases es
    exact q H6 (e2.trans (e3.trans (e4.trans (e5.trans e6))))
theorem lets_bad (h : EvP te σ H (EndV K C CE e)) (N : Neat e) (hd : EvP ty σ H (Qe d)) (hs : inT deedsT d = false) (ha : EvP tz σ H (De K a)) (hb : EvP tu σ H (De K b)) (hE : ∀ y o H', Ex H H' → H' o = none → Dq H' y d → E (.ref CD) (some o) (upd H' o (.xd [("value", y)]))) :
    tMeth CE "lets" (spLetsE K C CE CD) [] E te (tCons ty (tCons tz (tCons tu tNil))) σ H Q := h H (Ex.refl _) _ fun x H2 e2 ⟨ad, ex, at_⟩ => by
  obtain ⟨dx, fs, d1, d2, d3, v1, v2, v3, h0, _, _, _, _, _, _, _, _, _, _, fm⟩ := at_.ex
  exact ⟨ad, dx, fs, ex, h0, fm _ (by decide), hd H2 e2 _ fun y H3 e3 py => ha H3 (e2.trans e3) _ fun z H4 e4 pz => hb H4 (e2.trans (e3.trans e4)) _ fun u H5 e5 pu => ⟨rfl, x, y, z, u, d, a, b, e.rules, rfl, ⟨ad, ex, (at_.up (e3.trans (e4.trans e5))).rul⟩, N.nr, N.rules, mo_qe _ _ _ (e4.trans e5) py, dp_up e5 pz, pu, fun s2 es c => (by rw [hs] at c; cases c), fun _ o H6 e6 ho => hE y o H6 (e2.trans (e3.trans (e4.trans (e5.trans e6)))) ho (mo_qe _ _ _ (e4.trans (e5.trans e6)) py)⟩⟩
end
end Chk
set_option maxHeartbeats 2000000
/-! used_words for those that call it. -/
namespace Chk
open PySem PySem.Spec PyProof.Rows L2 Evl Pd Gd Us Wlk
def UsedM (P : Program) (w : World) (K : PySem.W.Frag) (mg : Str → Option Value) (base : Heap) (C CE : Addr) : Prop := ∃ f fd, Meth K CE "used_words" f ∧ L2.Binds K fd ["self"] [] ∧ FnOk P w K mg base CX0 1 f fd ["self"] (spUsedW K C CE)
theorem pe_usedW {X : Cx} {C CE : Addr} {o : Expr} {pos apos : Pos} {ta : TE} {j : Nat} {pl : Sem Bool} (S : UsedM X.prog X.w X.K X.mg X.base C CE) (cl : Cls X.K CE) (hr : Room j X.A) (hk : 1 ≤ j) (ho : PE X o ta)
    (ht : eval (.Call (.Attribute o "used_words" apos) [] [] pos) X.env = (do
      let ov ← eval o X.env
      standAt apos.atName
      let (f, first) ← holding [ov] (getMethod ov "used_words" pl)
      callWith pos f first (backTo pos (starEach [] X.env)) (backToKw pos (keywordEach [] X.env))) := by rfl) :
    PE X (.Call (.Attribute o "used_words" apos) [] [] pos) (tMeth CE "used_words" (spUsedW X.K C CE) [] (fun _ _ _ => False) ta tNil) := by
  obtain ⟨f, fd, M, b, F⟩ := S
  exact pe_meth0 ho cl M F (hr.mono hk) b .nil pass0 ht
theorem p_usedW {K : PySem.W.Frag} {C CE : Addr} {σ : L2.St} {H : Hp} {te : TE} {e : Eg} {E : XK} (h : EvP te σ H (EndV K C CE e)) (sm : Small e.uses) : EvP (tMeth CE "used_words" (spUsedW K C CE) [] E te tNil) σ H (Qe (.list (e.uses.map fun p => keyD p.1))) := fun H1 e1 Q q =>
  h H1 e1 _ fun x H2 e2 ⟨a, ex, at_⟩ => by
    obtain ⟨dx, fs, d1, d2, d3, v1, v2, v3, h0, _, _, _, _, _, _, _, _, _, _, fm⟩ := at_.ex
    exact ⟨a, dx, fs, ex, h0, fm _ (by decide), rfl, a, e, by rw [ex]; rfl, at_, sm, fun y H3 e3 _ p => q y H3 (e2.trans e3) p⟩
theorem ord_get {kvs : Its'} (hn : (kvs.map (·.1)).Nodup) (hr : AllR kvs) {w : Str} {t : Itm} (h : ((.inr w : Key), t) ∈ kvs) : getK (ordI kvs) w = t ∧ hasW (ordI kvs) (.str w) = true := by
  obtain ⟨i, hi, e⟩ := List.getElem_of_mem h
  have e1 : itemAt kvs (.inr w) = t := item_at hn (i := i) (by rw [List.getElem?_eq_getElem hi, e])
  have m : ((.inr w : Key), t) ∈ ordI kvs := (ord_perm hn hr).mem_iff.mpr h
  have n2 : ((ordI kvs).map (·.1)).Nodup := (((ord_perm hn hr).map (·.1)).nodup_iff).mpr hn
  obtain ⟨j, hj, ej⟩ := List.getElem_of_mem m
  refine ⟨item_at n2 (i := j) (by rw [List.getElem?_eq_getElem hj, ej]), ?_⟩
  exact List.any_eq_true.mpr ⟨_, m, by simp⟩
end Chk
set_option maxHeartbeats 4000000
/-! Drawn pairs of numbers. -/
namespace Lw
open PySem PySem.Spec PyProof.Rows L2 Evl Pd Gd Us Chk Wlk
abbrev sSome : Stmt := Tp.s__law_some_pairs
def prI (p : Int × Int) : PyData := pr p.1 p.2
/-- a new pair of numbers -/
def PrV (R : Int → Int → Prop) : PV := fun v H => ∃ (i j : Int) (b : Addr), v = .ref b ∧ H b = some (.tup [.int i, .int j]) ∧ R i j
/-- a list of such pairs -/
def PrsL (n : Nat) (R : Int → Int → Prop) : PV := fun x H => ∃ es : List (Int × Int), (∀ p ∈ es, R p.1 p.2) ∧ es.length ≤ n ∧ Qe (.list (es.map prI)) x H
theorem mo_prsL {n : Nat} {R : Int → Int → Prop} : Mo (PrsL n R) := fun _ _ _ e ⟨es, h1, h2, h3⟩ => ⟨es, h1, h2, mo_qe _ _ _ e h3⟩
/-- .., each once -/
def PrsN (n : Nat) (R : Int → Int → Prop) : PV := fun x H => ∃ es : List (Int × Int), (∀ p ∈ es, R p.1 p.2) ∧ (es.length ≤ n ∧ es.Nodup) ∧ Qe (.list (es.map prI)) x H
theorem mo_prsN {n : Nat} {R : Int → Int → Prop} : Mo (PrsN n R) := fun _ _ _ e ⟨es, h1, h2, h3⟩ => ⟨es, h1, h2, mo_qe _ _ _ e h3⟩
/-- the pairs that stand in a list that is written -/
def PrAll (H : Hp) : List V → List (Int × Int) → Prop
  | [], [] => True
  | v :: vs, p :: ps => (∃ b, v = .ref b ∧ H b = some (.tup [.int p.1, .int p.2])) ∧ PrAll H vs ps
  | _, _ => False
theorem PrAll.dq {H : Hp} : ∀ {vs : List V} {ps : List (Int × Int)}, PrAll H vs ps → DqAll H vs (ps.map prI)
  | [], [], _ => .nil
  | v :: vs, p :: ps, ⟨⟨b, e, h⟩, r⟩ => by
    subst e
    exact .cons (.tup h (.cons (.int _) (.cons (.int _) .nil))) r.dq
theorem PrAll.up {H H' : Hp} (e : ∀ b xs, H b = some (.tup xs) → H' b = some (.tup xs)) : ∀ {vs : List V} {ps : List (Int × Int)}, PrAll H vs ps → PrAll H' vs ps
  | [], [], _ => trivial
  | v :: vs, p :: ps, ⟨⟨b, eb, h⟩, r⟩ => ⟨⟨b, eb, e _ _ h⟩, r.up e⟩
theorem PrAll.snoc {H : Hp} {b : Addr} {i j : Int} (hb : H b = some (.tup [.int i, .int j])) : ∀ {vs : List V} {ps : List (Int × Int)}, PrAll H vs ps → PrAll H (vs ++ [.ref b]) (ps ++ [(i, j)])
  | [], [], _ => ⟨⟨b, rfl, hb⟩, trivial⟩
  | v :: vs, p :: ps, ⟨h, r⟩ => ⟨h, r.snoc hb⟩
theorem PrAll.len {H : Hp} : ∀ {vs : List V} {ps : List (Int × Int)}, PrAll H vs ps → vs.length = ps.length
  | [], [], _ => rfl
  | v :: vs, p :: ps, ⟨_, r⟩ => congrArg Nat.succ r.len
section
variable {K : PySem.W.Frag} {σ : L2.St} {H : Hp} {te : TE} {t : TT}
/-- [(i, j) for target in a walk if ..], whatever the test says -/
theorem p_lcPr {wi : TI} {J : It} {n : Nat} {G : Hp → Prop} {Y : Nat → Hp → V → Hp → Prop} {g : TG} {vs : List Nat} {R : Int → Int → Prop} (w : Walk J n G Y) (hn : n ≤ 40000)
    (hwi : ∀ H1, Ex H H1 → ∀ R : It → Hp → Prop, (∀ H2, Ex H1 H2 → R J H2) → wi σ H1 R) (hG : ∀ H1, Ex H H1 → G H1)
    (step : ∀ (i : Nat) (x : V) (H1 H2 : Hp), i < n → Ex H H1 → Y i H1 x H2 → Ex H1 H2 ∧ ∃ σ2, (∀ k : L2.St → Hp → Prop, k σ2 H2 → g x (wipe σ vs) H2 k) ∧ wipe σ2 vs = wipe σ vs ∧ (∀ Q : Bool → Hp → Prop, (∀ b H3, Ex H2 H3 → Q b H3) → t σ2 H2 Q) ∧ EvP te σ2 H2 (PrV R)) :
    EvP (tLc wi g t te vs) σ H (PrsL n R) := fun H0 e Q q => hwi H0 e _ fun H1 e1 D hD => by
  refine lc_it w (fun i H' => Ex H1 H' ∧ ∃ ys ps, H' D = some (.lst ys) ∧ PrAll H' ys ps ∧ (∀ p ∈ ps, R p.1 p.2) ∧ ps.length ≤ i) ⟨Ex.new hD, [], [], upd_same, trivial, (fun _ h => nomatch h), Nat.le_refl _⟩ (fun i H' _ p => hG H' ((e.trans e1).trans p.1)) (fun i x H2 H3 hi p y => ?_) fun H' p => ?_
  · obtain ⟨ex, ys, ps, hy, al, hr, hl⟩ := p
    obtain ⟨e3, σ2, gk, hw, ht, he⟩ := step i x H2 H3 hi ((e.trans e1).trans ex) y
    refine gk _ ⟨hw, ht _ fun b H4 e4 => ?_⟩
    cases b with
    | false =>
      simp only [Bool.false_eq_true, if_false]
      exact ⟨ex.trans (e3.trans e4), ys, ps, (e3.trans e4) _ _ hy, al.up fun b xs h => (e3.trans e4) _ _ h, hr, by omega⟩
    | true =>
      simp only [if_true]
      refine he H4 e4 _ fun v H5 e5 ⟨a, c, b, ev, hb, hrab⟩ => ?_
      subst ev
      have e35 := e3.trans (e4.trans e5)
      have hy5 := e35 _ _ hy
      have nb : ∀ {z : Addr} {xs : List V}, H5 z = some (.tup xs) → (upd H5 D (.lst (ys ++ [.ref b]))) z = some (.tup xs) := fun {z xs} h => by
        rw [upd_ne (fun q => by rw [q, hy5] at h; cases h)]
        exact h
      refine ⟨ys, hy5, sz_lt (by rw [al.len]; omega), (ex.trans e35).mut hD, ys ++ [.ref b], ps ++ [(a, c)], upd_same, ((al.up fun b xs h => e35 _ _ h).up fun z xs h => nb h).snoc (nb hb), fun p hp => ?_, by simp; omega⟩
      rcases List.mem_append.mp hp with h | h
      · exact hr p h
      · rw [List.mem_singleton.mp h]
        exact hrab
  · obtain ⟨ex, ys, ps, hy, al, hr, hl⟩ := p
    exact q (.ref D) H' (e1.trans ex) ⟨ps, hr, hl, .lst (by rw [al.len]; omega) hy al.dq⟩
/-- [p(i) for i in a walk if ..], whatever the test says -/
theorem p_lcPx {wi : TI} {J : It} {n : Nat} {G : Hp → Prop} {Y : Nat → Hp → V → Hp → Prop} {g : TG} {vs : List Nat} {R : Int → Int → Prop} (p0 : Nat → Int × Int) (inj : ∀ i j, i < n → j < n → p0 i = p0 j → i = j) (hR : ∀ i, i < n → R (p0 i).1 (p0 i).2) (w : Walk J n G Y) (hn : n ≤ 40000)
    (hwi : ∀ H1, Ex H H1 → ∀ R : It → Hp → Prop, (∀ H2, Ex H1 H2 → R J H2) → wi σ H1 R) (hG : ∀ H1, Ex H H1 → G H1)
    (step : ∀ (i : Nat) (x : V) (H1 H2 : Hp), i < n → Ex H H1 → Y i H1 x H2 → Ex H1 H2 ∧ ∃ σ2, (∀ k : L2.St → Hp → Prop, k σ2 H2 → g x (wipe σ vs) H2 k) ∧ wipe σ2 vs = wipe σ vs ∧ (∀ Q : Bool → Hp → Prop, (∀ b H3, Ex H2 H3 → Q b H3) → t σ2 H2 Q) ∧ EvP te σ2 H2 (PrV fun a c => (a, c) = p0 i)) :
    EvP (tLc wi g t te vs) σ H (PrsN n R) := fun H0 e Q q => hwi H0 e _ fun H1 e1 D hD => by
  refine lc_it w (fun i H' => Ex H1 H' ∧ ∃ ys ps, H' D = some (.lst ys) ∧ PrAll H' ys ps ∧ ps.Sublist ((List.range i).map p0)) ⟨Ex.new hD, [], [], upd_same, trivial, List.Sublist.refl _⟩ (fun i H' _ p => hG H' ((e.trans e1).trans p.1)) (fun i x H2 H3 hi p y => ?_) fun H' p => ?_
  · obtain ⟨ex, ys, ps, hy, al, hr⟩ := p
    have hl : ps.length ≤ i := by
      have := hr.length_le
      rwa [List.length_map, List.length_range] at this
    have sp : (List.range (i + 1)).map p0 = (List.range i).map p0 ++ [p0 i] := by rw [List.range_succ, List.map_append]; rfl
    obtain ⟨e3, σ2, gk, hw, ht, he⟩ := step i x H2 H3 hi ((e.trans e1).trans ex) y
    refine gk _ ⟨hw, ht _ fun b H4 e4 => ?_⟩
    cases b with
    | false =>
      simp only [Bool.false_eq_true, if_false]
      exact ⟨ex.trans (e3.trans e4), ys, ps, (e3.trans e4) _ _ hy, al.up fun b xs h => (e3.trans e4) _ _ h, by rw [sp]; exact hr.trans (List.sublist_append_left _ _)⟩
    | true =>
      simp only [if_true]
      refine he H4 e4 _ fun v H5 e5 ⟨a, c, b, ev, hb, hrab⟩ => ?_
      subst ev
      have e35 := e3.trans (e4.trans e5)
      have hy5 := e35 _ _ hy
      have nb : ∀ {z : Addr} {xs : List V}, H5 z = some (.tup xs) → (upd H5 D (.lst (ys ++ [.ref b]))) z = some (.tup xs) := fun {z xs} h => by
        rw [upd_ne (fun q => by rw [q, hy5] at h; cases h)]
        exact h
      refine ⟨ys, hy5, sz_lt (by rw [al.len]; omega), (ex.trans e35).mut hD, ys ++ [.ref b], ps ++ [(a, c)], upd_same, ((al.up fun b xs h => e35 _ _ h).up fun z xs h => nb h).snoc (nb hb), ?_⟩
      rw [sp, ← hrab]
      exact hr.append (List.Sublist.refl _)
  · obtain ⟨ex, ys, ps, hy, al, hr⟩ := p
    have hl : ps.length ≤ n := by
      have := hr.length_le
      rwa [List.length_map, List.length_range] at this
    refine q (.ref D) H' (e1.trans ex) ⟨ps, fun p hp => ?_, ⟨hl, ?_⟩, .lst (by rw [al.len]; omega) hy al.dq⟩
    · obtain ⟨i, hi, rfl⟩ := List.mem_map.mp (hr.subset hp)
      exact hR i (List.mem_range.mp hi)
    · refine List.Nodup.sublist hr ?_
      refine List.pairwise_map.mpr (List.Pairwise.imp_of_mem (R := fun a b => a < b) (fun {a b} ha hb hab z => ?_) List.pairwise_lt_range)
      have := inj a b (List.mem_range.mp ha) (List.mem_range.mp hb) z
      omega
/-- (i, j) -/
theorem p_pr {ta tb : TE} {P1 P2 : Int → Prop} (h1 : EvP ta σ H (fun x _ => ∃ i, x = .int i ∧ P1 i)) (h2 : EvP tb σ H (fun x _ => ∃ i, x = .int i ∧ P2 i)) : EvP (tTup (tCons ta (tCons tb tNil))) σ H (PrV fun i j => P1 i ∧ P2 j) := fun H1 e Q q =>
  h1 H1 e _ fun x H2 e2 ⟨i, ei, p1⟩ => h2 H2 (e.trans e2) _ fun y H3 e3 ⟨j, ej, p2⟩ => ⟨show 2 ≤ sizeLine from by decide, fun p hp => q _ _ (e2.trans (e3.trans (Ex.new hp))) ⟨i, j, p, rfl, by rw [upd_same, ei, ej], p1, p2⟩⟩
/-- draw > 0: any answer -/
theorem t_draw {ta tb : TE} {m : Int} {E : XK} (h1 : EvP ta σ H (PoolV K)) (h2 : Ev tb σ H (.int m)) (hm : 0 < m) (Q : Bool → Hp → Prop) (q : ∀ b H3, Ex H H3 → Q b H3) : tTest (tOp (rI0 fun i j => .bl (decide (i > j))) (tCall (spDraw K) [] E (tCons ta (tCons tb tNil))) (tC (.int 0))) σ H Q :=
  p_draw h1 h2 hm H (Ex.refl _) _ fun u H3 e3 ⟨n, hn, _⟩ => ⟨n, 0, hn, rfl, _, rfl, q _ H3 e3⟩
end
def spSome (K : PySem.W.Frag) : Sp := fun vs H Q _ => vs.length = 1 ∧ ∃ x, vs = [x] ∧ PoolV K x H ∧ ∀ y H', Ex H H' → PrsN 9 (fun i j => (0 ≤ i ∧ i ≤ 2) ∧ 0 ≤ j ∧ j ≤ 2) y H' → Q y H'
theorem scSome : FnScope ["pool", "k"] ["pool"] (defScope sSome) := ⟨rfl, rfl, rfl, by decide +kernel, rfl, by decide +kernel, by decide +kernel⟩
theorem rng_wi {σ : L2.St} {H : Hp} {ta : TA} {n : Int} (h : EvA ta σ H [.int n]) (h0 : 0 ≤ n ∧ n ≤ 40000) : ∀ H1, Ex H H1 → ∀ R : It → Hp → Prop, (∀ H2, Ex H1 H2 → R (Itr 0 n.toNat) H2) → iRng1 ta σ H1 R := fun H1 e R r => h H1 e _ fun H2 e2 => ⟨n, rfl, by omega, by omega, r H2 e2⟩
section
variable {P : Program} {w : World} {K : PySem.W.Frag} {mg : Str → Option Value} {base : Heap}
theorem ok_some (D : Dn K mg "_law_some_pairs" sSome) (B : Bt mg) (UD : Use P w K mg base 1 "_law_draw" ["pool", "many"] (spDraw K)) : Use P w K mg base 2 "_law_some_pairs" ["pool"] (spSome K) := by
  refine use_of D scSome (fun f fd F => F.binds (ps := ["pool"]) fun _ _ _ _ _ _ us hl => match us, hl with | [_], _ => rfl) (fun vs H Q E h => h.1) (fun f cdv A outer s H vs Q E hr h => ?_)
  obtain ⟨_, x, rfl, hp, q⟩ := h
  have nd := scSome.nd
  refine ⟨_, pss_one (ps_ret (pe_lc (own := [("k", 1)]) (g := gName 1) rfl nd (pi_range1 (by rfl) B.range (pa_cons pe_int pa_nil)) (blkOk_by (N := ["pool", "k"]) (sc := defScope sSome) (by decide +kernel))
      (fun _ _ _ _ _ => pg_name (i := 1) nd rfl (Or.inl rfl)) (fun _ _ _ _ _ => pts_one (pt_cmpR op_gt (pe_use UD hr (by decide) (by rfl) (pa_cons (pv 0) (pa_cons pe_int pa_nil))) pe_int (nomark _)))
      (fun _ _ _ _ _ => pe_tup (pa_cons (pe_op op_fdiv (pv 1) pe_int) (pa_cons (pe_op op_mod (pe_callTy call_int1 (by rfl) B.int PyProof.Rows.boot_int (pa_cons (pv 1) pa_nil)) pe_int) pa_nil))))), ?_⟩
  refine d_ret (p_lcPx (n := 9) (R := fun i j => (0 ≤ i ∧ i ≤ 2) ∧ 0 ≤ j ∧ j ≤ 2) (fun i => ((i : Int) / 3, (i : Int) % 3)) (fun i j hi hj z => by injection z with z1 z2; omega) (fun i hi => by show (0 ≤ (i : Int) / 3 ∧ (i : Int) / 3 ≤ 2) ∧ 0 ≤ (i : Int) % 3 ∧ (i : Int) % 3 ≤ 2; omega) (walk_range (lo := 0) (n := 9)) (by decide) (rng_wi (n := 9) (ea_cons ev_c ea_nil) (by decide)) (fun _ _ => trivial) fun i y H1 H2 hi e1 yy => ?_) fun y H1 e1 p => q y H1 e1 p
  obtain ⟨rfl, rfl⟩ := yy
  refine ⟨Ex.refl _, _, fun k hk => hk, rfl, fun Q' q' => t_draw (K := K) (p_var rfl mo_pool (mo_pool _ _ _ e1 hp)) ev_c (by decide) Q' q', ?_⟩
  refine (p_pr (P1 := fun a => a = (i : Int) / 3) (P2 := fun c => c = (i : Int) % 3) (.of (ev_op (ev_var rfl) ev_c (rv_I ⟨by omega, by decide⟩)) (fun _ _ _ _ h => h) ⟨_, rfl, ?_⟩) (.of (ev_op (ev_int (ev_var rfl)) ev_c (rv_I (by decide))) (fun _ _ _ _ h => h) ⟨_, rfl, ?_⟩)).imp fun v H3 _ ⟨a, c, b, h1, h2, h3, h4⟩ => ⟨a, c, b, h1, h2, by rw [h3, h4]⟩
  all_goals rw [Int.zero_add]
end
end Lw
set_option maxHeartbeats 4000000
/-! A drawn end, as the law writes it down. -/
namespace Lw
open PySem PySem.Spec PyProof.Rows L2 Evl Pd Gd Us Chk Wlk
abbrev sEnd : Stmt := Tp.s__law_end
structure Ds where
  so : Str
  n : Int
  k : Int
  es : List PyData
  h : Str
structure GoodD (d : Ds) : Prop where
  so : d.so ∈ sorts
  n : d.n = 2 ∨ d.n = 3
  k : 0 ≤ d.k ∧ d.k < d.n
  es : d.es.Sublist (chBase d.n)
  h : d.h ∈ holdsOf d.so
def ptsD (d : Ds) : Pts := ⟨.str d.so, .int d.n, .int d.k, .list d.es, .str d.h⟩
def SetSp (at_ : AtP) (d : Ds) : PV := fun x H => ∃ q l, x = .ref q ∧ at_ H q (.dK (drawnK d.so d.n d.k l d.h)) ∧ Dq H l (.list d.es)
/-- .., not one of these -/
def SpF (F : List Addr) (d : Ds) : PV := fun x H => ∃ q l, x = .ref q ∧ q ∉ F ∧ H q = some (.dK (drawnK d.so d.n d.k l d.h)) ∧ Dq H l (.list d.es)
structure Es where
  own : List (Str × Ds)
  uses : List (Str × Str)
  rules : List (Str × List (Int × Int))
  most : Int
def usesIt (u : List (Str × Str)) : Its' := u.map fun p => (.inr p.1, .d (.str p.2))
def rulesIt (r : List (Str × List (Int × Int))) : Its' := r.map fun p => (.inr p.1, .d (.list (p.2.map prI)))
structure SIt (Pq : Ds → PV) (own : List (Str × Ds)) (vs : List (Key × V)) (H : Hp) : Prop where
  len : vs.length = own.length
  at_ : ∀ (i : Nat) (w : Str) (d : Ds), own[i]? = some (w, d) → ∃ v, vs[i]? = some (.inr w, v) ∧ Pq d v H
theorem SIt.imp {Pq Pq' : Ds → PV} {own : List (Str × Ds)} {vs : List (Key × V)} {H H' : Hp} (h : SIt Pq own vs H) (k : ∀ d v, Pq d v H → Pq' d v H') : SIt Pq' own vs H' := ⟨h.len, fun i w d hi => let ⟨v, h1, h2⟩ := h.at_ i w d hi; ⟨v, h1, k d v h2⟩⟩
def endKs (ds du dr : Addr) (m : Int) : List (Key × V) := [(.inr "settings", .ref ds), (.inr "uses", .ref du), (.inr "rules", .ref dr), (.inr "most", .int m)]
/-- an end that is written down -/
structure EndAtS (at_ : AtP) (K : PySem.W.Frag) (s : Es) (p ds du dr : Addr) (H : Hp) : Prop where
  ex : ∃ vs us rs, at_ H p (.dK (endKs ds du dr s.most)) ∧ at_ H ds (.dK vs) ∧ at_ H du (.dK us) ∧ at_ H dr (.dK rs) ∧ SIt (SetSp at_) s.own vs H ∧ ItemsV K 0 (usesIt s.uses) us H ∧ ItemsV K 0 (rulesIt s.rules) rs H
def EndSp (at_ : AtP) (K : PySem.W.Frag) (s : Es) : PV := fun x H => ∃ p ds du dr, x = .ref p ∧ EndAtS at_ K s p ds du dr H
/-- .., made behind H0 -/
def EndSpN (K : PySem.W.Frag) (H0 : Hp) (s : Es) : PV := fun x H => ∃ p ds du dr, x = .ref p ∧ EndAtS Sr K s p ds du dr H ∧ H0 ds = none ∧ H0 du = none ∧ H0 dr = none
structure GoodE (ws os : List Str) (s : Es) : Prop where
  own : s.own.map (·.1) = ws
  ds : ∀ p ∈ s.own, GoodD p.2
  room : (s.own.filter fun p => decide (p.2.so = ("room" : Str))).length ≤ 1
  uses : s.uses.map (·.1) = os
  us : ∀ p ∈ s.uses, p.2 ∈ usesT
  deeds : (s.rules.map (·.1)).Sublist deedsT
  rules : ∀ p ∈ s.rules, ∀ q ∈ p.2, (0 ≤ q.1 ∧ q.1 ≤ 3) ∧ 0 ≤ q.2 ∧ q.2 ≤ 3
  few : ∀ p ∈ s.rules, p.2.length ≤ 9 ∧ p.2.Nodup
  most : s.most = 1 ∨ s.most = 2
section
variable {K : PySem.W.Frag} {H H' : Hp} {s : Es} {F : List Addr}
theorem mo_setSp {d : Ds} : Mo (SetSp Sr d) := fun _ _ _ e ⟨q, l, h1, h2, h3⟩ => ⟨q, l, h1, e _ _ h2, dq_up e h3⟩
theorem mo_setSpR {d : Ds} : Mo (SetSp Rd d) := fun _ _ _ e ⟨q, l, h1, h2, h3⟩ => ⟨q, l, h1, ex_rd e h2, dq_up e h3⟩
theorem mo_spF {d : Ds} : Mo (SpF F d) := fun _ _ _ e ⟨q, l, h1, h2, h3, h4⟩ => ⟨q, l, h1, h2, e _ _ h3, dq_up e h4⟩
theorem lk_setSp {d : Ds} : Lk (SetSp Rd d) := fun _ _ _ _ _ hd ⟨q, l, h1, h2, h3⟩ => ⟨q, l, h1, rd_lock hd h2 (fun _ _ z => nomatch z), lk_qe _ _ _ _ _ hd h3⟩
theorem EndAtS.up {p ds du dr : Addr} (h : EndAtS Sr K s p ds du dr H) (e : Ex H H') : EndAtS Sr K s p ds du dr H' := by
  obtain ⟨vs, us, rs, h1, h2, h3, h4, h5, h6, h7⟩ := h.ex
  exact ⟨vs, us, rs, e _ _ h1, e _ _ h2, e _ _ h3, e _ _ h4, h5.imp fun d v z => mo_setSp _ _ _ e z, h6.up e, h7.up e⟩
theorem EndAtS.upR {p ds du dr : Addr} (h : EndAtS Rd K s p ds du dr H) (e : Ex H H') : EndAtS Rd K s p ds du dr H' := by
  obtain ⟨vs, us, rs, h1, h2, h3, h4, h5, h6, h7⟩ := h.ex
  exact ⟨vs, us, rs, ex_rd e h1, ex_rd e h2, ex_rd e h3, ex_rd e h4, h5.imp fun d v z => mo_setSpR _ _ _ e z, h6.up e, h7.up e⟩
theorem EndAtS.rd {p ds du dr : Addr} (h : EndAtS Sr K s p ds du dr H) : EndAtS Rd K s p ds du dr H := by
  obtain ⟨vs, us, rs, h1, h2, h3, h4, h5, h6, h7⟩ := h.ex
  exact ⟨vs, us, rs, .inl h1, .inl h2, .inl h3, .inl h4, h5.imp fun d v ⟨q, l, z1, z2, z3⟩ => ⟨q, l, z1, .inl z2, z3⟩, h6, h7⟩
theorem EndAtS.lock {p ds du dr d : Addr} {kvs : List (Key × V)} {od : Obj} (h : EndAtS Rd K s p ds du dr H) (hd : H d = some (.dK kvs)) : EndAtS Rd K s p ds du dr (lk H d od kvs) := by
  obtain ⟨vs, us, rs, h1, h2, h3, h4, h5, h6, h7⟩ := h.ex
  have nf : ∀ (o' : Obj) (u' : HO), HO.dK kvs ≠ .frz o' u' := fun _ _ z => nomatch z
  exact ⟨vs, us, rs, rd_lock hd h1 nf, rd_lock hd h2 nf, rd_lock hd h3 nf, rd_lock hd h4 nf, h5.imp fun d v z => lk_setSp _ _ _ _ _ hd z, h6.lock hd, h7.lock hd⟩
theorem mo_endSp : Mo (EndSp Sr K s) := fun _ _ _ e ⟨p, ds, du, dr, h1, h2⟩ => ⟨p, ds, du, dr, h1, h2.up e⟩
theorem mo_endSpR : Mo (EndSp Rd K s) := fun _ _ _ e ⟨p, ds, du, dr, h1, h2⟩ => ⟨p, ds, du, dr, h1, h2.upR e⟩
theorem mo_endSpN {H0 : Hp} : Mo (EndSpN K H0 s) := fun _ _ _ e ⟨p, ds, du, dr, h1, h2, h3⟩ => ⟨p, ds, du, dr, h1, h2.up e, h3⟩
end
/-! ### while it is written -/
structure Bld (K : PySem.W.Frag) (p ds du dr : Addr) (m : Int) (own : List (Str × Ds)) (us : List (Str × Str)) (rs : List (Str × List (Int × Int))) (H : Hp) : Prop where
  ex : ∃ v1 v2 v3, H p = some (.dK (endKs ds du dr m)) ∧ H ds = some (.dK v1) ∧ H du = some (.dK v2) ∧ H dr = some (.dK v3) ∧ SIt (SpF [p, ds, du, dr]) own v1 H ∧ ItemsV K 0 (usesIt us) v2 H ∧ ItemsV K 0 (rulesIt rs) v3 H
  ne : ds ≠ p ∧ du ≠ p ∧ dr ≠ p ∧ du ≠ ds ∧ dr ≠ ds ∧ dr ≠ du
section
variable {K : PySem.W.Frag} {H H' : Hp} {p ds du dr : Addr} {m : Int} {own : List (Str × Ds)} {us : List (Str × Str)} {rs : List (Str × List (Int × Int))}
theorem Bld.up (h : Bld K p ds du dr m own us rs H) (e : Ex H H') : Bld K p ds du dr m own us rs H' := by
  obtain ⟨v1, v2, v3, h1, h2, h3, h4, h5, h6, h7⟩ := h.ex
  exact ⟨⟨v1, v2, v3, e _ _ h1, e _ _ h2, e _ _ h3, e _ _ h4, h5.imp fun d v z => mo_spF _ _ _ e z, h6.up e, h7.up e⟩, h.ne⟩
theorem spF_put {d : Ds} {v : V} {F : List Addr} {D : Addr} {ks ls : List (Key × V)} (hD : D ∈ F) (hd : H D = some (.dK ks)) (h : SpF F d v H) : SpF F d v (upd H D (.dK ls)) := by
  obtain ⟨q, l, h1, h2, h3, h4⟩ := h
  exact ⟨q, l, h1, h2, by rw [upd_ne (fun z => h2 (by rw [z]; exact hD))]; exact h3, dw_qe (d := .list d.es) _ _ _ _ _ hd h4⟩
theorem SIt.snoc {Pq : Ds → PV} {vs : List (Key × V)} {w : Str} {d : Ds} {v : V} (h : SIt Pq own vs H) (hv : Pq d v H) : SIt Pq (own ++ [(w, d)]) (vs ++ [(.inr w, v)]) H := ⟨by simp [h.len], fun i w2 d2 hi => by
  rcases Nat.lt_or_ge i own.length with c | c
  · rw [List.getElem?_append_left c] at hi
    obtain ⟨u, h1, h2⟩ := h.at_ i w2 d2 hi
    exact ⟨u, by rw [List.getElem?_append_left (by rw [h.len]; exact c)]; exact h1, h2⟩
  · rw [List.getElem?_append_right c] at hi
    have e : i - own.length = 0 := by
      have := (List.getElem?_eq_some_iff.mp hi).1
      simp at this
      omega
    rw [e] at hi
    cases hi
    exact ⟨v, by rw [List.getElem?_append_right (by rw [h.len]; exact c), h.len, e]; rfl, hv⟩⟩
theorem SIt.keys {Pq : Ds → PV} {vs : List (Key × V)} (h : SIt Pq own vs H) : vs.map (·.1) = own.map fun p => (.inr p.1 : Key) := by
  refine List.ext_getElem? fun i => ?_
  rw [List.getElem?_map, List.getElem?_map]
  cases e : own[i]? with
  | some p =>
    obtain ⟨v, h1, _⟩ := h.at_ i p.1 p.2 e
    rw [h1]
    rfl
  | none =>
    have : vs[i]? = none := by
      rw [List.getElem?_eq_none_iff] at e ⊢
      rw [h.len]
      exact e
    rw [this]
    rfl
theorem valV_no {vs : List (Key × V)} {k : Key} (h : k ∉ vs.map (·.1)) : valV vs k = none := by
  cases ev : valV vs k with
  | none => rfl
  | some v =>
    exfalso
    have a : (vs.any fun kv => decide (kv.1 = k)) = true := by rw [valV_any, ev]; rfl
    obtain ⟨q, hq, ek⟩ := List.any_eq_true.mp a
    exact h (List.mem_map.mpr ⟨q, hq, of_decide_eq_true ek⟩)
theorem SIt.from {Pq : Ds → PV} {vs : List (Key × V)} {i : Nat} {k : Key} {v : V} (h : SIt Pq own vs H) (hi : vs[i]? = some (k, v)) : ∃ w d, k = .inr w ∧ own[i]? = some (w, d) ∧ Pq d v H := by
  have lt : i < own.length := by rw [← h.len]; exact (List.getElem?_eq_some_iff.mp hi).1
  obtain ⟨w, d, e⟩ : ∃ w d, own[i] = (w, d) := ⟨_, _, rfl⟩
  have e' : own[i]? = some (w, d) := by rw [List.getElem?_eq_getElem lt, e]
  obtain ⟨v2, h1, h2⟩ := h.at_ i w d e'
  rw [hi] at h1
  cases h1
  exact ⟨w, d, rfl, e', h2⟩
end
theorem ev_subS {σ : L2.St} {H : Hp} {p ds du dr : Addr} {m : Int} (h : σ[3]? = some (some (.ref p))) (hp : Rd H p (.dK (endKs ds du dr m))) : Ev (tDGet (tVar 3) (tC (.str "settings"))) σ H (.ref ds) := (p_dget (k := .inr "settings") (ev_var h) ev_c hp rfl mo_is rfl).ev
theorem ev_subU {σ : L2.St} {H : Hp} {p ds du dr : Addr} {m : Int} (h : σ[3]? = some (some (.ref p))) (hp : Rd H p (.dK (endKs ds du dr m))) : Ev (tDGet (tVar 3) (tC (.str "uses"))) σ H (.ref du) := (p_dget (k := .inr "uses") (ev_var h) ev_c hp rfl mo_is rfl).ev
theorem ev_subR {σ : L2.St} {H : Hp} {p ds du dr : Addr} {m : Int} (h : σ[3]? = some (some (.ref p))) (hp : Rd H p (.dK (endKs ds du dr m))) : Ev (tDGet (tVar 3) (tC (.str "rules"))) σ H (.ref dr) := (p_dget (k := .inr "rules") (ev_var h) ev_c hp rfl mo_is rfl).ev
/-- d[k] = v, k new -/
theorem s_dputNew {σ : L2.St} {H : Hp} {td ty tv : TE} {D : Ends} {P : PV} {d : Addr} {vs : List (Key × V)} {k : Key} (hv : EvP tv σ H P) (hd : Ev td σ H (.ref d)) (hk : Ev ty σ H (kV k)) (h : H d = some (.dK vs)) (lv : vs.length ≤ 1000) (no : k ∉ vs.map (·.1)) (kk : ∀ v H1, Ex H H1 → P v H1 → ∀ H2, Ex H1 H2 → H2 d = some (.dK vs) → D.nx σ (upd H2 d (.dK (vs ++ [(k, v)])))) : sDPut td ty tv D σ H :=
  hv H (Ex.refl _) _ fun v H1 e1 pv => hd H1 e1 _ fun H2 e2 => hk H2 (e1.trans e2) _ fun H3 e3 => ⟨d, _, rfl, DPut.k ((e1.trans (e2.trans e3)) _ _ h) (sz_lt (by omega)), by
    rw [putK_new v (valV_no no)]
    exact kk v H1 e1 pv H3 (e2.trans e3) ((e1.trans (e2.trans e3)) _ _ h)⟩
theorem given_nil {n : Nat} {f : Nat → Bool} {v : Nat → V} (h : given n f v = []) {i : Nat} (hi : i < n) : f i = false := by
  unfold given at h
  have := List.map_eq_nil_iff.mp h
  rw [List.filter_eq_nil_iff] at this
  simpa using this i (List.mem_range.mpr hi)
theorem strs_of {H : Hp} : ∀ {xs : List V} {ws : List Str}, DqAll H xs (ws.map PyData.str) → xs = ws.map V.str
  | [], [], _ => rfl
  | x :: xs, w :: ws, .cons h t => by
    cases h
    rw [strs_of t]
    rfl
  | [], _ :: _, h => by cases h
  | _ :: _, [], h => by cases h
abbrev nEnd : List Str := ["pool", "words", "others", "end", "word", "sort", "other", "deed", "way", "some", "k"]
def spEnd (K : PySem.W.Frag) : Sp := fun vs H Q _ => vs.length = 3 ∧ ∃ x y z ws os, vs = [x, y, z] ∧ PoolV K x H ∧ Dq H y (.list (ws.map PyData.str)) ∧ Dq H z (.list (os.map PyData.str)) ∧ ws.Nodup ∧ os.Nodup ∧ ws.length ≤ 2 ∧ os.length ≤ 2 ∧ ∀ r H' s, Ex H H' → GoodE ws os s → EndSpN K H s r H' → Q r H'
theorem scEnd : FnScope nEnd ["pool", "words", "others"] (defScope sEnd) := ⟨rfl, rfl, rfl, by decide +kernel, rfl, by decide +kernel, by decide +kernel⟩
section
variable {P : Program} {w : World} {K : PySem.W.Frag} {mg : Str → Option Value} {base : Heap}
theorem ok_end (D : Dn K mg "_law_end" sEnd) (B : Bt mg) (UD : Use P w K mg base 1 "_law_draw" ["pool", "many"] (spDraw K)) (UP : Use P w K mg base 2 "_law_pick" ["pool", "some"] (spPick K)) (US : Use P w K mg base 3 "_law_setting" ["pool", "sort"] (spSetting K)) (UO : Use P w K mg base 2 "_law_some_pairs" ["pool"] (spSome K)) :
    Use P w K mg base 4 "_law_end" ["pool", "words", "others"] (spEnd K) := by
  refine use_of D scEnd (fun f fd F => F.binds (ps := ["pool", "words", "others"]) fun _ _ _ _ _ _ us hl => match us, hl with | [_, _, _], _ => rfl) (fun vs H Q E h => h.1) (fun f cdv A outer s H vs Q E hr h => ?_)
  obtain ⟨_, x, y, z, ws, os, rfl, hp, hy, hz, nw, no, lw, lo, q⟩ := h
  have nd := scEnd.nd
  have hu : (A.deeper (envOfC "_law_end" (defScope sEnd) s.heap.objs.size f cdv)).units < cLine := by have := hr.un; omega
  have hu1 : (A.deeper (envOfC "_law_end" (defScope sEnd) s.heap.objs.size f cdv)).units + 1 < cLine := by have := hr.un; omega
  refine ⟨_, pss_cons (ps_set (i := 3) nd rfl (Or.inr rfl) (pe_disp (pps_cons pe_str pe_dnewK (pps_cons pe_str pe_dnewK (pps_cons pe_str pe_dnewK (pps_cons pe_str (pe_op op_add pe_int (pe_use UD hr (by decide) (by rfl) (pa_cons (pv 0) (pa_cons pe_int pa_nil)))) pps_nil)))) (by rfl) (by rfl) (fun z => by cases z) (by decide)))
    (pss_cons (ps_for PassesOwn.never rfl (pi_list (pv 1)) (pg_name (i := 4) nd rfl (Or.inl rfl))
      (pss_cons (ps_set (i := 5) nd rfl (Or.inl rfl) (pe_use UP hr (by decide) (by rfl) (pa_cons (pv 0) (pa_cons (pe_lst (pa_cons pe_str (pa_cons pe_str (pa_cons pe_str (pa_cons pe_str pa_nil))))) pa_nil))))
      (pss_cons (ps_if (pt_cmpR (op_neNil hu) (pe_lock (pe_lc (own := [("other", 6)]) (g := gName 6) rfl nd (pi_keys (pe_dget hu1 (pv 3) pe_str (fun _ _ => rfl))) (blkOk_by (N := nEnd) (sc := defScope sEnd) (by decide +kernel))
          (fun _ _ _ _ _ => pg_name (i := 6) nd rfl (Or.inl rfl)) (fun _ _ _ _ _ => pts_one (pt_cmpR op_eq (pe_dget hu1 (pe_dget hu1 (pe_dget hu1 (pv 3) pe_str (fun _ _ => rfl)) (pv 6) (fun _ _ => rfl)) pe_str (fun _ _ => rfl)) pe_str (nomark _))) (fun _ _ _ _ _ => pe_int))) (pe_lst pa_nil) (nomark _)) (pss_one (ps_set (i := 5) nd rfl (Or.inl rfl) pe_str)) pss_nil)
      (pss_one (ps_dput hu1 (pe_dget hu1 (pv 3) pe_str (fun _ _ => rfl)) (pv 4) (pe_use US hr (by decide) (by rfl) (pa_cons (pv 0) (pa_cons (pv 5) pa_nil))) rfl)))))
    (pss_cons (ps_for PassesOwn.never rfl (pi_list (pv 2)) (pg_name (i := 4) nd rfl (Or.inl rfl))
      (pss_one (ps_dput hu1 (pe_dget hu1 (pv 3) pe_str (fun _ _ => rfl)) (pv 4) (pe_use UP hr (by decide) (by rfl) (pa_cons (pv 0) (pa_cons (pe_lst (pa_cons pe_str (pa_cons pe_str pa_nil))) pa_nil))) rfl)))
    (pss_cons (ps_for PassesOwn.never rfl (pi_list (pe_lst (pa_cons pe_str (pa_cons pe_str (pa_cons pe_str (pa_cons pe_str (pa_cons pe_str pa_nil))))))) (pg_name (i := 7) nd rfl (Or.inl rfl))
      (pss_cons (ps_set (i := 8) nd rfl (Or.inl rfl) (pe_use UD hr (by decide) (by rfl) (pa_cons (pv 0) (pa_cons pe_int pa_nil))))
      (pss_cons (ps_set (i := 9) nd rfl (Or.inl rfl) (pe_lst (pa_cons (pe_use UO hr (by decide) (by rfl) (pa_cons (pv 0) pa_nil))
        (pa_cons (pe_lc (own := [("k", 10)]) (g := gName 10) (tt := tYes) rfl nd (pi_range1 (by rfl) B.range (pa_cons pe_int pa_nil)) (blkOk_by (N := nEnd) (sc := defScope sEnd) (by decide +kernel)) (fun _ _ _ _ _ => pg_name (i := 10) nd rfl (Or.inl rfl)) (fun _ _ _ _ _ => pts_nil) (fun _ _ _ _ _ => pe_tup (pa_cons (pv 10) (pa_cons pe_int pa_nil))))
        (pa_cons (pe_lc (own := [("k", 10)]) (g := gName 10) (tt := tYes) rfl nd (pi_range1 (by rfl) B.range (pa_cons pe_int pa_nil)) (blkOk_by (N := nEnd) (sc := defScope sEnd) (by decide +kernel)) (fun _ _ _ _ _ => pg_name (i := 10) nd rfl (Or.inl rfl)) (fun _ _ _ _ _ => pts_nil) (fun _ _ _ _ _ => pe_tup (pa_cons pe_int (pa_cons (pv 10) pa_nil)))) pa_nil)))))
      (pss_one (ps_if (PW.pt (pw_or (pt_cmpR op_lt (pv 8) pe_int (nomark _)) (pw_or1 (PW.pt (pw_and (pt_cmpR op_eq (pv 8) pe_int (nomark _)) (pw_and1 (pt_cmpR op_in_seq (pv 7) (pe_lst (pa_cons pe_str (pa_cons pe_str (pa_cons pe_str pa_nil)))) (by rfl))))))))
        (pss_one (ps_dput hu1 (pe_dget hu1 (pv 3) pe_str (fun _ _ => rfl)) (pv 7) (pe_ix ix_list (pv 9) (pv 8) (fun _ _ => rfl)) rfl))
        (pss_one (ps_if (PW.pt (pw_and (pt_cmpR op_eq (pv 7) pe_str (nomark _)) (pw_and1 (pt_cmpR op_lt (pv 8) pe_int (nomark _))))) (pss_one (ps_dput hu1 (pe_dget hu1 (pv 3) pe_str (fun _ _ => rfl)) (pv 7) (pe_lst pa_nil) rfl)) pss_nil)))))))
    (pss_one (ps_ret (pv 3)))))), ?_⟩
  cases hy with
  | @lst ly xs _ zy hly dly =>
  cases hz with
  | @lst lz zs _ zz hlz dlz =>
  have exs := strs_of dly
  have ezs := strs_of dlz
  subst exs ezs
  refine fun p np ds nds du ndu dr ndr => ?_
  have a1 : Ex H (upd H p (.dK [])) := Ex.new np
  have a2 := a1.trans (Ex.new (o := .dK []) nds)
  have a3 := a2.trans (Ex.new (o := .dK []) ndu)
  have a4 := a3.trans (Ex.new (o := .dK []) ndr)
  have mv : EvP (tOp (rI0 fun i j => .int (i + j)) (tC (.int 1)) (tCall (spDraw K) [] (fun _ _ _ => False) (tCons (tVar 0) (tCons (tC (.int 2)) tNil)))) (L2.start nEnd [x, .ref ly, .ref lz]) (upd (upd (upd (upd H p (.dK [])) ds (.dK [])) du (.dK [])) dr (.dK [])) (fun v _ => v = .int 1 ∨ v = .int 2) :=
    p_op (P1 := Is (.int 1)) mo_is p_c (p_draw (K := K) (p_var rfl mo_pool (mo_pool _ _ _ a4 hp)) ev_c (by decide)) fun u v H1 e pu ⟨n, hn, n0, n1⟩ Q' q' => ⟨1, n, pu, hn, q' _ H1 (Ex.refl H1) (by
      have : n = 0 ∨ n = 1 := by omega
      rcases this with rfl | rfl
      · exact .inl rfl
      · exact .inr rfl)⟩
  refine mv _ (Ex.refl _) _ fun v H1 e1 hv => ?_
  obtain ⟨m, hm, rfl⟩ : ∃ m : Int, (m = 1 ∨ m = 2) ∧ v = .int m := by
    rcases hv with h | h
    · exact ⟨1, .inl rfl, h⟩
    · exact ⟨2, .inr rfl, h⟩
  have ne1 : ds ≠ p := (none_un nds).1
  have ne2 : du ≠ ds := (none_un ndu).1
  have ne3 : du ≠ p := (none_un (none_un ndu).2).1
  have ne4 : dr ≠ du := (none_un ndr).1
  have ne5 : dr ≠ ds := (none_un (none_un ndr).2).1
  have ne6 : dr ≠ p := (none_un (none_un (none_un ndr).2).2).1
  have f1 : H ds = none := (none_un nds).2
  have f2 : H du = none := (none_un (none_un ndu).2).2
  have f3 : H dr = none := (none_un (none_un (none_un ndr).2).2).2
  have hpD : H1 p = some (.dK []) := e1 _ _ (by rw [upd_ne ne6.symm, upd_ne ne3.symm, upd_ne ne1.symm, upd_same])
  have hds : H1 ds = some (.dK []) := e1 _ _ (by rw [upd_ne ne5.symm, upd_ne ne2.symm, upd_same])
  have hdu : H1 du = some (.dK []) := e1 _ _ (by rw [upd_ne ne4.symm, upd_same])
  have hdr : H1 dr = some (.dK []) := e1 _ _ upd_same
  refine ⟨hpD, endKs ds du dr m, rfl, show 4 ≤ 15 from by decide, ?_⟩
  rw [show mergeK [] (endKs ds du dr m) = endKs ds du dr m from rfl]
  have u1 : Ex H (upd H1 p (.dK (endKs ds du dr m))) := (a4.trans e1).mut np
  have b0 : Bld K p ds du dr m [] [] [] (upd H1 p (.dK (endKs ds du dr m))) := ⟨⟨[], [], [], upd_same, by rw [upd_ne ne1]; exact hds, by rw [upd_ne ne3]; exact hdu, by rw [upd_ne ne6]; exact hdr, ⟨rfl, fun i w d h => by simp at h⟩, ⟨rfl, fun i k t h => by simp [usesIt] at h⟩, ⟨rfl, fun i k t h => by simp [rulesIt] at h⟩⟩, ne1, ne3, ne6, ne2, ne5, ne4⟩
  generalize upd H1 p (.dK (endKs ds du dr m)) = H2 at u1 b0
  dsimp only [gName]
  refine q_forLn (K := K) (a := ly) (xs := ws.map V.str) (ev_var rfl) (sq_of (u1 _ _ hly)) (fun i σ' H' => ∃ o4 o5 own, σ' = [some x, some (.ref ly), some (.ref lz), some (.ref p), o4, o5, none, none, none, none, none] ∧ Ex H H' ∧ Bld K p ds du dr m own [] [] H' ∧ own.map (·.1) = ws.take i ∧ (∀ q ∈ own, GoodD q.2) ∧ (own.filter fun q => decide (q.2.so = ("room" : Str))).length ≤ 1)
    (fun H3 e3 => ⟨none, none, [], rfl, u1.trans e3, b0.up e3, by simp, (fun _ h => nomatch h), by simp⟩) (fun i σ' H' _ ⟨_, _, _, _, ex, _⟩ => sq_of (ex _ _ hly)) ?turn1 ?done1
  case turn1 =>
    rintro i v σ' H' hv ⟨o4, o5, own, rfl, ex, bl, ek, gd, rm⟩
    rw [List.getElem?_map] at hv
    obtain ⟨wd, hw, rfl⟩ := Option.map_eq_some_iff.mp hv
    have li := (List.getElem?_eq_some_iff.mp hw).1
    have lown : own.length ≤ 1 := by
      have := congrArg List.length ek
      rw [List.length_map, List.length_take] at this
      omega
    refine d_asg (p_pick (K := K) (ds := [.str "size", .str "size", .str "table", .str "room"]) (p_var rfl mo_pool (mo_pool _ _ _ ex hp)) (q_lst (ds := [.str "size", .str "size", .str "table", .str "room"]) (ps_cons mo_qe q_str (ps_cons mo_qe q_str (ps_cons mo_qe q_str (ps_cons mo_qe q_str ps_nil))))) (by decide)) fun sv H3 e3 ⟨dd, hdd, hsv⟩ => ?_
    obtain ⟨so, hso, rfl⟩ : ∃ so, so ∈ sorts ∧ sv = .str so := by
      simp only [List.mem_cons, List.not_mem_nil, or_false] at hdd
      rcases hdd with rfl | rfl | rfl | rfl <;> cases hsv
      · exact ⟨_, by decide, rfl⟩
      · exact ⟨_, by decide, rfl⟩
      · exact ⟨_, by decide, rfl⟩
      · exact ⟨_, by decide, rfl⟩
    have b3 := bl.up e3
    obtain ⟨v1, v2, v3, p1, p2, p3, p4, p5, p6, p7⟩ := b3.ex
    have nk : (v1.map (·.1)).Nodup := by
      rw [p5.keys]
      have : (own.map fun p => (.inr p.1 : Key)) = (own.map (·.1)).map Sum.inr := by rw [List.map_map]; rfl
      rw [this, ek]
      exact List.pairwise_map.mpr ((List.Nodup.sublist (List.take_sublist _ _) nw).imp fun h z => h (by injection z))
    have lst : EvL (tLockE (tLc (iKeys (tDGet (tVar 3) (tC (.str "settings")))) (gName 6) (tTest (tOp rEq (tDGet (tDGet (tDGet (tVar 3) (tC (.str "settings"))) (tVar 6)) (tC (.str "sort"))) (tC (.str "room")))) (tC (.int 1)) [6]))
        [some x, some (.ref ly), some (.ref lz), some (.ref p), some (.str wd), some (.str so), none, none, none, none, none] H3 (given v1.length (fun i => (own[i]?).elim false fun q => decide (q.2.so = ("room" : Str))) fun _ => .int 1) := by
      refine el_lock (d := ds) p2 trivial fun od => el_lcKeys (d := ds) (vs := v1) (od := od) _ _ (ev_subS rfl (rd_lock p2 (.inl p1) fun _ _ z => nomatch z)) upd_same (by rw [p5.len]; omega) (fun _ => rfl) (fun i k u H4 e4 hu4 => ?_) fun i k u H4 e4 hu4 _ => ev_c
      obtain ⟨w2, d2, rfl, ho, q2, l2, rfl, nq, hq2, _⟩ := p5.from hu4
      rw [ho]
      refine et_test (ev_is (ev_op (p_dget (k := .inr "sort") (P := Is (.str d2.so)) ((p_dget (k := .inr w2) (P := Is (.ref q2)) (ev_subS rfl (ex_rd e4 (rd_lock p2 (.inl p1) fun _ _ z => nomatch z))) (ev_var rfl) (.inr ⟨od, e4 _ _ upd_same⟩) (valV_at nk hu4) mo_is rfl).ev) ev_c (ex_rd e4 (rd_lock p2 (.inl hq2) fun _ _ z => nomatch z)) rfl mo_is rfl).ev ev_c (rv_eq rfl)) (congrArg V.bl (str_dec d2.so "room")))
    have test : EvT (tTest (tOp (rNil K) (tLockE (tLc (iKeys (tDGet (tVar 3) (tC (.str "settings")))) (gName 6) (tTest (tOp rEq (tDGet (tDGet (tDGet (tVar 3) (tC (.str "settings"))) (tVar 6)) (tC (.str "sort"))) (tC (.str "room")))) (tC (.int 1)) [6])) (tLst tNil)))
        [some x, some (.ref ly), some (.ref lz), some (.ref p), some (.str wd), some (.str so), none, none, none, none, none] H3 (!(given v1.length (fun i => (own[i]?).elim false fun q => decide (q.2.so = ("room" : Str))) fun _ => V.int 1).isEmpty) :=
      et_test (ev_opLL lst (el_lst ea_nil (by decide)) fun a b H4 ha hb e4 => rv_val fun H5 e5 Q5 q5 => ⟨a, b, _, rfl, rfl, sq_of (e5 _ _ ha), sq_of (e5 _ _ hb), fun z hz => by
        unfold given at hz
        obtain ⟨_, _, rfl⟩ := List.mem_map.mp hz
        exact .inl rfl, q5⟩)
    -- the sort that is taken
    have go : ∀ (so : Str), so ∈ sorts → (so = "room" → (own.filter fun q => decide (q.2.so = ("room" : Str))).length = 0) → ∀ H4, Ex H3 H4 → sDPut (tDGet (tVar 3) (tC (.str "settings"))) (tVar 4) (tCall (spSetting K) [] (fun _ _ _ => False) (tCons (tVar 0) (tCons (tVar 5) tNil)))
        { nx := fun σ'' H'' => ∃ o4 o5 own, σ'' = [some x, some (.ref ly), some (.ref lz), some (.ref p), o4, o5, none, none, none, none, none] ∧ Ex H H'' ∧ Bld K p ds du dr m own [] [] H'' ∧ own.map (·.1) = ws.take (i + 1) ∧ (∀ q ∈ own, GoodD q.2) ∧ (own.filter fun q => decide (q.2.so = ("room" : Str))).length ≤ 1, rt := fun _ _ => False, bk := fun _ _ => False, ct := fun _ _ => False }
        [some x, some (.ref ly), some (.ref lz), some (.ref p), some (.str wd), some (.str so), none, none, none, none, none] H4 := by
      intro so hso hroom H4 e4
      have up4 := ex.trans (e3.trans e4)
      refine s_dputNew (k := .inr wd) (P := DrawnS so) (p_call (Ps := [PoolV K, Is (.str so)]) (ps_cons mo_pool (p_var rfl mo_pool (mo_pool _ _ _ up4 hp)) (ps_cons mo_is (p_is rfl) ps_nil)) fun xs H5 e5 ps Q' q' => ?_) (ev_subS rfl (.inl (e4 _ _ p1))) (ev_var rfl) (e4 _ _ p2) (by rw [p5.len]; omega) ?_ fun v H5 e5 hv5 H6 e6 h6 => ?_
      · match xs, ps with
        | [a, b], ⟨pa, pb, _⟩ => exact ⟨rfl, a, so, by rw [show b = _ from pb], pa, fun y H6 e6 p6 => q' y H6 e6 p6⟩
      · rw [p5.keys]
        intro z
        obtain ⟨q0, hq0, eq0⟩ := List.mem_map.mp z
        injection eq0 with eq0
        have hm0 : q0.1 ∈ ws.take i := by rw [← ek]; exact List.mem_map.mpr ⟨q0, hq0, rfl⟩
        obtain ⟨j, hj, ej⟩ := List.getElem_of_mem hm0
        rw [List.length_take] at hj
        rw [List.getElem_take] at ej
        have := nodup_at nw (i := j) (j := i) (x := wd) (by rw [List.getElem?_eq_getElem (by omega), ej, eq0]) hw
        omega
      · obtain ⟨q2, n, k, l, h, rfl, hq2, ⟨es, he1, he2⟩, hn, k0, k1, hh⟩ := hv5
        have hq6 := e6 _ _ hq2
        have c1 := (e4.trans (e5.trans e6)) _ _ p1
        have c2 := (e4.trans (e5.trans e6)) _ _ p2
        have c3 := (e4.trans (e5.trans e6)) _ _ p3
        have c4 := (e4.trans (e5.trans e6)) _ _ p4
        have nF : q2 ∉ [p, ds, du, dr] := by
          have l5 : ∀ {b : Addr} {kk : List (Key × V)}, H6 b = some (.dK kk) → kk.length < 5 → q2 ≠ b := fun {b kk} hb hl z => by
            rw [z, hb] at hq6
            injection hq6 with hq6
            injection hq6 with hq6
            rw [hq6] at hl
            exact absurd hl (by show ¬ 5 < 5; decide)
          simp only [List.mem_cons, List.not_mem_nil, or_false, not_or]
          exact ⟨l5 c1 (by show 4 < 5; decide), l5 c2 (by rw [p5.len]; omega), l5 c3 (by rw [p6.len]; show 0 < 5; decide), l5 c4 (by rw [p7.len]; show 0 < 5; decide)⟩
        have b6 := bl.up (e3.trans (e4.trans (e5.trans e6)))
        have sp : SpF [p, ds, du, dr] ⟨so, n, k, es, h⟩ (.ref q2) H6 := ⟨q2, l, rfl, nF, hq6, dq_up e6 he2⟩
        have mD : ds ∈ [p, ds, du, dr] := by simp
        refine ⟨_, _, own ++ [(wd, ⟨so, n, k, es, h⟩)], rfl, ?_, ⟨⟨v1 ++ [(.inr wd, .ref q2)], v2, v3, ?_, upd_same, ?_, ?_, ?_, ?_, ?_⟩, b3.ne⟩, ?_, fun q hq => ?_, ?_⟩
        · exact (up4.trans (e5.trans e6)).mut f1
        · rw [upd_ne ne1.symm]; exact c1
        · rw [upd_ne ne2]; exact c3
        · rw [upd_ne ne5]; exact c4
        · exact SIt.snoc ((p5.imp fun d v z => mo_spF _ _ _ (e4.trans (e5.trans e6)) z).imp fun d v z => spF_put mD c2 z) (spF_put mD c2 sp)
        · exact (p6.up (e4.trans (e5.trans e6))).put c2
        · exact (p7.up (e4.trans (e5.trans e6))).put c2
        · rw [List.map_append, ek, List.take_succ, hw]
          rfl
        · rcases List.mem_append.mp hq with h | h
          · exact gd q h
          · rw [List.mem_singleton.mp h]
            exact ⟨hso, hn, ⟨k0, k1⟩, he1, hh⟩
        · rw [List.filter_append, List.length_append]
          by_cases c : so = ("room" : Str)
          · rw [hroom c]
            have := List.length_filter_le (fun q : Str × Ds => decide (q.2.so = ("room" : Str))) [(wd, ⟨so, n, k, es, h⟩)]
            simpa using this
          · have : ([(wd, (⟨so, n, k, es, h⟩ : Ds))].filter fun q => decide (q.2.so = ("room" : Str))) = [] := by
              rw [List.filter_cons, if_neg (by simpa using c)]
              rfl
            rw [this]
            exact rm
    refine q_if test (fun c H4 e4 => ?_) fun c H4 e4 => ?_
    · refine s_asg (v := .str "size") ev_c fun H5 e5 => ?_
      exact go "size" (by decide) (fun z => absurd z (by decide)) H5 (e4.trans e5)
    · refine go so hso (fun _ => ?_) H4 e4
      have emp : given v1.length (fun i => (own[i]?).elim false fun q => decide (q.2.so = ("room" : Str))) (fun _ => V.int 1) = [] := by
        simpa using c
      rw [List.length_eq_zero_iff, List.filter_eq_nil_iff]
      intro q hq
      obtain ⟨j, hj, rfl⟩ := List.getElem_of_mem hq
      have := given_nil emp (i := j) (by rw [p5.len]; exact hj)
      rw [List.getElem?_eq_getElem hj] at this
      simpa using this
  case done1 =>
    rintro σ' H3 ⟨o4, o5, own, rfl, ex3, b3, ek, gd, rm⟩
    rw [List.length_map, List.take_length] at ek
    refine q_forLn (K := K) (a := lz) (xs := os.map V.str) (ev_var rfl) (sq_of (ex3 _ _ hlz)) (fun i σ' H' => ∃ o4 us, σ' = [some x, some (.ref ly), some (.ref lz), some (.ref p), o4, o5, none, none, none, none, none] ∧ Ex H H' ∧ Bld K p ds du dr m own us [] H' ∧ us.map (·.1) = os.take i ∧ ∀ q ∈ us, q.2 ∈ usesT)
      (fun H4 e4 => ⟨o4, [], rfl, ex3.trans e4, b3.up e4, by simp, fun _ h => nomatch h⟩) (fun i σ' H' _ ⟨_, _, _, ex, _⟩ => sq_of (ex _ _ hlz)) ?turn2 ?done2
    case turn2 =>
      rintro i v σ' H' hv ⟨o4, us, rfl, ex, bl, eku, gu⟩
      rw [List.getElem?_map] at hv
      obtain ⟨wd, hw, rfl⟩ := Option.map_eq_some_iff.mp hv
      obtain ⟨v1, v2, v3, p1, p2, p3, p4, p5, p6, p7⟩ := bl.ex
      have lus : us.length ≤ 2 := by
        have := congrArg List.length eku
        rw [List.length_map, List.length_take] at this
        omega
      refine s_dputNew (k := .inr wd) (P := OneOf [.str "heard", .str "answered"]) (p_pick (K := K) (p_var rfl mo_pool (mo_pool _ _ _ ex hp)) (q_lst (ds := [.str "heard", .str "answered"]) (ps_cons mo_qe q_str (ps_cons mo_qe q_str ps_nil))) (by decide)) (ev_subU rfl (.inl p1)) (ev_var rfl) p3 (by rw [p6.len]; unfold usesIt; rw [List.length_map]; omega) ?_ fun v H5 e5 ⟨dd, hdd, hv5⟩ H6 e6 h6 => ?_
      · rw [p6.keys]
        intro z
        unfold usesIt at z
        rw [List.map_map] at z
        obtain ⟨q0, hq0, eq0⟩ := List.mem_map.mp z
        injection eq0 with eq0
        have hm0 : q0.1 ∈ os.take i := by rw [← eku]; exact List.mem_map.mpr ⟨q0, hq0, rfl⟩
        obtain ⟨j, hj, ej⟩ := List.getElem_of_mem hm0
        rw [List.length_take] at hj
        rw [List.getElem_take] at ej
        have := nodup_at no (i := j) (j := i) (x := wd) (by rw [List.getElem?_eq_getElem (by omega), ej, eq0]) hw
        omega
      · obtain ⟨u, hu3, rfl⟩ : ∃ u, u ∈ usesT ∧ v = .str u := by
          simp only [List.mem_cons, List.not_mem_nil, or_false] at hdd
          rcases hdd with rfl | rfl <;> cases hv5
          · exact ⟨_, by decide, rfl⟩
          · exact ⟨_, by decide, rfl⟩
        have e56 := e5.trans e6
        have mD : du ∈ [p, ds, du, dr] := by simp
        refine ⟨_, us ++ [(wd, u)], rfl, (ex.trans e56).mut f2, ⟨⟨v1, v2 ++ [(.inr wd, .str u)], v3, ?_, ?_, upd_same, ?_, ?_, ?_, ?_⟩, bl.ne⟩, ?_, fun q hq => ?_⟩
        · rw [upd_ne ne3.symm]; exact e56 _ _ p1
        · rw [upd_ne ne2.symm]; exact e56 _ _ p2
        · rw [upd_ne ne4]; exact e56 _ _ p4
        · exact (p5.imp fun d v z => mo_spF _ _ _ e56 z).imp fun d v z => spF_put mD h6 z
        · unfold usesIt
          rw [List.map_append]
          exact ((p6.up e56).put h6).snoc (C := 0) (K := K) (t := .d (.str u)) (.str u)
        · exact (p7.up e56).put h6
        · rw [List.map_append, eku, List.take_succ, hw]
          rfl
        · rcases List.mem_append.mp hq with h | h
          · exact gu q h
          · rw [List.mem_singleton.mp h]
            exact hu3
    case done2 =>
      rintro σ' H4 ⟨o4, us, rfl, ex4, b4, eku, gu⟩
      rw [List.length_map, List.take_length] at eku
      refine q_forNLn (K := K) (xs := deedsT.map V.str) (el_lst (ea_cons ev_c (ea_cons ev_c (ea_cons ev_c (ea_cons ev_c (ea_cons ev_c ea_nil))))) (by decide)) (fun a i σ' H' => ∃ o7 o8 o9 rs, σ' = [some x, some (.ref ly), some (.ref lz), some (.ref p), o4, o5, none, o7, o8, o9, none] ∧ Ex H H' ∧ H' a = some (.lst (deedsT.map V.str)) ∧ H4 a = none ∧ Bld K p ds du dr m own us rs H' ∧ (rs.map (·.1)).Sublist (deedsT.take i) ∧ (∀ q ∈ rs, ∀ j ∈ q.2, (0 ≤ j.1 ∧ j.1 ≤ 3) ∧ 0 ≤ j.2 ∧ j.2 ≤ 3) ∧ ∀ q ∈ rs, (q.2.length ≤ 9 ∧ q.2.Nodup))
        (fun a H5 na e5 ha => ⟨none, none, none, [], rfl, ex4.trans e5, ha, na, b4.up e5, .refl _, (fun _ h => nomatch h), fun _ h => nomatch h⟩) (fun a i σ' H' _ ⟨_, _, _, _, _, _, ha, _⟩ => sq_of ha) ?turn3 ?done3
      case turn3 =>
        rintro a i v σ' H' hv ⟨o7, o8, o9, rs, rfl, ex, ha, na, bl, sub, g1, g2⟩
        rw [List.getElem?_map] at hv
        obtain ⟨dd, hw, rfl⟩ := Option.map_eq_some_iff.mp hv
        refine d_asg (p_draw (K := K) (m := 6) (p_var rfl mo_pool (mo_pool _ _ _ ex hp)) ev_c (by decide)) fun wv H5 e5 ⟨way, ew, w0, w1⟩ => ?_
        subst ew
        have R3 : ∀ {n : Nat} {R : Int → Int → Prop}, n ≤ 9 → (∀ i j, R i j → (0 ≤ i ∧ i ≤ 3) ∧ 0 ≤ j ∧ j ≤ 3) → ∀ x H, PrsN n R x H → PrsN 9 (fun i j => (0 ≤ i ∧ i ≤ 3) ∧ 0 ≤ j ∧ j ≤ 3) x H := fun hn hR x H ⟨es, h1, h2, h3⟩ => ⟨es, fun p hp => hR _ _ (h1 p hp), ⟨by omega, h2.2⟩, h3⟩
        have num : ∀ {σ : L2.St} {H : Hp} {j : Nat} {i : Nat}, σ[j]? = some (some (.int ((0 : Int) + (i : Int)))) → EvP (tVar j) σ H (fun x _ => ∃ k, x = .int k ∧ k = (i : Int)) := fun h => .of (ev_var h) (fun _ _ _ _ h => h) ⟨_, rfl, by omega⟩
        have zero : ∀ {σ : L2.St} {H : Hp}, EvP (tC (.int 0)) σ H (fun x _ => ∃ k, x = .int k ∧ k = (0 : Int)) := .of ev_c (fun _ _ _ _ h => h) ⟨0, rfl, rfl⟩
        have yes : ∀ {σ : L2.St} {H : Hp} (Q : Bool → Hp → Prop), (∀ b H3, Ex H H3 → Q b H3) → tYes σ H Q := fun Q q => q true _ (Ex.refl _)
        refine d_asg (P := Lst [PrsN 9 (fun i j => (0 ≤ i ∧ i ≤ 3) ∧ 0 ≤ j ∧ j ≤ 3), PrsN 9 (fun i j => (0 ≤ i ∧ i ≤ 3) ∧ 0 ≤ j ∧ j ≤ 3), PrsN 9 (fun i j => (0 ≤ i ∧ i ≤ 3) ∧ 0 ≤ j ∧ j ≤ 3)]) (p_lst (mo_cons mo_prsN (mo_cons mo_prsN (mo_cons mo_prsN mo_nil))) (ps_cons mo_prsN ?l1 (ps_cons mo_prsN ?l2 (ps_cons mo_prsN ?l3 ps_nil)))) fun sv H6 e6 hsv => ?_
        case l1 => exact (p_call (P := PrsN 9 (fun i j => (0 ≤ i ∧ i ≤ 2) ∧ 0 ≤ j ∧ j ≤ 2)) (Ps := [PoolV K]) (ps_cons mo_pool (p_var rfl mo_pool (mo_pool _ _ _ (ex.trans e5) hp)) ps_nil) fun xs H7 e7 ps Q' q' => by
          match xs, ps with
          | [a], ⟨pa, _⟩ => exact ⟨rfl, a, rfl, pa, fun y H6 e6 p6 => q' y H6 e6 p6⟩).imp fun x H7 e7 p7 => R3 (Nat.le_refl _) (fun i j h => ⟨⟨h.1.1, by omega⟩, h.2.1, by omega⟩) x H7 p7
        case l2 =>
          refine (p_lcPx (n := 4) (R := fun i j => (0 ≤ i ∧ i ≤ 3) ∧ 0 ≤ j ∧ j ≤ 3) (fun i => ((i : Int), (0 : Int))) (fun i j hi hj z => by injection z with z1 z2; omega) (fun i hi => by show (0 ≤ (i : Int) ∧ (i : Int) ≤ 3) ∧ 0 ≤ (0 : Int) ∧ (0 : Int) ≤ 3; omega) (walk_range (lo := 0) (n := 4)) (by decide) (rng_wi (n := 4) (ea_cons ev_c ea_nil) (by decide)) (fun _ _ => trivial) fun i y H1 H2 hi e1 yy => ?_).imp fun x H7 e7 p7 => R3 (by decide) (fun i j h => h) x H7 p7
          obtain ⟨rfl, rfl⟩ := yy
          exact ⟨Ex.refl _, _, fun k hk => hk, rfl, yes, (p_pr (P1 := fun a => a = (i : Int)) (P2 := fun c => c = 0) (num rfl) zero).imp fun v H3 _ ⟨a, c, b, h1, h2, h3, h4⟩ => ⟨a, c, b, h1, h2, by rw [h3, h4]⟩⟩
        case l3 =>
          refine (p_lcPx (n := 4) (R := fun i j => (0 ≤ i ∧ i ≤ 3) ∧ 0 ≤ j ∧ j ≤ 3) (fun i => ((0 : Int), (i : Int))) (fun i j hi hj z => by injection z with z1 z2; omega) (fun i hi => by show (0 ≤ (0 : Int) ∧ (0 : Int) ≤ 3) ∧ 0 ≤ (i : Int) ∧ (i : Int) ≤ 3; omega) (walk_range (lo := 0) (n := 4)) (by decide) (rng_wi (n := 4) (ea_cons ev_c ea_nil) (by decide)) (fun _ _ => trivial) fun i y H1 H2 hi e1 yy => ?_).imp fun x H7 e7 p7 => R3 (by decide) (fun i j h => h) x H7 p7
          obtain ⟨rfl, rfl⟩ := yy
          exact ⟨Ex.refl _, _, fun k hk => hk, rfl, yes, (p_pr (P1 := fun a => a = 0) (P2 := fun c => c = (i : Int)) zero (num rfl)).imp fun v H3 _ ⟨a, c, b, h1, h2, h3, h4⟩ => ⟨a, c, b, h1, h2, by rw [h3, h4]⟩⟩
        obtain ⟨as, xs3, rfl, has, all3⟩ := hsv
        have e56 := e5.trans e6
        have b6 := bl.up e56
        obtain ⟨v1, v2, v3, p1, p2, p3, p4, p5, p6, p7⟩ := b6.ex
        have ha6 := e56 _ _ ha
        have lrs : rs.length ≤ 5 := by
          have := sub.length_le
          rw [List.length_map, List.length_take] at this
          have : (5 : Nat) = deedsT.length := rfl
          omega
        have nin : (.inr dd : Key) ∉ v3.map (·.1) := by
          rw [p7.keys]
          intro z
          unfold rulesIt at z
          rw [List.map_map] at z
          obtain ⟨q0, hq0, eq0⟩ := List.mem_map.mp z
          injection eq0 with eq0
          have hm0 : q0.1 ∈ deedsT.take i := sub.subset (List.mem_map.mpr ⟨q0, hq0, rfl⟩)
          obtain ⟨j, hj, ej⟩ := List.getElem_of_mem hm0
          rw [List.length_take] at hj
          rw [List.getElem_take] at ej
          have := nodup_at (show deedsT.Nodup by decide) (i := j) (j := i) (x := dd) (by rw [List.getElem?_eq_getElem (by omega), ej, eq0]) hw
          omega
        have keep : deedsT.take i ++ [dd] = deedsT.take (i + 1) := by rw [List.take_succ, hw]; rfl
        -- a rule is put
        have put : ∀ (σ7 : L2.St), σ7 = [some x, some (.ref ly), some (.ref lz), some (.ref p), o4, o5, none, some (.str dd), some (.int way), some (.ref as), none] → ∀ {tv : TE} (H7 : Hp), Ex H6 H7 → EvP tv σ7 H7 (PrsN 9 (fun i j => (0 ≤ i ∧ i ≤ 3) ∧ 0 ≤ j ∧ j ≤ 3)) → ∀ {D : Ends}, (∀ H'' rs', Ex H H'' → H'' a = some (.lst (deedsT.map V.str)) → Bld K p ds du dr m own us rs' H'' → (rs'.map (·.1)).Sublist (deedsT.take (i + 1)) → (∀ q ∈ rs', ∀ j ∈ q.2, (0 ≤ j.1 ∧ j.1 ≤ 3) ∧ 0 ≤ j.2 ∧ j.2 ≤ 3) → (∀ q ∈ rs', (q.2.length ≤ 9 ∧ q.2.Nodup)) → D.nx σ7 H'') →
            sDPut (tDGet (tVar 3) (tC (.str "rules"))) (tVar 7) tv D σ7 H7 := by
          intro σ7 eσ tv H7 e7 hv D kk
          subst eσ
          refine s_dputNew (k := .inr dd) hv (ev_subR rfl (.inl (e7 _ _ p1))) (ev_var rfl) (e7 _ _ p4) (by rw [p7.len]; unfold rulesIt; rw [List.length_map]; omega) nin fun v H8 e8 ⟨es, hes, hle, hq⟩ H9 e9 h9 => ?_
          have e79 := e7.trans (e8.trans e9)
          have mD : dr ∈ [p, ds, du, dr] := by simp
          refine kk _ (rs ++ [(dd, es)]) ((ex.trans (e56.trans e79)).mut f3) ?_ ⟨⟨v1, v2, v3 ++ [(.inr dd, v)], ?_, ?_, ?_, upd_same, ?_, ?_, ?_⟩, bl.ne⟩ ?_ (fun q hq => ?_) fun q hq => ?_
          · have := e79 _ _ ha6
            rw [upd_ne (fun z => by rw [z, h9] at this; cases this)]
            exact this
          · rw [upd_ne ne6.symm]; exact e79 _ _ p1
          · rw [upd_ne ne5.symm]; exact e79 _ _ p2
          · rw [upd_ne ne4.symm]; exact e79 _ _ p3
          · exact (p5.imp fun d v z => mo_spF _ _ _ e79 z).imp fun d v z => spF_put mD h9 z
          · exact (p6.up e79).put h9
          · unfold rulesIt
            rw [List.map_append]
            exact ((p7.up e79).put h9).snoc (C := 0) (K := K) (t := .d (.list (es.map prI))) (dw_qe (d := .list (es.map prI)) _ _ _ _ _ h9 (mo_qe _ _ _ e9 hq))
          · rw [List.map_append, ← keep]
            exact sub.append (.refl _)
          · rcases List.mem_append.mp hq with h | h
            · exact g1 q h
            · rw [List.mem_singleton.mp h]
              exact hes
          · rcases List.mem_append.mp hq with h | h
            · exact g2 q h
            · rw [List.mem_singleton.mp h]
              exact hle
        have leave : ∀ {H7 : Hp}, Ex H6 H7 → Bld K p ds du dr m own us rs H7 ∧ (rs.map (·.1)).Sublist (deedsT.take (i + 1)) := fun e7 => ⟨b6.up e7, sub.trans (by rw [← keep]; exact List.sublist_append_left _ _)⟩
        refine s_if (b := decide (way < 2) || (decide (way = 2) && inV (.str dd) [.str "answer", .str "frame", .str "done"])) (et_or (et_test (ev_op (ev_var rfl) ev_c rv_I0)) fun _ => et_and (et_test (ev_is (ev_op (ev_var rfl) ev_c (rv_eq rfl)) (congrArg V.bl (by rw [Bool.eq_iff_iff, decide_eq_true_iff, decide_eq_true_iff]; exact ⟨fun h => by injection h, fun h => by rw [h]⟩)))) fun _ => et_test (ev_opL (ev_var rfl) (el_lst (ea_cons ev_c (ea_cons ev_c (ea_cons ev_c ea_nil))) (by decide)) fun b H7 hb _ => rv_isL (sq_of hb) rfl rfl)) (fun c H7 e7 => ?_) fun c H7 e7 => ?_
        · have w2 : way ≤ 2 := by
            rw [Bool.or_eq_true, Bool.and_eq_true] at c
            rcases c with c | c
            · have := of_decide_eq_true c
              omega
            · have := of_decide_eq_true c.1
              omega
          have hv : ∀ {D : Ends}, EvP (tOp (rIxL K) (tVar 9) (tVar 8)) [some x, some (.ref ly), some (.ref lz), some (.ref p), o4, o5, none, some (.str dd), some (.int way), some (.ref as), none] H7 (PrsN 9 (fun i j => (0 ≤ i ∧ i ≤ 3) ∧ 0 ≤ j ∧ j ≤ 3)) := fun {D} => by
            obtain ⟨u, hu4, pu⟩ : ∃ u, xs3[way.toNat]? = some u ∧ PrsN 9 (fun i j => (0 ≤ i ∧ i ≤ 3) ∧ 0 ≤ j ∧ j ≤ 3) u H6 := by
              have : way.toNat = 0 ∨ way.toNat = 1 ∨ way.toNat = 2 := by omega
              rcases this with c | c | c <;> rw [c]
              · exact allP_get all3 rfl
              · exact allP_get all3 rfl
              · exact allP_get all3 rfl
            exact .of (ev_op (ev_var rfl) (ev_var rfl) (rv_ixL (sq_of (e7 _ _ has)) (by
              have := Chk.atI_nat hu4
              rwa [show ((way.toNat : Nat) : Int) = way by omega] at this))) mo_prsN (mo_prsN _ _ _ e7 pu)
          refine put _ rfl H7 e7 (hv (D := { nx := fun _ _ => True, rt := fun _ _ => True, bk := fun _ _ => True, ct := fun _ _ => True })) fun H8 rs' e8 ha8 b8 s8 g8 f8 => ?_
          exact ⟨_, _, _, rs', rfl, e8, ha8, na, b8, s8, g8, f8⟩
        · refine s_if (b := decide (dd = "back") && decide (way < 5)) (et_and (et_test (ev_is (ev_op (ev_var rfl) ev_c (rv_eq rfl)) (congrArg V.bl (str_dec _ _)))) fun _ => et_test (ev_op (ev_var rfl) ev_c rv_I0)) (fun c2 H8 e8 => ?_) fun c2 H8 e8 => ?_
          · refine put _ rfl H8 (e7.trans e8) ((p_lst mo_nil ps_nil).imp fun y H9 e9 ⟨b, ys, e1, e2, e3⟩ => ⟨[], (fun _ h => nomatch h), ⟨Nat.zero_le _, List.nodup_nil⟩, by
              cases ys with
              | nil => rw [e1]; exact .lst (Nat.zero_le _) e2 .nil
              | cons => exact e3.elim⟩) fun H9 rs' e9 ha9 b9 s9 g9 f9 => ⟨_, _, _, rs', rfl, e9, ha9, na, b9, s9, g9, f9⟩
          · have lv := leave (e7.trans e8)
            exact ⟨_, _, _, rs, rfl, ex.trans (e56.trans (e7.trans e8)), (e7.trans e8) _ _ ha6, na, lv.1, lv.2, g1, g2⟩
      case done3 =>
        rintro a σ' H5 ⟨o7, o8, o9, rs, rfl, ex, ha, na, bl, sub, g1, g2⟩
        obtain ⟨v1, v2, v3, p1, p2, p3, p4, p5, p6, p7⟩ := bl.ex
        refine s_ret (v := .ref p) (ev_var rfl) fun H6 e6 => q (.ref p) H6 ⟨own, us, rs, m⟩ (ex.trans e6) ⟨ek, gd, rm, eku, gu, sub, g1, g2, hm⟩ ⟨p, ds, du, dr, rfl, ⟨v1, v2, v3, e6 _ _ p1, e6 _ _ p2, e6 _ _ p3, e6 _ _ p4, (p5.imp fun d v z => mo_spF _ _ _ e6 z).imp fun d v ⟨q2, l, z1, z2, z3, z4⟩ => ⟨q2, l, z1, z3, z4⟩, p6.up e6, p7.up e6⟩, f1, f2, f3⟩
end
end Lw
set_option maxHeartbeats 4000000
/-! A drawn pact, as the law writes it down. -/
namespace Lw
open PySem PySem.Spec PyProof.Rows L2 Evl Pd Gd Us Chk Wlk
abbrev sPact : Stmt := Tp.s__law_pact
def pactKs (a b : Addr) : List (Key × V) := [(.inr "left", .ref a), (.inr "right", .ref b)]
def PactSp (at_ : AtP) (K : PySem.W.Frag) (l r : Es) : PV := fun x H => ∃ p a b, x = .ref p ∧ at_ H p (.dK (pactKs a b)) ∧ EndSp at_ K l (.ref a) H ∧ EndSp at_ K r (.ref b) H
theorem mo_pactSp {K : PySem.W.Frag} {l r : Es} : Mo (PactSp Sr K l r) := fun _ _ _ e ⟨p, a, b, h1, h2, h3, h4⟩ => ⟨p, a, b, h1, e _ _ h2, mo_endSp _ _ _ e h3, mo_endSp _ _ _ e h4⟩
/-- the words of both ends, as they are drawn -/
def wordsT : List (List Str × List Str) := [(["a"], []), (["a"], ["b"]), (["zz"], []), ([], ["m"]), (["b", "a"], []), (["x"], ["c"])]
def wordsD : List PyData := wordsT.map fun p => .list [.list (p.1.map PyData.str), .list (p.2.map PyData.str)]
def GoodP (l r : Es) : Prop := ∃ p ∈ wordsT, GoodE p.1 p.2 l ∧ GoodE p.2 p.1 r
def spPact (K : PySem.W.Frag) : Sp := fun vs H Q _ => vs.length = 1 ∧ ∃ x, vs = [x] ∧ PoolV K x H ∧ ∀ r H' l r', Ex H H' → GoodP l r' → PactSp Sr K l r' r H' → Q r H'
theorem scPact : FnScope ["pool", "some", "words"] ["pool"] (defScope sPact) := ⟨rfl, rfl, rfl, by decide +kernel, rfl, by decide +kernel, by decide +kernel⟩
theorem p_strs {σ : L2.St} {H : Hp} : EvP (tLst tNil) σ H (Qe (.list [])) := q_lst (ds := []) ps_nil
theorem p_str1 {σ : L2.St} {H : Hp} {a : Str} : EvP (tLst (tCons (tC (.str a)) tNil)) σ H (Qe (.list [.str a])) := q_lst (ds := [.str a]) (ps_cons mo_qe q_str ps_nil)
theorem p_str2 {σ : L2.St} {H : Hp} {a b : Str} : EvP (tLst (tCons (tC (.str a)) (tCons (tC (.str b)) tNil))) σ H (Qe (.list [.str a, .str b])) := q_lst (ds := [.str a, .str b]) (ps_cons mo_qe q_str (ps_cons mo_qe q_str ps_nil))
theorem p_two {σ : L2.St} {H : Hp} {ta tb : TE} {d e : PyData} (h1 : EvP ta σ H (Qe d)) (h2 : EvP tb σ H (Qe e)) : EvP (tLst (tCons ta (tCons tb tNil))) σ H (Qe (.list [d, e])) := q_lst (ds := [d, e]) (ps_cons mo_qe h1 (ps_cons mo_qe h2 ps_nil))
/-- a dict that is written leaves an end that was made behind it -/
theorem endN_put {K : PySem.W.Frag} {H0 H : Hp} {s : Es} {v : V} {D : Addr} {ls : List (Key × V)} (h : EndSpN K H0 s v H) (h0 : H0 D ≠ none) (hd : H D = some (.dK [])) : EndSp Sr K s v (upd H D (.dK ls)) := by
  obtain ⟨p, ds, du, dr, rfl, ⟨vs, us, rs, p1, p2, p3, p4, p5, p6, p7⟩, n1, n2, n3⟩ := h
  have off : ∀ {b : Addr} {kk : List (Key × V)}, H b = some (.dK kk) → 0 < kk.length → b ≠ D := fun {b kk} hb hl z => by
    rw [z, hd] at hb
    injection hb with hb
    injection hb with hb
    rw [← hb] at hl
    exact absurd hl (by decide)
  have offN : ∀ {b : Addr}, H0 b = none → b ≠ D := fun hb z => h0 (by rw [← z]; exact hb)
  refine ⟨p, ds, du, dr, rfl, vs, us, rs, ?_, ?_, ?_, ?_, p5.imp fun d v ⟨q, l, e, z1, z2⟩ => ⟨q, l, e, ?_, dw_qe (d := .list d.es) _ _ _ _ _ hd z2⟩, p6.put hd, p7.put hd⟩
  · show (upd H D (.dK ls)) p = _
    rw [upd_ne (off p1 (by show 0 < 4; decide))]; exact p1
  · show (upd H D (.dK ls)) ds = _
    rw [upd_ne (offN n1)]; exact p2
  · show (upd H D (.dK ls)) du = _
    rw [upd_ne (offN n2)]; exact p3
  · show (upd H D (.dK ls)) dr = _
    rw [upd_ne (offN n3)]; exact p4
  · show (upd H D (.dK ls)) q = _
    rw [upd_ne (off z1 (by show 0 < 5; decide))]; exact z1
section
variable {P : Program} {w : World} {K : PySem.W.Frag} {mg : Str → Option Value} {base : Heap}
theorem p_endSp {σ : L2.St} {H : Hp} {ta tb tc : TE} {ws os : List Str} {E : XK} (h1 : EvP ta σ H (PoolV K)) (h2 : EvP tb σ H (Qe (.list (ws.map PyData.str)))) (h3 : EvP tc σ H (Qe (.list (os.map PyData.str)))) (nw : ws.Nodup) (no : os.Nodup) (lw : ws.length ≤ 2) (lo : os.length ≤ 2) :
    EvP (tCall (spEnd K) [] E (tCons ta (tCons tb (tCons tc tNil)))) σ H (fun r H' => ∃ s, GoodE ws os s ∧ EndSpN K H s r H') := fun H1 e1 Q q =>
  h1 H1 e1 _ fun x H2 e2 px => h2 H2 (e1.trans e2) _ fun y H3 e3 py => h3 H3 (e1.trans (e2.trans e3)) _ fun z H4 e4 pz => ⟨rfl, x, y, z, ws, os, rfl, mo_pool _ _ _ (e3.trans e4) px, mo_qe _ _ _ e4 py, pz, nw, no, lw, lo, fun r H5 s e5 g p => q r H5 (e2.trans (e3.trans (e4.trans e5))) ⟨s, g, by
    obtain ⟨p, ds, du, dr, e, h, n1, n2, n3⟩ := p
    have fb := fun {b : Addr} (hb : H4 b = none) => fresh_back (e1.trans (e2.trans (e3.trans e4))) hb
    exact ⟨p, ds, du, dr, e, h, fb n1, fb n2, fb n3⟩⟩⟩
theorem ok_pact (D : Dn K mg "_law_pact" sPact) (UD : Use P w K mg base 1 "_law_draw" ["pool", "many"] (spDraw K)) (UE : Use P w K mg base 4 "_law_end" ["pool", "words", "others"] (spEnd K)) : Use P w K mg base 5 "_law_pact" ["pool"] (spPact K) := by
  refine use_of D scPact (fun f fd F => F.binds (ps := ["pool"]) fun _ _ _ _ _ _ us hl => match us, hl with | [_], _ => rfl) (fun vs H Q E h => h.1) (fun f cdv A outer s H vs Q E hr h => ?_)
  obtain ⟨_, x, rfl, hp, q⟩ := h
  have nd := scPact.nd
  refine ⟨_, pss_cons (ps_set (i := 1) nd rfl (Or.inl rfl) (pe_lst (pa_cons (pe_lst (pa_cons (pe_lst (pa_cons pe_str pa_nil)) (pa_cons (pe_lst pa_nil) pa_nil))) (pa_cons (pe_lst (pa_cons (pe_lst (pa_cons pe_str pa_nil)) (pa_cons (pe_lst (pa_cons pe_str pa_nil)) pa_nil)))
      (pa_cons (pe_lst (pa_cons (pe_lst (pa_cons pe_str pa_nil)) (pa_cons (pe_lst pa_nil) pa_nil))) (pa_cons (pe_lst (pa_cons (pe_lst pa_nil) (pa_cons (pe_lst (pa_cons pe_str pa_nil)) pa_nil))) (pa_cons (pe_lst (pa_cons (pe_lst (pa_cons pe_str (pa_cons pe_str pa_nil))) (pa_cons (pe_lst pa_nil) pa_nil)))
      (pa_cons (pe_lst (pa_cons (pe_lst (pa_cons pe_str pa_nil)) (pa_cons (pe_lst (pa_cons pe_str pa_nil)) pa_nil))) pa_nil))))))))
    (pss_cons (ps_set (i := 2) nd rfl (Or.inl rfl) (pe_ix ix_list (pv 1) (pe_use UD hr (by decide) (by rfl) (pa_cons (pv 0) (pa_cons pe_int pa_nil))) (fun _ _ => rfl)))
    (pss_one (ps_ret (pe_disp (pps_cons pe_str (pe_use UE hr (by decide) (by rfl) (pa_cons (pv 0) (pa_cons (pe_ix ix_list (pv 2) pe_int (fun _ _ => rfl)) (pa_cons (pe_ix ix_list (pv 2) pe_int (fun _ _ => rfl)) pa_nil))))
      (pps_cons pe_str (pe_use UE hr (by decide) (by rfl) (pa_cons (pv 0) (pa_cons (pe_ix ix_list (pv 2) pe_int (fun _ _ => rfl)) (pa_cons (pe_ix ix_list (pv 2) pe_int (fun _ _ => rfl)) pa_nil)))) pps_nil)) (by rfl) (by rfl) (fun z => by cases z) (by decide))))), ?_⟩
  refine d_asg (P := Qe (.list wordsD)) (q_lst (ds := wordsD) (ps_cons mo_qe (p_two p_str1 p_strs) (ps_cons mo_qe (p_two p_str1 p_str1) (ps_cons mo_qe (p_two p_str1 p_strs) (ps_cons mo_qe (p_two p_strs p_str1) (ps_cons mo_qe (p_two p_str2 p_strs) (ps_cons mo_qe (p_two p_str1 p_str1) ps_nil))))))) fun y H1 e1 hy => ?_
  refine d_asg (P := fun v H' => ∃ pw ∈ wordsT, Dq H' v (.list [.list (pw.1.map PyData.str), .list (pw.2.map PyData.str)])) ?words fun v H2 e2 ⟨pw, hpw, hv⟩ => ?_
  case words =>
    intro H2 e2 Q' q'
    refine ⟨y, rfl, ?_⟩
    refine p_draw (K := K) (H := H1) (m := 6) (p_var rfl mo_pool (mo_pool _ _ _ e1 hp)) ev_c (by decide) H2 e2 _ fun u H3 e3 ⟨n, hn, n0, n1⟩ => ?_
    have hy3 := dq_up (e2.trans e3) hy
    cases hy3 with
    | @lst l xs _ z hl hd =>
      have ln : n.toNat < wordsT.length := by show n.toNat < 6; omega
      obtain ⟨v, h1, h2⟩ := dqAll_get hd (show wordsD[n.toNat]? = some _ by unfold wordsD; rw [List.getElem?_map, List.getElem?_eq_getElem ln]; rfl)
      exact ⟨l, xs, n, v, rfl, hn, sq_of hl, (by
        have := Chk.atI_nat h1
        rwa [show ((n.toNat : Nat) : Int) = n by omega] at this), q' v H3 e3 ⟨_, List.getElem_mem ln, h2⟩⟩
  have e02 := e1.trans e2
  have nw : pw.1.Nodup ∧ pw.2.Nodup ∧ pw.1.length ≤ 2 ∧ pw.2.length ≤ 2 := by
    have : ∀ p ∈ wordsT, p.1.Nodup ∧ p.2.Nodup ∧ p.1.length ≤ 2 ∧ p.2.length ≤ 2 := by decide +kernel
    exact this pw hpw
  refine fun p np => ?_
  have e3 : Ex H2 (upd H2 p (.dK [])) := Ex.new np
  have w0 : ∀ {σ : L2.St} {H' : Hp}, σ[2]? = some (some v) → Ex H2 H' → EvP (tOp (rIxL K) (tVar 2) (tC (.int 0))) σ H' (Qe (.list (pw.1.map PyData.str))) := fun h e => p_ixQ (i := 0) (q_var h (dq_up e hv)) ev_c rfl
  have w1 : ∀ {σ : L2.St} {H' : Hp}, σ[2]? = some (some v) → Ex H2 H' → EvP (tOp (rIxL K) (tVar 2) (tC (.int 1))) σ H' (Qe (.list (pw.2.map PyData.str))) := fun h e => p_ixQ (i := 1) (q_var h (dq_up e hv)) ev_c rfl
  refine p_endSp (K := K) (H := upd H2 p (.dK [])) (p_var rfl mo_pool (mo_pool _ _ _ (e02.trans e3) hp)) (w0 rfl e3) (w1 rfl e3) nw.1 nw.2.1 nw.2.2.1 nw.2.2.2 _ (Ex.refl _) _ fun a H3 e4 ⟨l, gl, hl⟩ => ?_
  refine p_endSp (K := K) (H := H3) (p_var rfl mo_pool (mo_pool _ _ _ (e02.trans (e3.trans e4)) hp)) (w1 rfl (e3.trans e4)) (w0 rfl (e3.trans e4)) nw.2.1 nw.1 nw.2.2.2 nw.2.2.1 _ (Ex.refl _) _ fun b H4 e5 ⟨r, gr, hr4⟩ => ?_
  have hp4 : H4 p = some (.dK []) := e5 _ _ (e4 _ _ upd_same)
  have hp3 : H3 p = some (.dK []) := e4 _ _ upd_same
  obtain ⟨pa, _, _, _, ea, _⟩ := id hl
  obtain ⟨pb, _, _, _, eb, _⟩ := id hr4
  subst ea eb
  refine ⟨hp4, pactKs pa pb, rfl, show 2 ≤ 15 from by decide, ?_⟩
  rw [show mergeK [] (pactKs pa pb) = pactKs pa pb from rfl]
  refine q (.ref p) _ l r ?_ ⟨pw, hpw, gl, gr⟩ ⟨p, pa, pb, rfl, upd_same, endN_put (mo_endSpN _ _ _ e5 hl) (by rw [upd_same]; exact fun z => nomatch z) hp4, endN_put hr4 (by rw [hp3]; exact fun z => nomatch z) hp4⟩
  exact (e02.trans (e3.trans (e4.trans e5))).mut (fresh_back e02 np)
end
end Lw
set_option maxHeartbeats 4000000
/-! Lists of pairs that become dicts; facts of an end that is written down. -/
namespace Lw
open PySem PySem.Spec PyProof.Rows L2 Evl Pd Gd Us Chk Wlk
abbrev TupAll (H : Hp) : List Addr → List (Key × V) → Prop := Paired fun p kv => H p = some (.tup [kV kv.1, kv.2])
theorem tup_up {H H' : Hp} (e : ∀ b xs, H b = some (.tup xs) → H' b = some (.tup xs)) {ps : List Addr} {kvs : List (Key × V)} (h : TupAll H ps kvs) : TupAll H' ps kvs := by
  induction h with
  | nil => exact .nil
  | cons a t ih => exact .cons (e _ _ a) ih
theorem tup_len {H : Hp} {ps : List Addr} {kvs : List (Key × V)} (h : TupAll H ps kvs) : ps.length = kvs.length := Paired.length h
section
variable {K : PySem.W.Frag} {σ : L2.St} {H : Hp} {te : TE}
/-- [(k, v) for target in a walk] -/
theorem p_lcKV {wi : TI} {J : It} {n : Nat} {G : Hp → Prop} {Y : Nat → Hp → V → Hp → Prop} {g : TG} {vs : List Nat} (kf : Nat → Key) (Pf : Addr → Nat → PV) (hm : ∀ D i, Mo (Pf D i)) (hw : ∀ D i v H ys ys', H D = some (.lst ys) → Pf D i v H → Pf D i v (upd H D (.lst ys'))) (w : Walk J n G Y) (hn : n ≤ 40000)
    (hwi : ∀ H1, Ex H H1 → ∀ R : It → Hp → Prop, (∀ H2, Ex H1 H2 → R J H2) → wi σ H1 R) (hG : ∀ H1, Ex H H1 → G H1)
    (step : ∀ (D : Addr) (i : Nat) (x : V) (H1 H2 : Hp), i < n → Ex H H1 → (∃ ys, H1 D = some (.lst ys)) → Y i H1 x H2 → Ex H1 H2 ∧ ∃ σ2, (∀ k : L2.St → Hp → Prop, k σ2 H2 → g x (wipe σ vs) H2 k) ∧ wipe σ2 vs = wipe σ vs ∧ EvP te σ2 H2 (fun y H3 => ∃ b v, y = .ref b ∧ H3 b = some (.tup [kV (kf i), v]) ∧ Pf D i v H3)) :
    EvP (tLc wi g tYes te vs) σ H (fun x H' => ∃ D ps kvs, x = .ref D ∧ H' D = some (.lst (ps.map V.ref)) ∧ TupAll H' ps kvs ∧ kvs.length = n ∧ ∀ i, i < n → ∃ v, kvs[i]? = some (kf i, v) ∧ Pf D i v H') := fun H0 e Q q => hwi H0 e _ fun H1 e1 D hD => by
  refine lc_it w (fun i H' => Ex H1 H' ∧ ∃ ps kvs, H' D = some (.lst (ps.map V.ref)) ∧ TupAll H' ps kvs ∧ kvs.length = i ∧ ∀ j, j < i → ∃ v, kvs[j]? = some (kf j, v) ∧ Pf D j v H') ⟨Ex.new hD, [], [], upd_same, .nil, rfl, fun j hj => by omega⟩ (fun i H' _ p => hG H' ((e.trans e1).trans p.1)) (fun i x H2 H3 hi p y => ?_) fun H' p => ?_
  · obtain ⟨ex, ps, kvs, hy, al, hl, hf⟩ := p
    obtain ⟨e3, σ2, gk, hwp, he⟩ := step D i x H2 H3 hi ((e.trans e1).trans ex) ⟨_, hy⟩ y
    refine gk _ ⟨hwp, ?_⟩
    unfold tYes
    simp only [if_true]
    refine he H3 (Ex.refl _) _ fun u H4 e4 ⟨b, v, eu, hb, pf⟩ => ?_
    subst eu
    have e34 := e3.trans e4
    have hy4 := e34 _ _ hy
    have nb : ∀ {z : Addr} {xs : List V}, H4 z = some (.tup xs) → (upd H4 D (.lst (ps.map V.ref ++ [.ref b]))) z = some (.tup xs) := fun {z xs} h => by
      rw [upd_ne (fun q => by rw [q, hy4] at h; cases h)]
      exact h
    refine ⟨ps.map V.ref, hy4, sz_lt (by rw [List.length_map, tup_len al]; omega), (ex.trans e34).mut hD, ps ++ [b], kvs ++ [(kf i, v)], by rw [upd_same, List.map_append]; rfl, ?_, by simp [hl], fun j hj => ?_⟩
    · exact Paired.snoc ((tup_up (fun b xs h => e34 _ _ h) al) |> tup_up fun b xs h => nb h) (nb hb)
    · rcases Nat.lt_or_ge j i with c | c
      · obtain ⟨v2, h1, h2⟩ := hf j c
        exact ⟨v2, by rw [List.getElem?_append_left (by rw [hl]; exact c)]; exact h1, hw D j _ _ _ _ hy4 (hm D j _ _ _ e34 h2)⟩
      · have : j = i := by omega
        subst this
        exact ⟨v, by rw [List.getElem?_append_right (by omega), hl, Nat.sub_self]; rfl, hw D j _ _ _ _ hy4 pf⟩
  · obtain ⟨ex, ps, kvs, hy, al, hl, hf⟩ := p
    exact q (.ref D) H' (e1.trans ex) ⟨D, ps, kvs, rfl, hy, al, hl, hf⟩
end
theorem merge_nodup {kvs : List (Key × V)} (h : (kvs.map (·.1)).Nodup) : mergeK [] kvs = kvs := by
  have : ∀ (l acc : List (Key × V)), ((acc ++ l).map (·.1)).Nodup → mergeK acc l = acc ++ l := by
    intro l
    induction l with
    | nil => intro acc _; simp [mergeK]
    | cons p l ih =>
      intro acc h
      have no : valV acc p.1 = none := valV_no fun m => by
        rw [List.map_append, List.nodup_append] at h
        exact h.2.2 _ m p.1 (by simp) rfl
      show mergeK (putK acc p.1 p.2) l = _
      rw [putK_new _ no, ih _ (by simpa using h)]
      simp
  simpa using this kvs [] (by simpa using h)
/-! ### what is written down is right -/
structure WordsOk (ws os : List Str) : Prop where
  nw : ws.Nodup
  no : os.Nodup
  lw : ws.length ≤ 2
  lo : os.length ≤ 2
  w : ∀ x ∈ ws, isWordS x = true ∧ x.length ≤ 8
  o : ∀ x ∈ os, isWordS x = true ∧ x.length ≤ 8
  apart : ∀ x ∈ os, x ∉ ws
theorem words_ok : ∀ p ∈ wordsT, WordsOk p.1 p.2 ∧ WordsOk p.2 p.1 := by
  have : ∀ p ∈ wordsT, (p.1.Nodup ∧ p.2.Nodup ∧ p.1.length ≤ 2 ∧ p.2.length ≤ 2) ∧ ((∀ x ∈ p.1, isWordS x = true ∧ x.length ≤ 8) ∧ (∀ x ∈ p.2, isWordS x = true ∧ x.length ≤ 8)) ∧ (∀ x ∈ p.2, x ∉ p.1) ∧ ∀ x ∈ p.1, x ∉ p.2 := by decide +kernel
  intro p hp
  obtain ⟨⟨a, b, c, d⟩, ⟨e, f⟩, g, h⟩ := this p hp
  exact ⟨⟨a, b, c, d, e, f, g⟩, ⟨b, a, d, c, f, e, h⟩⟩
def ownIt (own : List (Str × Ds)) : Its' := own.map fun p => (.inr p.1, .set (settingOf (ptsD p.2)))
def ptsS (s : Es) : PtsE := ⟨.dct (ownIt s.own), .dct (usesIt s.uses), .dct (rulesIt s.rules), .int s.most⟩
def endS (s : Es) : Eg := endOf (ptsS s)
theorem base6_ok : ∀ e ∈ base6, okCh 3 e = true := by decide +kernel
theorem base2_ok : ∀ e ∈ base6.take 2, okCh 2 e = true := by decide +kernel
theorem rightD {d : Ds} (g : GoodD d) : wrong (ptsD d) = none := by
  have h1 : inT sorts (.str d.so) = true := List.any_eq_true.mpr ⟨d.so, g.so, by simp⟩
  have h2 : betw 2 4 (.int d.n) = true := by rcases g.n with c | c <;> rw [c] <;> decide
  have h3 : betw 0 (d.n - 1) (.int d.k) = true := by
    have := g.k
    simp [betw]
    omega
  have h4 : okChs d.n (.list d.es) = true := by
    refine List.all_eq_true.mpr fun e he => ?_
    have := g.es.subset he
    rcases g.n with c | c
    · rw [c] at this ⊢
      exact base2_ok e (by unfold chBase at this; rwa [if_pos rfl] at this)
    · rw [c] at this ⊢
      exact base6_ok e (by unfold chBase at this; rwa [if_neg (by decide)] at this)
  have h5 : isHold d.so (.str d.h) = true := by
    have := g.h
    unfold holdsOf at this
    unfold isHold
    by_cases c : d.so = ("table" : Str)
    · rw [if_pos c] at this ⊢
      refine List.any_eq_true.mpr ⟨d.h, ?_, by simp⟩
      simp only [List.mem_cons, List.not_mem_nil, or_false] at this
      rcases this with e | e | e <;> rw [e] <;> decide
    · rw [if_neg c] at this ⊢
      exact List.any_eq_true.mpr ⟨d.h, this, by simp⟩
  unfold wrong ptsD
  simp only [Chk.intOf, Chk.strOf, h1, h2, h3, h4, h5]
  rfl
theorem short_es {d : Ds} (g : GoodD d) : Short (.list d.es) := fun ds e => by
  cases e
  have := g.es.length_le
  have : (chBase d.n).length ≤ 6 := by unfold chBase; split <;> decide
  omega
section
variable {s : Es} {ws os : List Str}
theorem pairs_prI {es : List (Int × Int)} (h : ∀ q ∈ es, (0 ≤ q.1 ∧ q.1 ≤ 3) ∧ 0 ≤ q.2 ∧ q.2 ≤ 3) : okPairs (.list (es.map prI)) = true := by
  refine List.all_eq_true.mpr fun d hd => ?_
  obtain ⟨q, hq, rfl⟩ := List.mem_map.mp hd
  have := h q hq
  show (betw 0 3 (.int q.1) && betw 0 3 (.int q.2)) = true
  simp [betw]
  omega
theorem plainU (s : Es) : PlainA (.dct (usesIt s.uses)) := fun p hp => by
  obtain ⟨q, _, rfl⟩ := List.mem_map.mp hp
  exact ⟨_, rfl⟩
theorem plainR (s : Es) : PlainA (.dct (rulesIt s.rules)) := fun p hp => by
  obtain ⟨q, _, rfl⟩ := List.mem_map.mp hp
  exact ⟨_, rfl⟩
theorem nodup_inr {l : List Str} (h : l.Nodup) : (l.map (Sum.inr : Str → Key)).Nodup := List.pairwise_map.mpr (h.imp fun h z => h (by injection z))
theorem own_keys (own : List (Str × Ds)) : (ownIt own).map (·.1) = (own.map (·.1)).map Sum.inr := by
  unfold ownIt
  rw [List.map_map, List.map_map]
  rfl
theorem uses_keys (u : List (Str × Str)) : (usesIt u).map (·.1) = (u.map (·.1)).map Sum.inr := by
  unfold usesIt
  rw [List.map_map, List.map_map]
  rfl
theorem rules_keys (u : List (Str × List (Int × Int))) : (rulesIt u).map (·.1) = (u.map (·.1)).map Sum.inr := by
  unfold rulesIt
  rw [List.map_map, List.map_map]
  rfl
theorem smallO (g : GoodE ws os s) (k : WordsOk ws os) : Small (ownIt s.own) := by
  refine ⟨?_, fun p hp => ?_, ?_⟩
  · have := congrArg List.length g.own
    rw [List.length_map] at this
    unfold ownIt
    rw [List.length_map, this]
    have := k.lw
    omega
  · obtain ⟨q, hq, rfl⟩ := List.mem_map.mp hp
    have := (k.w q.1 (by rw [← g.own]; exact List.mem_map.mpr ⟨q, hq, rfl⟩)).2
    exact ⟨by show q.1.length ≤ 10000; omega, trivial⟩
  · rw [own_keys, g.own]
    exact nodup_inr k.nw
theorem smallU (g : GoodE ws os s) (k : WordsOk ws os) : Small (usesIt s.uses) := by
  refine ⟨?_, fun p hp => ?_, ?_⟩
  · have := congrArg List.length g.uses
    rw [List.length_map] at this
    unfold usesIt
    rw [List.length_map, this]
    have := k.lo
    omega
  · obtain ⟨q, hq, rfl⟩ := List.mem_map.mp hp
    have := (k.o q.1 (by rw [← g.uses]; exact List.mem_map.mpr ⟨q, hq, rfl⟩)).2
    have hu := g.us q hq
    refine ⟨by show q.1.length ≤ 10000; omega, fun t et => ?_, fun ds e => by cases e⟩
    cases et
    unfold usesT at hu
    simp only [List.mem_cons, List.not_mem_nil, or_false] at hu
    rcases hu with e | e <;> rw [e] <;> decide +kernel
  · rw [uses_keys, g.uses]
    exact nodup_inr k.no
theorem smallR (g : GoodE ws os s) : Small (rulesIt s.rules) := by
  have sub := g.deeds
  refine ⟨?_, fun p hp => ?_, ?_⟩
  · have := sub.length_le
    rw [List.length_map] at this
    unfold rulesIt
    rw [List.length_map]
    have : deedsT.length = 5 := rfl
    omega
  · obtain ⟨q, hq, rfl⟩ := List.mem_map.mp hp
    have hd : q.1 ∈ deedsT := sub.subset (List.mem_map.mpr ⟨q, hq, rfl⟩)
    refine ⟨deed_few hd, fun t et => (by cases et), fun ds e => ?_⟩
    cases e
    rw [List.length_map]
    have := (g.few q hq).1
    omega
  · rw [rules_keys]
    exact nodup_inr (List.Nodup.sublist sub (by decide))
theorem rightS (g : GoodE ws os s) (k : WordsOk ws os) : wrongE (ptsS s) = none := by
  have h1 : okSets (.dct (ownIt s.own)) = true := by
    rw [okSets_dct, rooms_filter]
    have a : (ownIt s.own).length ≤ 2 := by
      have := congrArg List.length g.own
      rw [List.length_map] at this
      unfold ownIt
      rw [List.length_map, this]
      exact k.lw
    have b : (ownIt s.own).all okItem = true := List.all_eq_true.mpr fun p hp => by
      obtain ⟨q, hq, rfl⟩ := List.mem_map.mp hp
      show (isWordS q.1 && true) = true
      rw [(k.w q.1 (by rw [← g.own]; exact List.mem_map.mpr ⟨q, hq, rfl⟩)).1]
      rfl
    have c : ((ownIt s.own).filter fun p => roomI p.2).length ≤ 1 := by
      unfold ownIt
      rw [List.filter_map, List.length_map]
      exact g.room
    rw [decide_eq_true a, b, decide_eq_true c]
    rfl
  have h2 : okUses (keysA (.dct (ownIt s.own))) (.dct (usesIt s.uses)) = true := by
    rw [okUses_dct]
    have a : (usesIt s.uses).length ≤ 2 := by
      have := congrArg List.length g.uses
      rw [List.length_map] at this
      unfold usesIt
      rw [List.length_map, this]
      exact k.lo
    have b : (usesIt s.uses).all (okUse (keysA (.dct (ownIt s.own)))) = true := List.all_eq_true.mpr fun p hp => by
      obtain ⟨q, hq, rfl⟩ := List.mem_map.mp hp
      have m : q.1 ∈ os := by rw [← g.uses]; exact List.mem_map.mpr ⟨q, hq, rfl⟩
      have e1 : ((keysA (.dct (ownIt s.own))).any fun k => decide (k = (.inr q.1 : Key))) = false := by
        show (((ownIt s.own).map (·.1)).any fun k => decide (k = (.inr q.1 : Key))) = false
        rw [own_keys, g.own, List.any_eq_false]
        intro x hx
        obtain ⟨t, ht, rfl⟩ := List.mem_map.mp hx
        have := k.apart q.1 m
        simp only [decide_eq_true_eq]
        intro z
        injection z with z
        exact this (by rw [← z]; exact ht)
      show (isWordS q.1 && (!_ && inT usesT (.str q.2))) = true
      rw [(k.o q.1 m).1, e1]
      exact List.any_eq_true.mpr ⟨q.2, g.us q hq, by simp⟩
    rw [decide_eq_true a, b]
    rfl
  have h3 : okRules (.dct (rulesIt s.rules)) = true := List.all_eq_true.mpr fun p hp => by
    obtain ⟨q, hq, rfl⟩ := List.mem_map.mp hp
    show (inT deedsT (.str q.1) && okPairs (.list (q.2.map prI))) = true
    rw [deed_in (g.deeds.subset (List.mem_map.mpr ⟨q, hq, rfl⟩)), pairs_prI (g.rules q hq)]
    rfl
  have h4 : betw 1 3 (.int s.most) = true := by rcases g.most with c | c <;> rw [c] <;> decide
  unfold wrongE ptsS
  simp only [h1, h2, h3, h4]
  rfl
theorem neatS (g : GoodE ws os s) (k : WordsOk ws os) : Neat (endS s) := neat_of (p := ptsS s) (rightS g k) (plainU s) (plainR s) (smallO g k) (smallU g k) (smallR g)
end
end Lw
set_option maxHeartbeats 4000000
/-! _law_made_end: the end that was written down is made. -/
namespace Lw
open PySem PySem.Spec PyProof.Rows L2 Evl Pd Gd Us Chk Wlk
abbrev sMadeE : Stmt := Tp.s__law_made_end
abbrev nMadeE : List Str := ["end", "settings", "word", "one", "rules", "deed"]
theorem scMadeE : FnScope nMadeE ["end"] (defScope sMadeE) := ⟨rfl, rfl, rfl, by decide +kernel, rfl, by decide +kernel, by decide +kernel⟩
def spMadeE (K : PySem.W.Frag) (C CE : Addr) : Sp := fun vs H Q _ => vs.length = 1 ∧ ∃ x s ws os, vs = [x] ∧ EndSp Sr K s x H ∧ GoodE ws os s ∧ WordsOk ws os ∧ ∀ r H', Ex H H' → EndV K C CE (endS s) r H' → Q r H'
theorem ev_sub {σ : L2.St} {H : Hp} {i : Nat} {p ds du dr : Addr} {m : Int} {key : Str} {v : V} (h : σ[i]? = some (some (.ref p))) (hp : Rd H p (.dK (endKs ds du dr m))) (e : valV (endKs ds du dr m) (.inr key) = some v) : Ev (tDGet (tVar i) (tC (.str key))) σ H v := (p_dget (k := .inr key) (ev_var h) ev_c hp e mo_is rfl).ev
theorem itm_unlock {K : PySem.W.Frag} {C : Addr} {t : Itm} {v : V} {H : Hp} {d : Addr} {od : Obj} {vs : List (Key × V)} (hd : H d = some (.frz od (.dK vs))) (h : ItmV K C t v H) : ItmV K C t v (upd H d (.dK vs)) := by
  have st : ∀ {b : Addr} {o : HO}, H b = some o → (∀ o' u', o ≠ .frz o' u') → (upd H d (.dK vs)) b = some o := fun {b o} hb ne => by
    rw [upd_ne (fun z => by rw [z, hd] at hb; cases hb; exact ne _ _ rfl)]
    exact hb
  cases t with
  | d e => exact qe_unlock hd h
  | set g =>
    obtain ⟨a, ex, dx, e, fs, h1, h2, h3⟩ := h
    exact ⟨a, ex, dx, e, fs, st h1 (fun _ _ z => nomatch z), st h2 (fun _ _ z => nomatch z), h3⟩
  | dt ks =>
    obtain ⟨a, ex, ha⟩ := h
    exact ⟨a, ex, st ha fun _ _ z => nomatch z⟩
/-- list(xs) -/
theorem p_listQ {K : PySem.W.Frag} {σ : L2.St} {H : Hp} {te : TE} {ds : List PyData} (h : EvP te σ H (Qe (.list ds))) : EvP (tCB (rListS K) (tCons te tNil)) σ H (Qe (.list ds)) := fun H1 e Q q =>
  h H1 e _ fun x H2 e2 p => by
    cases p with
    | @lst a xs _ z hl hd => exact ⟨a, xs, rfl, .inl (sq_of hl), fun l hn => q _ _ (e2.trans (Ex.new hn)) (.lst z upd_same (dqAll_up (Ex.new hn) hd))⟩
/-- a list of pairs that is not the list at D -/
def PrD (D : Addr) (es : List (Int × Int)) : PV := fun y H => ∃ l xs, y = .ref l ∧ l ≠ D ∧ H l = some (.lst xs) ∧ PrAll H xs es ∧ xs.length ≤ 100000
theorem mo_prD {D : Addr} {es : List (Int × Int)} : Mo (PrD D es) := fun _ _ _ e ⟨l, xs, h1, h2, h3, h4, h5⟩ => ⟨l, xs, h1, h2, e _ _ h3, h4.up fun b xs h => e _ _ h, h5⟩
theorem prD_put {D : Addr} {es : List (Int × Int)} {v : V} {H : Hp} {ys ys' : List V} (hD : H D = some (.lst ys)) (h : PrD D es v H) : PrD D es v (upd H D (.lst ys')) := by
  obtain ⟨l, xs, h1, h2, h3, h4, h5⟩ := h
  exact ⟨l, xs, h1, h2, by rw [upd_ne h2]; exact h3, h4.up fun b xs h => (by rw [upd_ne (fun z => by rw [z, hD] at h; cases h)]; exact h), h5⟩
theorem dq_prAll {H : Hp} : ∀ {xs : List V} {es : List (Int × Int)}, DqAll H xs (es.map prI) → PrAll H xs es
  | [], [], _ => trivial
  | x :: xs, p :: es, .cons h t => by
    refine ⟨?_, dq_prAll t⟩
    cases h with
    | tup hb a =>
      cases a with
      | cons h1 a =>
        cases a with
        | cons h2 a =>
          cases a
          cases h1
          cases h2
          exact ⟨_, rfl, hb⟩
  | [], _ :: _, h => by cases h
  | _ :: _, [], h => by cases h
section
variable {P : Program} {w : World} {K : PySem.W.Frag} {mg : Str → Option Value} {base : Heap} {C CE CD CB CS : Addr}
theorem ok_madeE (D : Dn K mg "_law_made_end" sMadeE) (B : Bc mg) (B2 : Bd mg) (S : SetC P w K mg base C CS) (SE : EndC P w K mg base C CE CD CB) : Use P w K mg base 9 "_law_made_end" ["end"] (spMadeE K C CE) := by
  refine use_of D scMadeE (fun f fd F => F.binds (ps := ["end"]) fun _ _ _ _ _ _ us hl => match us, hl with | [_], _ => rfl) (fun vs H Q E h => h.1) (fun f cdv A outer s H vs Q E hr h => ?_)
  obtain ⟨_, x, sp, ws, os, rfl, hx, G, k, q⟩ := h
  have nd := scMadeE.nd
  have hu1 : (A.deeper (envOfC "_law_made_end" (defScope sMadeE) s.heap.objs.size f cdv)).units + 1 < cLine := by have := hr.un; omega
  refine ⟨_, pss_cons (ps_set (i := 1) nd rfl (Or.inl rfl) pe_dnewK)
    (pss_cons (ps_lock (ps_for PassesOwn.never rfl (pi_keys (pe_dget hu1 (pv 0) pe_str (fun _ _ => rfl))) (pg_name (i := 2) nd rfl (Or.inl rfl))
      (pss_cons (ps_set (i := 3) nd rfl (Or.inl rfl) (pe_dget hu1 (pe_dget hu1 (pv 0) pe_str (fun _ _ => rfl)) (pv 2) (fun _ _ => rfl)))
      (pss_one (ps_dput hu1 (pv 1) (pv 2) (pe_setting (E := fun _ _ _ => False) S hr (by decide) (by rfl) (passes_call LamX.takes0 fun _ _ _ _ h => h) (pa_cons (pe_dget hu1 (pv 3) pe_str (fun _ _ => rfl)) (pa_cons (pe_dget hu1 (pv 3) pe_str (fun _ _ => rfl)) (pa_cons (pe_dget hu1 (pv 3) pe_str (fun _ _ => rfl))
        (pa_cons (pe_callTy call_list_of (by rfl) B.list Chk.boot_list (pa_cons (pe_dget hu1 (pv 3) pe_str (fun _ _ => rfl)) pa_nil)) (pa_cons (pe_dget hu1 (pv 3) pe_str (fun _ _ => rfl)) pa_nil)))))) rfl)))))
    (pss_cons (ps_set (i := 4) nd rfl (Or.inl rfl) (pe_callTy (call_dictP rfl) (by rfl) B2.dict Chk.boot_dict (pa_cons (pe_lock (pe_lc (own := [("deed", 5)]) (g := gName 5) (tt := tYes) rfl nd (pi_keys (pe_dget hu1 (pv 0) pe_str (fun _ _ => rfl))) (blkOk_by (N := nMadeE) (sc := defScope sMadeE) (by decide +kernel))
      (fun _ _ _ _ _ => pg_name (i := 5) nd rfl (Or.inl rfl)) (fun _ _ _ _ _ => pts_nil) (fun _ _ _ _ _ => pe_tup (pa_cons (pv 5) (pa_cons (pe_callTy (r := rListS K) call_list_of (by rfl) B.list Chk.boot_list (pa_cons (pe_dget hu1 (pe_dget hu1 (pv 0) pe_str (fun _ _ => rfl)) (pv 5) (fun _ _ => rfl)) pa_nil)) pa_nil))))) pa_nil)))
    (pss_one (ps_ret (pe_end (E := fun _ _ _ => False) SE hr (by decide) (by rfl) (passes_call LamX.takes0 fun _ _ _ _ h => h) (pa_cons (pv 1) (pa_cons (pe_callTy call_dictD (by rfl) B2.dict Chk.boot_dict (pa_cons (pe_dget hu1 (pv 0) pe_str (fun _ _ => rfl)) pa_nil)) (pa_cons (pv 4) (pa_cons (pe_dget hu1 (pv 0) pe_str (fun _ _ => rfl)) pa_nil)))))))))
    , ?_⟩
  obtain ⟨p, ds, du, dr, rfl, hE⟩ := hx
  obtain ⟨v1, v2, v3, h1, h2, h3, h4, i1, i2, i3⟩ := id hE.ex
  have nf : ∀ {kvs : List (Key × V)} (o' : Obj) (u' : HO), HO.dK kvs ≠ .frz o' u' := fun _ _ z => nomatch z
  refine fun D nD => ?_
  dsimp only [gName]
  have nDs : D ≠ ds := fun z => by
    rw [z, show H ds = _ from h2] at nD
    cases nD
  have nDr : D ≠ dr := fun z => by
    rw [z, show H dr = _ from h4] at nD
    cases nD
  have eD : Ex H (upd H D (.dK [])) := Ex.new nD
  have n1 : (v1.map (·.1)).Nodup := by
    rw [i1.keys]
    have : (sp.own.map fun p => (.inr p.1 : Key)) = (sp.own.map (·.1)).map Sum.inr := by rw [List.map_map]; rfl
    rw [this, G.own]
    exact nodup_inr k.nw
  have low : sp.own.length ≤ 2 := by
    have := congrArg List.length G.own
    rw [List.length_map] at this
    rw [this]
    exact k.lw
  refine q_lockKeys (d := ds) (vs := v1) (fun od => ev_sub (p := p) (ds := ds) (du := du) (dr := dr) (m := sp.most) rfl (rd_lock (eD _ _ h2) (.inl (eD _ _ h1)) nf) rfl) (eD _ _ h2)
    (fun od i σ' H' => ∃ o2 o3 vs', σ' = [some (.ref p), some (.ref D), o2, o3, none, none] ∧ Ex (lk H ds od v1) H' ∧ H' D = some (.dK vs') ∧ ItemsV K C (ownIt (sp.own.take i)) vs' H') (fun od i σ' H' ⟨_, _, _, _, ex, _⟩ => ex _ _ upd_same)
    (fun od H2 e2 => ⟨none, none, [], rfl, (ex_both eD).trans e2, e2 _ _ (by show (upd (upd H D (.dK [])) ds _) D = _; rw [upd_ne nDs, upd_same]), ⟨rfl, fun i k t h => by simp [ownIt] at h⟩⟩) ?turn ?fin
  case turn =>
    rintro od n kk v σ' H' hv ⟨o2, o3, vs', rfl, ex, hD, hit⟩
    obtain ⟨wd, d, rfl, ho, hs⟩ := i1.from hv
    have gd := G.ds _ (List.mem_of_getElem? ho)
    have ss : SetSp Rd d v H' := by
      obtain ⟨q2, l, e, z1, z2⟩ := hs
      exact mo_setSpR _ _ _ ex (lk_setSp _ _ _ _ _ h2 ⟨q2, l, e, .inl z1, z2⟩)
    have hpR : Rd H' p (.dK (endKs ds du dr sp.most)) := ex_rd ex (rd_lock h2 (.inl h1) nf)
    have hds : H' ds = some (.frz od (.dK v1)) := ex _ _ upd_same
    dsimp only [gName]
    refine d_asg (P := SetSp Rd d) (p_dget (k := .inr wd) (ev_sub (p := p) (ds := ds) (du := du) (dr := dr) (m := sp.most) rfl hpR rfl) (ev_var rfl) (.inr ⟨od, hds⟩) (valV_at n1 hv) mo_setSpR ss) fun one H2 e2 ⟨q2, l, eo, hq2, hl⟩ => ?_
    subst eo
    have get : ∀ {key : Str} {u : V}, valV (drawnK d.so d.n d.k l d.h) (.inr key) = some u → Ev (tDGet (tVar 3) (tC (.str key))) [some (.ref p), some (.ref D), some (.str wd), some (.ref q2), none, none] H2 u := fun {key u} e => (p_dget (k := .inr key) (ev_var rfl) ev_c hq2 e mo_is rfl).ev
    refine s_dputNew (k := .inr wd) (P := SetV C (settingOf (ptsD d))) (p_make (p := ptsD d) (ps_cons mo_qe (ev_qS (get rfl)) (ps_cons mo_qe (ev_qI (get rfl)) (ps_cons mo_qe (ev_qI (get rfl)) (ps_cons mo_qe (p_listQ (.of (get rfl) mo_qe hl)) (ps_cons mo_qe (ev_qS (get rfl)) ps_nil))))) (short_es gd) (rightD gd)) (ev_var rfl) (ev_var rfl) (e2 _ _ hD) (by rw [hit.len]; unfold ownIt; rw [List.length_map, List.length_take]; omega) ?_ fun sv H3 e3 hsv H4 e4 h4D => ?_
    · rw [hit.keys, own_keys]
      intro z
      obtain ⟨t, ht, et⟩ := List.mem_map.mp z
      injection et with et
      subst et
      rw [List.map_take] at ht
      obtain ⟨j, hj, ej⟩ := List.getElem_of_mem ht
      rw [List.length_take] at hj
      rw [List.getElem_take] at ej
      have nw : (sp.own.map (·.1)).Nodup := by rw [G.own]; exact k.nw
      have := nodup_at nw (i := j) (j := n) (x := t) (by rw [List.getElem?_eq_getElem (by omega), ej]) (by rw [List.getElem?_map, ho]; rfl)
      omega
    · have e24 := e2.trans (e3.trans e4)
      refine ⟨_, _, vs' ++ [(.inr wd, sv)], rfl, ?_, upd_same, ?_⟩
      · exact (ex.trans e24).mut (by show (upd H ds _) D = none; rw [upd_ne nDs]; exact nD)
      · have tk : ownIt (sp.own.take (n + 1)) = ownIt (sp.own.take n) ++ [(.inr wd, .set (settingOf (ptsD d)))] := by
          unfold ownIt
          rw [List.take_succ, ho, List.map_append]
          rfl
        rw [tk]
        exact ((hit.up e24).put h4D).snoc (t := .set (settingOf (ptsD d))) (dw_set _ _ _ _ _ h4D (mo_set _ _ _ e4 hsv))
  case fin =>
    rintro od σ' H' ⟨o2, o3, vs', rfl, ex, hD, hit⟩
    rw [i1.len, List.take_length] at hit
    have e5 : Ex H (upd H' ds (.dK v1)) := EqD.ex_lock h2 ex
    have hD5 : (upd H' ds (.dK v1)) D = some (.dK vs') := by rw [upd_ne nDs]; exact hD
    have hit5 : ItemsV K C (ownIt sp.own) vs' (upd H' ds (.dK v1)) := ⟨hit.len, fun i k t h => let ⟨v, z1, z2⟩ := hit.at_ i k t h; ⟨v, z1, itm_unlock (ex _ _ upd_same) z2⟩⟩
    generalize upd H' ds (.dK v1) = H5 at e5 hD5 hit5
    have n3 : (v3.map (·.1)).Nodup := by
      rw [i3.keys, rules_keys]
      exact nodup_inr (List.Nodup.sublist G.deeds (by decide))
    have lr : sp.rules.length ≤ 5 := by
      have := G.deeds.length_le
      rw [List.length_map] at this
      exact this
    have lv3 : v3.length = sp.rules.length := by rw [i3.len]; unfold rulesIt; rw [List.length_map]
    have comp : EvP (tLockE (tLc (iKeys (tDGet (tVar 0) (tC (.str "rules")))) (gName 5) tYes (tTup (tCons (tVar 5) (tCons (tCB (rListS K) (tCons (tDGet (tDGet (tVar 0) (tC (.str "rules"))) (tVar 5)) tNil)) tNil))) [5])) [some (.ref p), some (.ref D), o2, o3, none, none] H5
        (fun x H' => ∃ L ps kvs, x = .ref L ∧ H' L = some (.lst (ps.map V.ref)) ∧ TupAll H' ps kvs ∧ kvs.length = v3.length ∧ ∀ i, i < v3.length → ∃ v, kvs[i]? = some (.inr (((sp.rules[i]?).map (·.1)).getD ""), v) ∧ PrD L (((sp.rules[i]?).map (·.2)).getD []) v H') := by
      refine p_lock (e5 _ _ h4) (fun x H2 od hf ⟨L, ps, kvs, ex2, hL, al, hl, hk⟩ => ?_) fun od => ?_
      · have st : ∀ {b : Addr} {o : HO}, H2 b = some o → (∀ o' u', o ≠ .frz o' u') → (upd H2 dr (.dK v3)) b = some o := fun {b o} hb ne => by
          rw [upd_ne (fun z => by rw [z, hf] at hb; cases hb; exact ne _ _ rfl)]
          exact hb
        refine ⟨L, ps, kvs, ex2, st hL (fun _ _ z => nomatch z), tup_up (fun b xs h => st h fun _ _ z => nomatch z) al, hl, fun i hi => ?_⟩
        obtain ⟨v, g1, l, xs, g2, g3, g4, g5, g6⟩ := hk i hi
        exact ⟨v, g1, l, xs, g2, g3, st g4 (fun _ _ z => nomatch z), g5.up (fun b xs h => st h (fun _ _ z => nomatch z)), g6⟩
      · have hpL : Rd (lk H5 dr od v3) p (.dK (endKs ds du dr sp.most)) := rd_lock (e5 _ _ h4) (.inl (e5 _ _ h1)) nf
        refine p_lcKV (σ := [some (.ref p), some (.ref D), o2, o3, none, none]) (wi := iKeys (tDGet (tVar 0) (tC (.str "rules")))) (g := gName 5) (vs := [5]) (te := tTup (tCons (tVar 5) (tCons (tCB (rListS K) (tCons (tDGet (tDGet (tVar 0) (tC (.str "rules"))) (tVar 5)) tNil)) tNil))) (fun i => .inr (((sp.rules[i]?).map (·.1)).getD "")) (fun L i => PrD L (((sp.rules[i]?).map (·.2)).getD [])) (fun _ _ => mo_prD) (fun _ _ _ _ _ _ hD h => prD_put hD h) (walk_keys (d := dr) (o := od) (kvs := v3)) (by omega)
          (fun H1 e1 R r => ev_sub (p := p) (ds := ds) (du := du) (dr := dr) (m := sp.most) rfl hpL rfl H1 e1 _ fun H2 e2 => ⟨dr, od, rfl, .inl ⟨v3, (e1.trans e2) _ _ upd_same, r H2 e2⟩⟩) (fun H1 e1 => e1 _ _ upd_same) fun L i x H1 H2 hi e1 ⟨ys, hys⟩ y => ?_
        obtain ⟨rfl, kk, v, hk, rfl⟩ := y
        obtain ⟨t, ht, pv0⟩ := (((i3.up e5).lock (od := od) (e5 _ _ h4)).up e1).from hk
        unfold rulesIt at ht
        rw [List.getElem?_map] at ht
        obtain ⟨rl, hr3, er⟩ := Option.map_eq_some_iff.mp ht
        cases er
        rw [hr3]
        refine ⟨Ex.refl _, _, fun k hk => hk, rfl, fun H3 e3 Q' q' => ⟨.str rl.1, rfl, ?_⟩⟩
        have pg : EvP (tDGet (tDGet (tVar 0) (tC (.str "rules"))) (tVar 5)) [some (.ref p), some (.ref D), o2, o3, none, some (.str rl.1)] H2 (Qe (.list (rl.2.map prI))) :=
          p_dget (k := .inr rl.1) (ev_sub (p := p) (ds := ds) (du := du) (dr := dr) (m := sp.most) rfl (ex_rd e1 hpL) rfl) (ev_var rfl) (.inr ⟨od, e1 _ _ upd_same⟩) (valV_at n3 hk) mo_qe pv0
        refine pg H3 e3 _ fun z H4 e4 pz => ?_
        cases pz with
        | @lst a xs _ zz hl hd =>
          refine ⟨a, xs, rfl, .inl (sq_of hl), fun l nl => ⟨show 2 ≤ sizeLine from by decide, fun b nb => q' (.ref b) _ (e4.trans ((Ex.new nl).trans (Ex.new nb))) ⟨b, .ref l, rfl, upd_same, l, xs, rfl, ?_, ?_, ?_, zz⟩⟩⟩
          · intro z
            have := (e3.trans e4) _ _ hys
            rw [← z, nl] at this
            cases this
          · rw [upd_ne (Ne.symm (none_un nb).1)]
            exact upd_same
          · exact (dq_prAll (dqAll_up ((Ex.new nl).trans (Ex.new nb)) hd))
    refine d_asg (P := fun x H' => ∃ R w3, x = .ref R ∧ H' R = some (.dK w3) ∧ ItemsV K C (rulesIt sp.rules) w3 H') ?rules fun rv H6 e6 ⟨R, w3, er, hR, i3'⟩ => ?ret
    case rules =>
      intro H6 e6 Q' q'
      refine comp H6 e6 _ fun x H7 e7 ⟨L, ps, kvs, ex2, hL, al, hl, hk⟩ => ⟨L, ps, kvs, by rw [ex2], sq_of hL, Paired.mapP al (fun _ _ z => st_of z), fun R nR => ?_⟩
      have ek : kvs.map (·.1) = (sp.rules.map (·.1)).map Sum.inr := by
        refine List.ext_getElem (by simp [hl, lv3]) fun i a b => ?_
        rw [List.length_map] at a
        obtain ⟨v, g1, _⟩ := hk i (by omega)
        rw [List.getElem?_eq_getElem a] at g1
        have l2 : i < sp.rules.length := by omega
        rw [List.getElem?_eq_getElem l2] at g1
        simp only [List.getElem_map]
        rw [Option.some.inj g1]
        rfl
      rw [merge_nodup (by rw [ek]; exact nodup_inr (List.Nodup.sublist G.deeds (by decide)))]
      refine q' (.ref R) _ (e7.trans (Ex.new nR)) ⟨R, kvs, rfl, upd_same, by rw [hl, lv3]; unfold rulesIt; rw [List.length_map], fun i kk t ht => ?_⟩
      unfold rulesIt at ht
      rw [List.getElem?_map] at ht
      obtain ⟨rl, hr3, er⟩ := Option.map_eq_some_iff.mp ht
      cases er
      obtain ⟨v, g1, l, xs, g2, g3, g4, g5, g6⟩ := hk i (by rw [lv3]; exact (List.getElem?_eq_some_iff.mp hr3).1)
      rw [hr3] at g1 g5
      subst g2
      exact ⟨_, g1, .lst g6 ((Ex.new nR) _ _ g4) (dqAll_up (Ex.new nR) g5.dq)⟩
    case ret =>
      subst er
      have e56 := e5.trans e6
      refine d_ret (p_makeE (K := K) (C := C) (CB := CB) (p := ptsS sp) ?args (plainU sp) (plainR sp) (rightS G k)) fun r H7 e7 p7 => q r H7 (e56.trans e7) p7
      refine ps_cons mo_arg (.of (ev_var rfl) mo_arg ⟨⟨D, vs', rfl, e6 _ _ hD5, hit5.up e6⟩, smallO G k⟩) (ps_cons mo_arg ?us (ps_cons mo_arg (.of (ev_var rfl) mo_arg ⟨⟨R, w3, rfl, hR, i3'⟩, smallR G⟩) (ps_cons mo_de (.of (ev_sub (p := p) (ds := ds) (du := du) (dr := dr) (m := sp.most) rfl (.inl (e56 _ _ h1)) rfl) mo_de (.int sp.most)) ps_nil)))
      intro H7 e7 Q' q'
      refine ev_sub (p := p) (ds := ds) (du := du) (dr := dr) (m := sp.most) rfl (.inl (e56 _ _ h1)) rfl H7 e7 _ fun H8 e8 => ⟨du, v2, rfl, .inl ((e56.trans (e7.trans e8)) _ _ h3), fun U nU => q' (.ref U) _ (e8.trans (Ex.new nU)) ⟨⟨U, v2, rfl, upd_same, i2.len, fun i kk t ht => ?_⟩, smallU G k⟩⟩
      obtain ⟨v, g1, g2⟩ := (i2.up (e56.trans (e7.trans (e8.trans (Ex.new nU))))).at_ i kk t ht
      obtain ⟨dd, rfl⟩ := plain_at (plainU sp) ht
      exact ⟨v, g1, g2⟩
end
end Lw
set_option maxHeartbeats 1000000
/-! Ends over a growing table of code objects. -/
namespace Lw
open PySem PySem.Spec PyProof.Rows L2 Evl Pd Gd Us Chk Wlk LamX LamK
section
variable {K : PySem.W.Frag} {C CE : Addr} {H H' : Hp}
theorem st_n {o : HO} (e : ExtN H H') {b : Addr} (h : H b = some o) (n : ∀ ps, o ≠ .tbl ps := by exact fun _ z => nomatch z) : H' b = some o := e b o h n
theorem mon_itm {t : Itm} : MoN (ItmV K C t) := by
  cases t with
  | d d => exact mon_qe
  | set g => exact mon_set
  | dt ks => exact fun _ _ _ e ⟨t, h1, h2⟩ => ⟨t, h1, st_n e h2⟩
theorem items_n {kvs : Its'} {vs : List (Key × V)} (e : ExtN H H') (h : ItemsV K C kvs vs H) : ItemsV K C kvs vs H' := ⟨h.len, fun i k t hi => let ⟨v, h1, h2⟩ := h.at_ i k t hi; ⟨v, h1, mon_itm _ _ _ e h2⟩⟩
theorem mon_end {e : Eg} : MoN (EndV K C CE e) := fun _ _ _ x ⟨a, ex, at_⟩ => by
  obtain ⟨dx, fs, d1, d2, d3, v1, v2, v3, h0, h1, h2, h3, i1, i2, i3, r⟩ := at_.ex
  exact ⟨a, ex, dx, fs, d1, d2, d3, v1, v2, v3, st_n x h0, st_n x h1, st_n x h2, st_n x h3, items_n x i1, items_n x i2, items_n x i3, r⟩
theorem mon_setSp {d : Ds} : MoN (SetSp Sr d) := fun _ _ _ e ⟨q, l, h1, h2, h3⟩ => ⟨q, l, h1, st_n e h2, dq_ext e h3⟩
theorem endAtS_n {s : Es} {p ds du dr : Addr} (e : ExtN H H') (h : EndAtS Sr K s p ds du dr H) : EndAtS Sr K s p ds du dr H' := by
  obtain ⟨vs, us, rs, h1, h2, h3, h4, h5, h6, h7⟩ := h.ex
  exact ⟨vs, us, rs, st_n e h1, st_n e h2, st_n e h3, st_n e h4, h5.imp fun d v z => mon_setSp _ _ _ e z, items_n e h6, items_n e h7⟩
theorem mon_endSp {s : Es} : MoN (EndSp Sr K s) := fun _ _ _ e ⟨p, ds, du, dr, h1, h2⟩ => ⟨p, ds, du, dr, h1, endAtS_n e h2⟩
theorem mon_pactSp {l r : Es} : MoN (PactSp Sr K l r) := fun _ _ _ e ⟨p, a, b, h1, h2, h3, h4⟩ => ⟨p, a, b, h1, st_n e h2, mon_endSp _ _ _ e h3, mon_endSp _ _ _ e h4⟩
end
/-! ### a lambda that calls with_pairs with what is none -/
section
variable {K : PySem.W.Frag} {C CE a0 a1 a2 a3 a4 a5 a6 a7 a8 a9 : Addr} {σ : L2.St} {H : Hp} {T : TabT} {te ty tz : TE} {e : Eg} {d dp : PyData}
abbrev TW (K : PySem.W.Frag) (C CE a1 a4 : Addr) (te ty tz : TE) : XK → TE := fun E => tMeth CE "with_pairs" (spWith K C CE a4 a1) [] E te (tCons ty (tCons tz tNil))
theorem n_badDeed (N : Neat e) (h : ∀ H1, ExtN H H1 → EvP te σ H1 (EndV K C CE e)) (hd : ∀ H1, ExtN H H1 → EvP ty σ H1 (Qe d)) (hp : ∀ H1, ExtN H H1 → EvP tz σ H1 (Qe dp)) (few : Few dp) (sh : Short dp) (no : inT deedsT d = false) (R : Repable d) :
    EN T (tLam T (TBad K (errs a0 a1 a2 a3 a4 a5 a6 a7 a8 a9)) (TW K C CE a1 a4 te ty tz)) σ H (Qe (.list [.str "deed", .str d.shown])) := fun H1 e1 hT Q q => by
  refine ⟨hT, fun H2 e2 T2 => ?_⟩
  refine with_bad (d := d) (dp := dp) (h H2 (e1.trans e2)) N (hd H2 (e1.trans e2)) (hp H2 (e1.trans e2)) few sh (.inl no) (fun _ y o H3 e3 no3 hy => ?_) fun c => by rw [no] at c; cases c
  have x1 : Ex H3 (upd H3 o (.xd [("value", y)])) := Ex.new no3
  refine ⟨[⟨a0, "setting", "part", false⟩, ⟨a1, "end", "part", false⟩, ⟨a2, "pact", "part", false⟩, ⟨a3, "name", "value", true⟩], ⟨a4, "deed", "value", true⟩, _, o, y, .str d.shown, rfl, rfl, rfl, upd_same, ⟨d, dq_dp (dq_up x1 hy), R, rfl⟩, fun p np => ?_⟩
  have x2 := x1.trans (Ex.new (o := .lst [.str "deed", .str d.shown]) np)
  exact q _ _ (e2.trans (ExtN.of (e3.trans x2))) (T2.ext (e3.trans x2)) (.lst (xs := [.str "deed", .str d.shown]) (show 2 ≤ 100000 by decide) upd_same (.cons (.str _) (.cons (.str _) .nil)))
theorem n_badRules (N : Neat e) (h : ∀ H1, ExtN H H1 → EvP te σ H1 (EndV K C CE e)) (hd : ∀ H1, ExtN H H1 → EvP ty σ H1 (Qe d)) (hp : ∀ H1, ExtN H H1 → EvP tz σ H1 (Qe dp)) (few : Few dp) (sh : Short dp) (yes : inT deedsT d = true) (bad : okD dp = false) :
    EN T (tLam T (TBad K (errs a0 a1 a2 a3 a4 a5 a6 a7 a8 a9)) (TW K C CE a1 a4 te ty tz)) σ H (Qe (.list [.str "end", .str "rules"])) := fun H1 e1 hT Q q => by
  refine ⟨hT, fun H2 e2 T2 => ?_⟩
  refine with_bad (d := d) (dp := dp) (h H2 (e1.trans e2)) N (hd H2 (e1.trans e2)) (hp H2 (e1.trans e2)) few sh (.inr bad) (fun c => by rw [yes] at c; cases c) fun _ o H3 e3 no3 => ?_
  have x1 : Ex H3 (upd H3 o (.xd [("part", .str "rules")])) := Ex.new no3
  refine ⟨[⟨a0, "setting", "part", false⟩], ⟨a1, "end", "part", false⟩, _, o, .str "rules", .str "rules", rfl, rfl, rfl, upd_same, rfl, fun p np => ?_⟩
  have x2 := x1.trans (Ex.new (o := .lst [.str "end", .str "rules"]) np)
  exact q _ _ (e2.trans (ExtN.of (e3.trans x2))) (T2.ext (e3.trans x2)) (.lst (xs := [.str "end", .str "rules"]) (show 2 ≤ 100000 by decide) upd_same (.cons (.str _) (.cons (.str _) .nil)))
end
theorem self_eqv {d : PyData} (h : SeqAt.shaped d = true) : PyData.eqv d d = true := PySem.SeqAt.eqv_refl d (SeqAt.canLay_of_shaped h)
section
variable {T : TabT} {K : PySem.W.Frag} {σ : L2.St} {H : Hp} {ta tb : TE} {d : PyData}
theorem n_ne1 (h1 : EN T ta σ H (Qe d)) (h2 : EN T tb σ H (Qe d)) (sd : SeqAt.shaped d = true) : EN T (tOp (rNeD K) ta tb) σ H (Is (.bl false)) := fun H1 a hT Q q =>
  n_ne h1 h2 sd sd H1 a hT Q fun x H2 e2 t2 p => q x H2 e2 t2 (by rw [self_eqv sd] at p; exact p)
end
end Lw
set_option maxHeartbeats 1000000
/-! A dict that a call does not see: what the call makes is not that dict. -/
namespace L2
open PySem PySem.Spec PyProof.Rows
/-- the heap without what stands at R -/
def hid (H : Hp) (R : Addr) : Hp := fun b => if b = R then none else H b
theorem hid_ne {H : Hp} {R b : Addr} (h : b ≠ R) : hid H R b = H b := if_neg h
theorem hid_same {H : Hp} {R : Addr} : hid H R R = none := if_pos rfl
def tHide (i : Nat) (t : TE) : TE := fun σ H Q => ∃ R kvs, σ[i]? = some (some (.ref R)) ∧ H R = some (.dK kvs) ∧ t σ (hid H R) fun x H' => H' R = none → Q x (upd H' R (.dK kvs))
section
variable {X : Cx} {pins : List (Addr × Obj)} {σ : L2.St} {H H' : Hp} {s s' : Shared} {R : Addr} {kvs : List (Key × V)} {o : Obj}
theorem Inv.some_nofs (I : Inv X pins σ H s) {u : HO} (h : H R = some u) : R ∉ X.fs := fun hb => by
  obtain ⟨_, o, e, _⟩ := I.ok.funs.mem hb
  have := I.base.free R o e (I.ok.frf R hb) (fun z => I.ok.exfs R z hb)
  rw [h] at this
  cases this
theorem Inv.hideD (I : Inv X pins σ H s) (h : H R = some (.dK kvs)) : ∃ o, s.heap.get? R = some o ∧ Inv X ((R, o) :: pins) σ (hid H R) s := by
  obtain ⟨z1, z2, vs, z3, o, es, ep, e, c⟩ := I.hok R _ h
  have ne : ∀ {b : Addr} {u : HO}, H b = some u → (∀ ws, u ≠ .dK ws) → hid H R b = some u := fun {b u} hb n => by
    rw [hid_ne (fun z => by rw [z, h] at hb; cases hb; exact n _ rfl)]
    exact hb
  have no : ∀ {b : Addr}, H b = none → hid H R b = none := fun {b} hb => by
    unfold hid
    split
    · rfl
    · exact hb
  refine ⟨o, e, ⟨I.ok, I.os, I.bare, ⟨I.base.keep, I.base.slot, fun b o q n x => no (I.base.free b o q n x), I.base.there, fun b xs q => ne (I.base.tups b xs q) (fun _ z => nomatch z), fun b o u q => ne (I.base.frzs b o u q) (fun _ z => nomatch z), fun b ps q => ?_⟩, I.loc, I.cell, no I.free, fun x c hx => no (I.freeC x c hx), fun p hp => ?_, fun b u hb => ?_, I.len⟩⟩
  · obtain ⟨more, g⟩ := I.base.tbls b ps q
    exact ⟨more, ne g fun _ z => nomatch z⟩
  · have hp' : p = (R, o) ∨ p ∈ X.pn ++ pins := by
      rcases List.mem_append.mp hp with q | q
      · exact .inr (List.mem_append_left _ q)
      · rcases List.mem_cons.mp q with q | q
        · exact .inl q
        · exact .inr (List.mem_append_right _ q)
    rcases hp' with rfl | q
    · refine ⟨e, hid_same, fun z => ?_, I.some_nofs h, fun v z => ?_⟩
      · have := I.free
        rw [← show R = _ from z, h] at this
        cases this
      · have z : o.data = .cell v := z
        rw [c.2.1] at z
        cases z
    · obtain ⟨g1, g2, g3, g4, g5⟩ := I.pin p q
      exact ⟨g1, no g2, g3, g4, g5⟩
  · have nb : b ≠ R := fun z => by
      rw [z, hid_same] at hb
      cases hb
    rw [hid_ne nb] at hb
    refine (I.hok b u hb).stay (fun _ _ _ g => g) (fun d g => ?_) fun d xs g => ne g fun _ z => nomatch z
    exact ne g fun _ z => nomatch z
theorem Inv.unhideD (I : Inv X pins σ H s) (h : H R = some (.dK kvs)) (e : s.heap.get? R = some o) (J : Inv X ((R, o) :: pins) σ H' s') : H' R = none ∧ Inv X pins σ (upd H' R (.dK kvs)) s' := by
  obtain ⟨p1, p2, p3, p4, p5⟩ := J.pin (R, o) (List.mem_append_right _ List.mem_cons_self)
  have p2 : H' R = none := p2
  have st : ∀ {b : Addr} {u : HO}, H' b = some u → (upd H' R (.dK kvs)) b = some u := fun {b u} hb => by
    rw [upd_ne (ne_of_none hb p2)]
    exact hb
  have no : ∀ {b : Addr}, H b = none → H' b = none → (upd H' R (.dK kvs)) b = none := fun {b} h0 h1 => by
    rw [upd_ne (fun z => by rw [z, h] at h0; cases h0)]
    exact h1
  refine ⟨p2, ⟨J.ok, J.os, J.bare, ⟨J.base.keep, J.base.slot, fun b o2 q n x => no (I.base.free b o2 q n x) (J.base.free b o2 q n x), J.base.there, fun b xs q => st (J.base.tups b xs q), fun b o u q => st (J.base.frzs b o u q), fun b ps q => ?_⟩, J.loc, J.cell, no I.free J.free, fun x c hx => no (I.freeC x c hx) (J.freeC x c hx), fun p hp => ?_, fun b u hb => ?_, J.len⟩⟩
  · obtain ⟨more, g⟩ := J.base.tbls b ps q
    exact ⟨more, st g⟩
  · obtain ⟨g1, g2, g3, g4, g5⟩ := J.pin p (by
      rcases List.mem_append.mp hp with q | q
      · exact List.mem_append_left _ q
      · exact List.mem_append_right _ (List.mem_cons_of_mem _ q))
    exact ⟨g1, no (I.pin p hp).2.1 g2, g3, g4, g5⟩
  · by_cases z : b = R
    · subst z
      rw [upd_same] at hb
      cases hb
      obtain ⟨z1, z2, vs, z3, o2, es, ep, e2, c⟩ := I.hok b _ h
      rw [e] at e2
      cases e2
      exact ⟨z1, z2, vs, z3, o, es, ep, p1, c⟩
    · rw [upd_ne z] at hb
      exact (J.hok b u hb).stay (fun _ _ _ g => g) (fun d g => st g) fun d xs g => st g
theorem pe_hide {i : Nat} {e : Expr} {t : TE} (he : PE X e t) : PE X e (tHide i t) := by
  refine ⟨fun pins s σ H Q I ⟨R, kvs, hi, hR, h⟩ => ?_⟩
  obtain ⟨o, ho, I2⟩ := I.hideD hR
  refine wpAny_mono (he.run _ s σ _ _ I2 h) (fun u s' ⟨v, H', J, r, q⟩ => ?_) fun _ _ z => z
  obtain ⟨n, J2⟩ := I.unhideD hR ho J
  exact ⟨v, _, J2, r, q n⟩
end
end L2
set_option maxHeartbeats 1000000
/-! An instance beside a dict; a list that a call does not see. -/
namespace OwnNe
open PySem PySem.Spec PyProof.Rows L2 Evl Pd
def rOwnD (C : Addr) (sp : Sp) : R2 := fun x y H Q => ∃ (a dx : Addr) (fs : List (Str × V)) (b : Addr) (kvs : List (Key × V)), x = .ref a ∧ H a = some (.ins C dx fs) ∧ y = .ref b ∧ H b = some (.dK kvs) ∧ sp [.ref a, y] H (fun v H' => ∃ r, v = .bl r ∧ Q (.bl r) H') (fun _ _ _ => False)
section
variable {X : Cx} {C f : Addr} {fd : FuncData} {ps : List Str} {sp : Sp} {n : Nat}
theorem op_eqOwnD (F : FnOk X.prog X.w X.K X.mg X.base CX0 n f fd ps sp) (T : EqC X.K C f) (hb : L2.Binds X.K fd ps []) (hr : Room n X.A) (nl : PySem.W.notFirst X.K C (.type "dict") = true) : OpR X (compareOp .Eq) (rOwnD C sp) := by
  intro pins s σ H x y v u Q I rx ry h
  obtain ⟨a, dx, fs, b, kvs, rfl, ha, rfl, hy, q⟩ := h
  obtain rfl : v = Value.ref a := rx
  obtain rfl : u = Value.ref b := ry
  obtain ⟨z1, z2, vs, z3, o, es, ep, e, c⟩ := I.hok b _ hy
  have L : PySem.W.Looks (model X.prog X.w) s.heap (typeOf (.ref b)) (.type "dict") := fun A Q E s' kk q => by
    refine wpAny_typeOf_ref (kk _ _ e) ?_
    rw [show o.cls = Value.type "dict" from c.1.1]
    exact q
  obtain ⟨mA, J, _⟩ := ins_get I.hok ha
  obtain ⟨od, J, _⟩ := J.look
  obtain ⟨m, hF⟩ := I.fr
  have hu := hr.un
  refine PySem.W.cmp_K (op := .Eq) (tb := .type "dict") (by omega) hF I.ok.mod.kin J L nl T.eq T.fn ?_
  have r2 : Vals [V.ref a, .ref b] [Value.ref a, .ref b] := .cons rfl (.cons rfl .nil)
  refine wpAny_mono (run_fn F hr hb .nil pass0 I r2 (by rw [List.append_nil]; exact q)) (fun z s1 hz => ?_) fun _ _ e => e
  obtain ⟨v, H1, I1, rz, r, rfl, q1⟩ := hz
  cases rz
  exact ⟨.bl r, H1, I1, rfl, q1⟩
end
end OwnNe
namespace Chk
open PySem PySem.Spec PyProof.Rows L2 Evl Pd Gd Us Wlk
section
variable {X : Cx} {C CE CD CB : Addr} {j : Nat}
theorem op_eqEndD (S : EndC X.prog X.w X.K X.mg X.base C CE CD CB) (hr : Room j X.A) (hk : 3 ≤ j) (nd : PySem.W.notFirst X.K CE (.type "dict") = true) : OpR X (compareOp .Eq) (OwnNe.rOwnD CE (spEqE X.K C CE)) := by
  obtain ⟨f, fd, M, b, F⟩ := S.eq
  exact OwnNe.op_eqOwnD F M b (hr.mono hk) nd
end
/-- an end beside a dict -/
theorem ev_ownD {K : PySem.W.Frag} {C CE b : Addr} {σ : L2.St} {H : Hp} {ta tb : TE} {e : Eg} {kvs : List (Key × V)} (h1 : EvP ta σ H (EndV K C CE e)) (h2 : Ev tb σ H (.ref b)) (hb : H b = some (.dK kvs)) (N : Neat e) (B : NotB K CE) : Ev (tOp (OwnNe.rOwnD CE (spEqE K C CE)) ta tb) σ H (.bl false) := fun H1 x Q q =>
  h1 H1 x _ fun y H2 e2 p1 => h2 H2 (x.trans e2) _ fun H3 e3 => by
    obtain ⟨a, rfl, at1⟩ := mo_end _ _ _ e3 p1
    obtain ⟨dx, fs, d1, d2, d3, v1, v2, v3, h0, _⟩ := id at1.ex
    have hb3 := (x.trans (e2.trans e3)) _ _ hb
    exact ⟨a, dx, fs, b, kvs, rfl, h0, rfl, hb3, rfl, a, e, .ref b, rfl, at1, N, .inr ⟨.type "dict", fun H4 e4 => .base (.dK (e4 _ _ hb3)), B.dict, fun H4 e4 => ⟨_, rfl, q H4 (e2.trans (e3.trans e4))⟩⟩⟩
end Chk
namespace L2
open PySem PySem.Spec PyProof.Rows
def tHideL (i : Nat) (t : TE) : TE := fun σ H Q => ∃ R xs, σ[i]? = some (some (.ref R)) ∧ H R = some (.lst xs) ∧ t σ (hid H R) fun x H' => H' R = none → Q x (upd H' R (.lst xs))
section
variable {X : Cx} {pins : List (Addr × Obj)} {σ : L2.St} {H H' : Hp} {s s' : Shared} {R : Addr} {xs : List V} {o : Obj}
theorem Inv.hideL (I : Inv X pins σ H s) (h : H R = some (.lst xs)) : ∃ o, s.heap.get? R = some o ∧ Inv X ((R, o) :: pins) σ (hid H R) s := by
  obtain ⟨hz, its, n, r, e⟩ := (show ObjOk X.prog X.w H s.heap R (.lst xs) from I.hok R _ h)
  have ne : ∀ {b : Addr} {u : HO}, H b = some u → (∀ ws, u ≠ .lst ws) → hid H R b = some u := fun {b u} hb n => by
    rw [hid_ne (fun z => by rw [z, h] at hb; cases hb; exact n _ rfl)]
    exact hb
  have no : ∀ {b : Addr}, H b = none → hid H R b = none := fun {b} hb => by
    unfold hid
    split
    · rfl
    · exact hb
  refine ⟨_, e, ⟨I.ok, I.os, I.bare, ⟨I.base.keep, I.base.slot, fun b o q n x => no (I.base.free b o q n x), I.base.there, fun b xs q => ne (I.base.tups b xs q) (fun _ z => nomatch z), fun b o u q => ne (I.base.frzs b o u q) (fun _ z => nomatch z), fun b ps q => ?_⟩, I.loc, I.cell, no I.free, fun x c hx => no (I.freeC x c hx), fun p hp => ?_, fun b u hb => ?_, I.len⟩⟩
  · obtain ⟨more, g⟩ := I.base.tbls b ps q
    exact ⟨more, ne g fun _ z => nomatch z⟩
  · have hp' : p = (R, { cls := Value.type "list", data := Data.seq its.toArray n }) ∨ p ∈ X.pn ++ pins := by
      rcases List.mem_append.mp hp with q | q
      · exact .inr (List.mem_append_left _ q)
      · rcases List.mem_cons.mp q with q | q
        · exact .inl q
        · exact .inr (List.mem_append_right _ q)
    rcases hp' with rfl | q
    · refine ⟨e, hid_same, fun z => ?_, I.some_nofs h, fun v z => ?_⟩
      · have := I.free
        rw [← show R = _ from z, h] at this
        cases this
      · cases z
    · obtain ⟨g1, g2, g3, g4, g5⟩ := I.pin p q
      exact ⟨g1, no g2, g3, g4, g5⟩
  · have nb : b ≠ R := fun z => by
      rw [z, hid_same] at hb
      cases hb
    rw [hid_ne nb] at hb
    refine (I.hok b u hb).stay (fun _ _ _ g => g) (fun d g => ?_) fun d xs g => ne g fun _ z => nomatch z
    exact ne g fun _ z => nomatch z
theorem Inv.unhideL (I : Inv X pins σ H s) (h : H R = some (.lst xs)) (e : s.heap.get? R = some o) (J : Inv X ((R, o) :: pins) σ H' s') : H' R = none ∧ Inv X pins σ (upd H' R (.lst xs)) s' := by
  obtain ⟨p1, p2, p3, p4, p5⟩ := J.pin (R, o) (List.mem_append_right _ List.mem_cons_self)
  have p2 : H' R = none := p2
  have st : ∀ {b : Addr} {u : HO}, H' b = some u → (upd H' R (.lst xs)) b = some u := fun {b u} hb => by
    rw [upd_ne (ne_of_none hb p2)]
    exact hb
  have no : ∀ {b : Addr}, H b = none → H' b = none → (upd H' R (.lst xs)) b = none := fun {b} h0 h1 => by
    rw [upd_ne (fun z => by rw [z, h] at h0; cases h0)]
    exact h1
  refine ⟨p2, ⟨J.ok, J.os, J.bare, ⟨J.base.keep, J.base.slot, fun b o2 q n x => no (I.base.free b o2 q n x) (J.base.free b o2 q n x), J.base.there, fun b xs q => st (J.base.tups b xs q), fun b o u q => st (J.base.frzs b o u q), fun b ps q => ?_⟩, J.loc, J.cell, no I.free J.free, fun x c hx => no (I.freeC x c hx) (J.freeC x c hx), fun p hp => ?_, fun b u hb => ?_, J.len⟩⟩
  · obtain ⟨more, g⟩ := J.base.tbls b ps q
    exact ⟨more, st g⟩
  · obtain ⟨g1, g2, g3, g4, g5⟩ := J.pin p (by
      rcases List.mem_append.mp hp with q | q
      · exact List.mem_append_left _ q
      · exact List.mem_append_right _ (List.mem_cons_of_mem _ q))
    exact ⟨g1, no (I.pin p hp).2.1 g2, g3, g4, g5⟩
  · by_cases z : b = R
    · subst z
      rw [upd_same] at hb
      cases hb
      obtain ⟨hz, its, n, r, e2⟩ := (show ObjOk X.prog X.w H s.heap b (.lst xs) from I.hok b _ h)
      rw [e] at e2
      have e2 := Option.some.inj e2
      exact ⟨hz, its, n, r, by rw [← e2]; exact p1⟩
    · rw [upd_ne z] at hb
      exact (J.hok b u hb).stay (fun _ _ _ g => g) (fun d g => st g) fun d xs g => st g
theorem pe_hideL {i : Nat} {e : Expr} {t : TE} (he : PE X e t) : PE X e (tHideL i t) := by
  refine ⟨fun pins s σ H Q I ⟨R, xs, hi, hR, h⟩ => ?_⟩
  obtain ⟨o, ho, I2⟩ := I.hideL hR
  refine wpAny_mono (he.run _ s σ _ _ I2 h) (fun u s' ⟨v, H', J, r, q⟩ => ?_) fun _ _ z => z
  obtain ⟨n, J2⟩ := I.unhideL hR ho J
  exact ⟨v, _, J2, r, q n⟩
end
end L2
set_option maxHeartbeats 4000000
/-! {k: v for target in iter for target in iter}: two clauses, no tests; keys numbers and texts. -/
namespace Dc2
open PySem PySem.Spec PyProof.Rows L2 Evl Pd
/-- the expression -/
abbrev two (kx vx ta ia tb ib : Expr) (scope : Scope) (pos : Pos) : Expr := .DictComp kx vx [⟨ta, ia, [], 0⟩, ⟨tb, ib, [], 0⟩] scope pos
section
variable {prog : Program} {w : World} {A : Around} {R : Result → Shared → Prop} {s : Shared} {kx vx ta ia tb ib : Expr} {scope : Scope} {pos : Pos} {it acc : Value} {D : Addr} {env : Env}
theorem turnA (it acc : Value) (env : Env) : compTurn (two kx vx ta ia tb ib scope pos) 0 it acc env = (standAt ia.pos >>= fun _ => pyNext it >>= fun r => match r with
    | none => pure (.done .next)
    | some v => letOwnedTupleGo ta it v >>= fun _ => assign ta env v >>= fun _ => eval ib env >>= fun x => standAt ib.pos >>= fun _ => foldedSetIterable ib env x >>= fun x => holding [x] (pyIter x) >>= fun itb =>
        runOwn (.compStart (two kx vx ta ia tb ib scope pos) 1 itb acc env) env >>= fun _ => again (.compLoop (two kx vx ta ia tb ib scope pos) 0 it acc env)) := by rfl
/-- how an error is told -/
abbrev Fl (prog : Program) (w : World) (A : Around) (env : Env) (R : Result → Shared → Prop) : Value → Shared → Prop := notedBy (model prog w) A env fun e s' => R (.error e) s'
theorem loopA (hs : ∀ x, foldedSetIterable ib env x = pure x) (I : Nat → Shared → Prop)
    (turn : ∀ n s, I n s → wpAny (model prog w) A (pyNext it) (fun r s1 => match r with
      | none => R (.ok .next) s1
      | some v => wpAny (model prog w) A (letOwnedTupleGo ta it v) (fun _ s2 => wpAny (model prog w) A (assign ta env v) (fun _ s3 => wpAny (model prog w) A (eval ib env) (fun x s4 => wpAny (model prog w) A (pyIter x) (fun itb s5 =>
          codeAny (model prog w) A (.compStart (two kx vx ta ia tb ib scope pos) 1 itb acc env) (fun r s' => match r with
            | .ok _ => ∃ m, m < n ∧ I m s'
            | .error _ => False) s5) (Fl prog w A env R) s4) (Fl prog w A env R) s3) (Fl prog w A env R) s2) (Fl prog w A env R) s1) (Fl prog w A env R) s)
    (n : Nat) (h : I n s) : codeAny (model prog w) A (.compLoop (two kx vx ta ia tb ib scope pos) 0 it acc env) R s := by
  refine codeAny_loop rfl I (fun n s hI => ?_) n h
  show wpAny _ A ((compTurn (two kx vx ta ia tb ib scope pos) 0 it acc env).onRaise (fun x => do noteFrame x env; theTreesLotGoes x)) _ _ s
  refine wpAny_noted ?_
  rw [turnA]
  refine wpAny_bind (wpAny_standAt (wpAny_bind (wpAny_mono (turn n s hI) (fun r s1 h1 => ?_) fun _ _ z => z)))
  cases r with
  | none => exact wpAny_pure h1
  | some v =>
    refine wpAny_bind (wpAny_mono h1 (fun _ s2 h2 => wpAny_bind (wpAny_mono h2 (fun _ s3 h3 => wpAny_bind (wpAny_mono h3 (fun x s4 h4 => ?_) fun _ _ z => z)) fun _ _ z => z)) fun _ _ z => z)
    refine wpAny_bind (wpAny_standAt (wpAny_bind (wpAny_of_eq (hs x) (wpAny_bind (wpAny_holding (wpAny_mono h4 (fun itb s5 h5 => ?_) fun _ _ z => z))))))
    refine wpAny_bind (wpAny_runOwn ?_)
    rw [Around.mark_none]
    refine codeAny_mono h5 fun r s' hr => ?_
    cases r with
    | ok f => exact wpAny_pure ⟨rfl, hr⟩
    | error e => exact hr.elim
theorem turnB (it : Value) (D : Addr) (env : Env) : compTurn (two kx vx ta ia tb ib scope pos) 1 it (.ref D) env = (standAt ib.pos >>= fun _ => pyNext it >>= fun r => match r with
    | none => pure (.done .next)
    | some v => letOwnedTupleGo tb it v >>= fun _ => assign tb env v >>= fun _ => (do
          let kv ← eval kx env
          let vv ← holding [kv] (eval vx env)
          standAt ⟨kx.pos.line, kx.pos.col, vx.pos.endLine, vx.pos.endCol⟩
          holding [kv, vv] (dictSet D kv vv)) >>= fun _ =>
        again (.compLoop (two kx vx ta ia tb ib scope pos) 1 it (.ref D) env)) := by rfl
theorem loopB (I : Nat → Shared → Prop)
    (turn : ∀ n s, I n s → wpAny (model prog w) A (pyNext it) (fun r s1 => match r with
      | none => R (.ok .next) s1
      | some v => wpAny (model prog w) A (letOwnedTupleGo tb it v) (fun _ s2 => wpAny (model prog w) A (assign tb env v) (fun _ s3 => wpAny (model prog w) A (eval kx env) (fun kv s4 => wpAny (model prog w) A (eval vx env) (fun vv s5 =>
          wpAny (model prog w) A (dictSet D kv vv) (fun _ s6 => ∃ m, m < n ∧ I m s6) (Fl prog w A env R) s5) (Fl prog w A env R) s4) (Fl prog w A env R) s3) (Fl prog w A env R) s2) (Fl prog w A env R) s1) (Fl prog w A env R) s)
    (n : Nat) (h : I n s) : codeAny (model prog w) A (.compLoop (two kx vx ta ia tb ib scope pos) 1 it (.ref D) env) R s := by
  refine codeAny_loop rfl I (fun n s hI => ?_) n h
  show wpAny _ A ((compTurn (two kx vx ta ia tb ib scope pos) 1 it (.ref D) env).onRaise (fun x => do noteFrame x env; theTreesLotGoes x)) _ _ s
  refine wpAny_noted ?_
  rw [turnB]
  refine wpAny_bind (wpAny_standAt (wpAny_bind (wpAny_mono (turn n s hI) (fun r s1 h1 => ?_) fun _ _ z => z)))
  cases r with
  | none => exact wpAny_pure h1
  | some v =>
    refine wpAny_bind (wpAny_mono h1 (fun _ s2 h2 => wpAny_bind (wpAny_mono h2 (fun _ s3 h3 => ?_) fun _ _ z => z)) fun _ _ z => z)
    exact wpAny_bind (wpAny_bind (wpAny_mono h3 (fun kv s4 h4 => wpAny_bind (wpAny_holding (wpAny_mono h4 (fun vv s5 h5 => wpAny_bind (wpAny_standAt (wpAny_holding (wpAny_mono h5 (fun _ s6 h6 => wpAny_pure ⟨rfl, h6⟩) fun _ _ z => z)))) fun _ _ z => z))) fun _ _ z => z))
/-- the second clause's start -/
theorem startB (h0 : codeAny (model prog w) A (.compLoop (two kx vx ta ia tb ib scope pos) 1 it acc env) R s)
    (h : wpAny (model prog w) A (pyIter it) (fun it2 s' => codeAny (model prog w) A (.compLoop (two kx vx ta ia tb ib scope pos) 1 it2 acc env) R s') (Fl prog w A env R) s) :
    codeAny (model prog w) A (.compStart (two kx vx ta ia tb ib scope pos) 1 it acc env) R s := by
  refine codeAny_of_tree ?_
  show wpAny _ _ ((compStart (two kx vx ta ia tb ib scope pos) 1 it acc env).onRaise (fun x => do noteFrame x env; standAt theWindowsPlace)) _ _ s
  refine wpAny_notedAt ?_
  unfold compStart
  show wpAny _ _ (ask >>= _) _ _ s
  refine wpAny_bind (wpAny_askSetting (wpAny_ite ?_))
  split
  · first
      | exact wpAny_bind (wpAny_pure (wpAny_pure (And.intro rfl h0)))
      | exact wpAny_pure (And.intro rfl h0)
  · first
      | exact wpAny_bind (wpAny_rule (wpAny_bind (wpAny_standAt (wpAny_bind (wpAny_mono h (fun _ s' z => wpAny_pure (And.intro rfl z)) fun _ _ x => x)))))
      | (refine wpAny_bind (wpAny_rule ?_); show wpAny _ _ (standAt ib.pos >>= _) _ _ s; exact wpAny_bind (wpAny_standAt (wpAny_bind (wpAny_mono h (fun _ s' z => wpAny_pure (And.intro rfl z)) fun _ _ x => x))))
end
end Dc2
set_option maxHeartbeats 4000000
namespace Dc2
open PySem PySem.Spec PyProof.Rows L2 Evl Pd
/-- the reading: D the new dict; the second clause's walk leads to Nx -/
def tDc2 (wi : TI) (g : TG) (wj : TI) (gj : TG) (tk tv : TE) (vs ws : List Nat) : TE := fun σ H Q => wi σ H fun J H1 => ∀ D, H1 D = none → ∃ W : Nat → Nat → Hp → Prop, (∃ m, W 0 m (upd H1 D (.dK []))) ∧ ∀ i m H2, W i m H2 →
  (J.stop i H2 ∧ Q (.ref D) H2) ∨ (J.go i H2 ∧ ∃ Nx : Hp → Prop, (∀ H3, Nx H3 → ∃ m', m' < m ∧ W (i + 1) m' H3) ∧ ∀ x H3, J.yld i H2 x H3 → g x (wipe σ vs) H3 fun σ2 H4 => wipe σ2 vs = wipe σ vs ∧
    wj σ2 H4 fun J1 H5 => ∃ Wj : Nat → Nat → Hp → Prop, (∃ m, Wj 0 m H5) ∧ ∀ j k H6, Wj j k H6 →
      (J1.stop j H6 ∧ Nx H6) ∨ (J1.go j H6 ∧ ∃ Ny : Hp → Prop, (∀ H7, Ny H7 → ∃ k', k' < k ∧ Wj (j + 1) k' H7) ∧ ∀ y H7, J1.yld j H6 y H7 → gj y (wipe σ2 ws) H7 fun σ3 H8 => wipe σ3 ws = wipe σ2 ws ∧
        tk σ3 H8 fun u H9 => tv σ3 H9 fun z HA => ∃ kvs q, u = kV q ∧ HA D = some (.dK kvs) ∧ kvs.length < sizeLine ∧ Ny (upd HA D (.dK (putK kvs q z)))))
section
variable {X : Cx}
theorem pe_dc2 {kx vx ta ia tb ib : Expr} {scope : Scope} {own : List (Str × Nat)} {ws : List Nat} {pos : Pos} {wi wj : TI} {g gj : TG} {tk tv : TE}
    (hc : X.calm = true) (hN : X.N.Nodup) (hi : PI X ta ia wi) (ok : BlkOk X.N X.env.scope scope own) (hv : ∀ i ∈ ws, i ∈ own.map (·.2))
    (hg : ∀ (s : Shared) (H : Hp) (C : Addr) (cl : List (Str × Addr)) (fp : List Addr), PG (X.blk s H scope (compEnvC scope cl C X.env) fp) ta g)
    (hj : ∀ (s : Shared) (H : Hp) (C : Addr) (cl : List (Str × Addr)) (fp : List Addr), PI (X.blk s H scope (compEnvC scope cl C X.env) fp) tb ib wj)
    (hgj : ∀ (s : Shared) (H : Hp) (C : Addr) (cl : List (Str × Addr)) (fp : List Addr), PG (X.blk s H scope (compEnvC scope cl C X.env) fp) tb gj)
    (hk : ∀ (s : Shared) (H : Hp) (C : Addr) (cl : List (Str × Addr)) (fp : List Addr), PE (X.blk s H scope (compEnvC scope cl C X.env) fp) kx tk)
    (he : ∀ (s : Shared) (H : Hp) (C : Addr) (cl : List (Str × Addr)) (fp : List Addr), PE (X.blk s H scope (compEnvC scope cl C X.env) fp) vx tv)
    (hs : ∀ x, foldedSetIterable ia X.env x = pure x := by intro _; rfl) (hsj : ∀ env x, foldedSetIterable ib env x = pure x := by intro _ _; rfl) :
    PE X (two kx vx ta ia tb ib scope pos) (tDc2 wi g wj gj tk tv (own.map (·.2)) ws) := by
  refine ⟨fun pins s σ H Q I h => ?_⟩
  rw [arm_eval_DictComp]
  have clo : ∀ y ∈ scope.names, y.2 = .free → ∃ c, X.env.cells.lookup y.1 = some c := fun y hy e => (ok.free y hy e).elim (fun k => I.ok.has _ (.inl k)) fun k => I.ok.has _ (.inr k)
  refine wpAny_comprehension_free rfl hs (closure_ok clo) ok.kind (fun y hy e => by rw [ok.uniq y hy, e]) (thn (hi.run pins s σ H _ I h) fun _ s1 hx => thn hx fun _ s2 ⟨it, fp, tn, J, Ha, e, I2, T, st2, f2, q⟩ => ?_)
  subst e
  refine wpAny_newObj_type (newEnv_comp ?_)
  obtain ⟨D, hD⟩ : ∃ D, D = s2.heap.objs.size := ⟨_, rfl⟩
  obtain ⟨s3, hs3⟩ : ∃ s3 : Shared, s3 = { s2 with heap := s2.heap.push { cls := .type "dict", data := .dict #[] } } := ⟨_, rfl⟩
  rw [← hs3, ← hD]
  have nD : Ha D = none := I2.hok.fresh (Nat.le_of_eq hD.symm)
  obtain ⟨W, ⟨m0, w0⟩, turn⟩ := q D nD
  have hp3 : s3.heap = s2.heap.push { cls := .type "dict", data := .dict #[] } := by rw [hs3]
  have kept3 : ∀ b o, s2.heap.get? b = some o → s3.heap.get? b = some o := fun b o z => by rw [hp3]; exact Heap.get?_push_of_some _ z
  have I3 : Inv X pins σ (upd Ha D (.dK [])) s3 := by
    have z := I2.laid (a := D) (o := .dK []) (t' := s2.toks) (h' := s2.heap.push { cls := .type "dict", data := .dict #[] }) (fun b o z => Heap.get?_push_of_some _ z) (Nat.le_of_eq hD.symm) (by rw [hD]; exact dk_empty s2.heap I2.big)
    rw [hs3]
    exact z
  have low : ∀ b ∈ fp, b < s2.heap.objs.size := fun b hb => let ⟨_, z, _⟩ := T.obj _ _ st2 b hb; Heap.lt_size z
  have f3 : ∀ b ∈ fp, FpOk X pins (upd Ha D (.dK [])) b ∧ b < s3.heap.objs.size := fun b hb => by
    have l := low b hb
    have ne : b ≠ D := by rw [hD]; exact Nat.ne_of_lt l
    exact ⟨⟨by rw [upd_ne ne]; exact (f2 b hb).1, (f2 b hb).2⟩, by rw [hp3, Heap.size_push]; exact Nat.lt_succ_of_lt l⟩
  have st3 : tn 0 s3.heap := T.keep _ _ _ st2 fun b _ o z => kept3 b o z
  have I4 := block_start I3 ok hN f3
  show codeAny _ _ (.compStart (two kx vx ta ia tb ib scope pos) 0 (.ref it) (.ref D) (compEnvC scope (cellsFrom (s3.heap.objs.size + 1) scope.names (cloFrom X.env.cells scope.names [])) s3.heap.objs.size X.env)) _ _
  generalize hcl : cellsFrom (s3.heap.objs.size + 1) scope.names (cloFrom X.env.cells scope.names []) = cl at I4 ⊢
  have pg := hg s3 (upd Ha D (.dK [])) s3.heap.objs.size cl fp
  have pj := hj s3 (upd Ha D (.dK [])) s3.heap.objs.size cl fp
  have pgj := hgj s3 (upd Ha D (.dK [])) s3.heap.objs.size cl fp
  have pk := hk s3 (upd Ha D (.dK [])) s3.heap.objs.size cl fp
  have pe := he s3 (upd Ha D (.dK [])) s3.heap.objs.size cl fp
  have nfp : ∀ b ∈ fp, (upd Ha D (.dK [])) b = none := fun b hb => (f3 b hb).1.1
  have cL : (compEnvC scope cl s3.heap.objs.size X.env).locals = s3.heap.objs.size := rfl
  generalize compEnvC scope cl s3.heap.objs.size X.env = ce at I4 pg pj pgj pk pe cL ⊢
  generalize hHb : upd Ha D (.dK []) = Hb at I3 I4 pg pj pgj pk pe w0 nfp f3
  generalize hs4 : ({ s3 with heap := pushCells (s3.heap.push { cls := .type "dict", data := .dict #[] }) scope.names } : Shared) = s4 at I4 ⊢
  have st4 : tn 0 s4.heap := T.keep _ _ _ st3 fun b _ o z => by rw [← hs4]; exact pushCells_keeps _ _ _ _ (Heap.get?_push_of_some _ z)
  have stat : ∀ {σ' : L2.St} {H' : Hp} {s' : Shared}, Inv (X.blk s3 Hb scope ce fp) [] σ' H' s' → (∀ b ∈ fp, H' b = none) → ∀ b ∈ fp, FpOk (X.blk s3 Hb scope ce fp) [] H' b := fun {σ' H' s'} J' hn b hb =>
    ⟨hn b hb, (J'.ok.exf b hb).1, J'.ok.exfs b hb, .inl hb, fun x c z => (J'.ok.exf b hb).2 x c z, fun p hp => absurd (show p ∈ ([] : List (Addr × Obj)) ++ [] from hp) (by simp)⟩
  refine codeAny_compStart_dict ?loop (T.self X.A 0 _ _ _ st4 ?loop)
  refine loopA (hsj ce) (fun n s' => ∃ i H', Inv (X.blk s3 Hb scope ce fp) [] (wipe σ (own.map (·.2))) H' s' ∧ tn i s'.heap ∧ (∀ b ∈ fp, H' b = none) ∧ W i n H') (fun n s5 ⟨i, H5, I5, st5, n5, w5⟩ => ?_) m0 ⟨0, Hb, I4, st4, nfp, w0⟩
  rcases turn i n H5 w5 with ⟨stop, qq⟩ | ⟨go, Nx, hNx, step⟩
  · refine thnF (T.done (X.blk s3 Hb scope ce fp) rfl rfl rfl hc i [] s5 _ H5 (fun _ _ => False) I5 (stat I5 n5) st5 stop) fun r s6 ⟨hr, I6⟩ => ?_
    subst hr
    have I7 : Inv X pins σ H5 s6 := I3.call' (ch := fp) I6.os I6.base I6.hok I6.bare fun b hb => ⟨(f3 b hb).1.2.2.2.1, (f3 b hb).1.2.1, (f3 b hb).1.2.2.2.2.1, (f3 b hb).1.2.2.2.2.2⟩
    have nC : H5 s3.heap.objs.size = none := by
      have z : H5 ce.locals = none := I6.free
      rw [cL] at z
      exact z
    obtain ⟨m, hn, _⟩ := I6.loc
    have hn' : s6.heap.Ns s3.heap.objs.size m := by
      have z : s6.heap.Ns ce.locals m := hn
      rw [cL] at z
      exact z
    obtain ⟨g0, g1, g2, g3, g4, g5⟩ := I3.fpOk (b := s3.heap.objs.size) (H' := H5) (Nat.le_refl _) nC
    exact ⟨m, hn', fun h9 sb => ⟨.ref D, H5, I7.turned (t' := s6.toks) (fun b o hb z => (sb.2 b hb).trans z) g0 g1 g3 g4 g5, rfl, qq⟩⟩
  · refine thnF (T.item (X.blk s3 Hb scope ce fp) rfl rfl rfl hc i [] s5 _ H5 (fun _ _ => False) I5 (stat I5 n5) st5 go) fun r s6 ⟨u, hr, h6⟩ => ?_
    subst hr
    refine thnF h6 fun _ s7 ⟨x, H7, I7, r7, y7, st7, n7⟩ => ?_
    have I7' := I7.pinned (stat I7 n7) (T.obj _ _ st7)
    refine thnF (pg.run _ s7 _ H7 x u _ I7' r7 (step x H7 y7)) fun _ s8 ⟨σ8, H8, I8, hw8, q8⟩ => ?_
    -- the end of a turn, from slots that know what the block knew at its start
    have fin : ∀ {σ9 : L2.St} {s' : Shared} {H' : Hp}, Inv (X.blk s3 Hb scope ce fp) ([] ++ pinsAt fp s7.heap) σ9 H' s' → (wipe σ (own.map (·.2))).length = σ9.length → (∀ (j : Nat) v, (wipe σ (own.map (·.2)))[j]? = some (some v) → σ9[j]? = some (some v)) → Nx H' →
        ∃ m, m < n ∧ ∃ i H', Inv (X.blk s3 Hb scope ce fp) [] (wipe σ (own.map (·.2))) H' s' ∧ tn i s'.heap ∧ (∀ b ∈ fp, H' b = none) ∧ W i m H' := fun {σ9 s' H'} J' hl hq nx => by
      obtain ⟨m', hm, w'⟩ := hNx H' nx
      have still : ∀ b ∈ fp, ∀ o, s7.heap.get? b = some o → s'.heap.get? b = some o ∧ H' b = none := fun b hb o z =>
        let y := J'.pin (b, o) (List.mem_append_right _ (List.mem_append_right _ (mem_pinsAt hb z)))
        ⟨y.1, y.2.1⟩
      refine ⟨m', hm, i + 1, H', (J'.unpinned (pins := [])).weak hl hq, T.keep _ _ _ st7 fun b hb o z => (still b hb o z).1, fun b hb => ?_, w'⟩
      obtain ⟨o, z, _⟩ := T.obj _ _ st7 b hb
      exact (still b hb o z).2
    have l8 : (wipe σ (own.map (·.2))).length = σ8.length := by rw [← hw8, wipe_length]
    have k9 : ∀ (j : Nat) v, (wipe σ (own.map (·.2)))[j]? = some (some v) → (wipe σ8 ws)[j]? = some (some v) := fun j v z => by
      rw [← hw8] at z
      obtain ⟨z1, z2⟩ := wipe_some z
      rw [wipe_out fun y => z2 (hv j y)]
      exact z1
    refine thnF (pj.run _ s8 σ8 H8 _ I8 q8) fun _ s9 hy => thnF hy fun _ sA ⟨itb, fpb, tnb, Jb, HA, eb, IA, Tb, stA, fA, Wj, ⟨m1, w1⟩, turnj⟩ => ?_
    subst eb
    have statb : ∀ {H' : Hp}, (∀ b ∈ fpb, H' b = none) → ∀ b ∈ fpb, FpOk (X.blk s3 Hb scope ce fp) ([] ++ pinsAt fp s7.heap) H' b := fun hn b hb => ⟨hn b hb, (fA b hb).2⟩
    have inner : codeAny (model X.prog X.w) X.A (.compLoop (two kx vx ta ia tb ib scope pos) 1 (.ref itb) (.ref D) ce)
        (fun r s' => match r with
          | .ok _ => ∃ m, m < n ∧ ∃ i H', Inv (X.blk s3 Hb scope ce fp) [] (wipe σ (own.map (·.2))) H' s' ∧ tn i s'.heap ∧ (∀ b ∈ fp, H' b = none) ∧ W i m H'
          | .error _ => False) sA := by
      refine loopB (fun k s' => ∃ j H', Inv (X.blk s3 Hb scope ce fp) ([] ++ pinsAt fp s7.heap) (wipe σ8 ws) H' s' ∧ tnb j s'.heap ∧ (∀ b ∈ fpb, H' b = none) ∧ Wj j k H') (fun k sB ⟨j, HB, IB, stB, nB, wB⟩ => ?_) m1 ⟨0, HA, IA.weak (wipe_length _ _) (fun j v z => (wipe_some z).1), stA, fun b hb => (fA b hb).1, w1⟩
      rcases turnj j k HB wB with ⟨stopb, nx⟩ | ⟨gob, Ny, hNy, stepb⟩
      · refine thnF (Tb.done (X.blk s3 Hb scope ce fp) rfl rfl rfl hc j _ sB (wipe σ8 ws) HB (fun _ _ => False) IB (statb nB) stB stopb) fun r sC ⟨hr, IC⟩ => ?_
        subst hr
        exact fin IC (l8.trans (wipe_length σ8 ws).symm) k9 nx
      · refine thnF (Tb.item (X.blk s3 Hb scope ce fp) rfl rfl rfl hc j _ sB (wipe σ8 ws) HB (fun _ _ => False) IB (statb nB) stB gob) fun r sC ⟨u1, hr, hC⟩ => ?_
        subst hr
        refine thnF hC fun _ sE ⟨y, HE, IE, rE, yE, stE, nE⟩ => ?_
        have IE' := IE.pinned (statb nE) (Tb.obj _ _ stE)
        refine thnF (pgj.run _ sE (wipe σ8 ws) HE y u1 _ IE' rE (stepb y HE yE)) fun _ sF ⟨σF, HF, IF, hwF, qF⟩ => ?_
        have finb : ∀ {s' : Shared} {H' : Hp}, Inv (X.blk s3 Hb scope ce fp) (([] ++ pinsAt fp s7.heap) ++ pinsAt fpb sE.heap) σF H' s' → Ny H' → ∃ m, m < k ∧ ∃ j H', Inv (X.blk s3 Hb scope ce fp) ([] ++ pinsAt fp s7.heap) (wipe σ8 ws) H' s' ∧ tnb j s'.heap ∧ (∀ b ∈ fpb, H' b = none) ∧ Wj j m H' := fun {s' H'} J' ny => by
          obtain ⟨m', hm, w'⟩ := hNy H' ny
          have still : ∀ b ∈ fpb, ∀ o, sE.heap.get? b = some o → s'.heap.get? b = some o ∧ H' b = none := fun b hb o z =>
            let y := J'.pin (b, o) (List.mem_append_right _ (List.mem_append_right _ (mem_pinsAt hb z)))
            ⟨y.1, y.2.1⟩
          refine ⟨m', hm, j + 1, H', J'.unpinned.weak (by rw [← hwF, wipe_length]) (fun j v z => by rw [← hwF] at z; exact (wipe_some z).1), Tb.keep _ _ _ stE fun b hb o z => (still b hb o z).1, fun b hb => ?_, w'⟩
          obtain ⟨o, z, _⟩ := Tb.obj _ _ stE b hb
          exact (still b hb o z).2
        refine thnF (pk.run _ sF σF HF _ IF qF) fun _ sG ⟨yk, HG, IG, rG, qG⟩ => thnF (pe.run _ sG σF HG _ IG qG) fun _ sH ⟨yv, HH, IH, rH, kvs, kq, ek, hDH, hz, ny⟩ => ?_
        subst ek
        exact d_dictSet (X := X.blk s3 Hb scope ce fp) IH hDH hz rG rH fun sI II => finb II ny
    exact startB inner (Tb.self X.A 0 _ _ _ stA inner)
end
end Dc2
set_option maxHeartbeats 2000000
/-! Pacts: what may stand in their places; wrong_part, check_name. -/
namespace Chk
open PySem PySem.Spec PyProof.Rows L2 Evl Pd Gd Us Wlk
abbrev sWrongP : Stmt := Tp.s_wrong_part_pacts
abbrev sCheckName : Stmt := Tp.s_check_name
def namesT : List Str := ["left", "right"]
/-- what stands in a pact's place: an end, or none -/
inductive Any where
  | e (g : Eg)
  | no
/-- a value that is no end -/
def NoE (K : PySem.W.Frag) (CE : Addr) : PV := fun x H => ∃ t, (∀ H1, Ex H H1 → TyX K H1 x t) ∧ PySem.W.kitOne K t (.ref CE) = some false
/-- its words can be laid -/
structure Laid (e : Eg) : Prop where
  own : SeqAt.shaped (.list (e.own.map fun p => keyD p.1)) = true
  uses : SeqAt.shaped (.list (e.uses.map fun p => keyD p.1)) = true
def AnyV (K : PySem.W.Frag) (C CE : Addr) : Any → PV
  | .e g => fun x H => EndV K C CE g x H ∧ Neat g ∧ Laid g
  | .no => NoE K CE
def isE : Any → Bool
  | .e _ => true
  | .no => false
theorem mo_noE {K : PySem.W.Frag} {CE : Addr} : Mo (NoE K CE) := fun _ _ _ e ⟨t, h1, h2⟩ => ⟨t, fun H1 e1 => h1 H1 (e.trans e1), h2⟩
theorem mo_any {K : PySem.W.Frag} {C CE : Addr} {A : Any} : Mo (AnyV K C CE A) := by
  cases A with
  | e g => exact fun _ _ _ e h => ⟨mo_end _ _ _ e h.1, h.2⟩
  | no => exact mo_noE
def wordsD (e : Eg) : PyData := .list (e.own.map fun p => keyD p.1)
def usesD (e : Eg) : PyData := .list (e.uses.map fun p => keyD p.1)
/-- each uses just the words of the other one -/
def fitW (l r : Eg) : Bool := PyData.eqv (usesD l) (wordsD r) && PyData.eqv (usesD r) (wordsD l)
def wrongP : Any → Any → Option Str
  | .no, _ => some "left"
  | .e _, .no => some "right"
  | .e l, .e r => if fitW l r then none else some "words"
theorem wrongP_ee {l r : Eg} : wrongP (.e l) (.e r) = if fitW l r then (none : Option Str) else some ("words" : Str) := rfl
def spWrongP (K : PySem.W.Frag) (C CE : Addr) : Sp := fun vs H Q _ => vs.length = 2 ∧ ∃ x y a b, vs = [x, y] ∧ AnyV K C CE a x H ∧ AnyV K C CE b y H ∧ ∀ H', Ex H H' → Q (strV (wrongP a b)) H'
def spCheckN (CN : Addr) : Sp := fun vs H Q E => vs.length = 1 ∧ ∃ x d, vs = [x] ∧ Dq H x d ∧ (inT namesT d = true → ∀ H', Ex H H' → Q .non H') ∧ (inT namesT d = false → ∀ e H', Ex H H' → H' e = none → E (.ref CN) (some e) (upd H' e (.xd [("value", x)])))
theorem scWrongP : FnScope ["left", "right"] ["left", "right"] (defScope sWrongP) := ⟨rfl, rfl, rfl, by decide +kernel, rfl, by decide +kernel, by decide +kernel⟩
theorem scCheckN : FnScope ["name"] ["name"] (defScope sCheckName) := ⟨rfl, rfl, rfl, by decide +kernel, rfl, by decide +kernel, by decide +kernel⟩
section
variable {K : PySem.W.Frag} {C CE : Addr} {σ : L2.St} {H : Hp} {te : TE} {A : Any}
theorem end_ty {g : Eg} {x : V} (T : ClsE K CE) (I : C8.InsC K CE) (h : EndV K C CE g x H) : ∀ H1, Ex H H1 → TyX K H1 x (.ref CE) := fun H1 ex => by
  obtain ⟨a, rfl, at_⟩ := h
  obtain ⟨dx, fs, d1, d2, d3, v1, v2, v3, h0, _⟩ := at_.ex
  exact .base (.ins (ex _ _ h0) T.cl I.ha I.hn I.htk I.hm)
theorem any_ty {x : V} (T : ClsE K CE) (I : C8.InsC K CE) (h : AnyV K C CE A x H) : ∃ t, (∀ H1, Ex H H1 → TyX K H1 x t) ∧ PySem.W.kitOne K t (.ref CE) = some (isE A) := by
  cases A with
  | e g => exact ⟨.ref CE, end_ty T I h.1, I.me⟩
  | no => exact h
/-- isinstance(x, End) -/
theorem ev_isEnd (T : ClsE K CE) (I : C8.InsC K CE) (h : EvP te σ H (AnyV K C CE A)) : Ev (tCB (rIsi K) (tCons te (tCons (tC (.ref CE)) tNil))) σ H (.bl (isE A)) := fun H1 e Q q =>
  h H1 e _ fun x H2 e2 p => by
    obtain ⟨t, h1, h2⟩ := any_ty T I p
    exact ⟨x, .ref CE, t, .ref CE, isE A, rfl, .own CE, h1 H2 (Ex.refl _), h2, q H2 e2⟩
end
section
variable {P : Program} {w : World} {K : PySem.W.Frag} {mg : Str → Option Value} {base : Heap} {C CE CD CBE CN fN : Addr}
theorem ok_wrongP (D : DnY K mg "wrong_part_pacts" "wrong_part" sWrongP) (B : Bc mg) (SE : EndC P w K mg base C CE CD CBE) (SU : UsedM P w K mg base C CE) (I : C8.InsC K CE) : Use P w K mg base 3 "wrong_part_pacts" ["left", "right"] (spWrongP K C CE) := by
  refine useY_of D scWrongP (fun f fd F => F.binds (ps := ["left", "right"]) fun _ _ _ _ _ _ us hl => match us, hl with | [_, _], _ => rfl) (fun vs H Q E h => h.1) (fun f cdv A outer s H vs Q E hr h => ?_)
  obtain ⟨_, x, y, a, b, rfl, ha, hb, q⟩ := h
  have hu : (A.deeper (envOfC "wrong_part" (defScope sWrongP) s.heap.objs.size f cdv)).units + 64 < cLine := by have := hr.un; omega
  refine ⟨_, pss_cons (ps_if (pt_not (pt_val (pe_callB call_isi (by rfl) B.isi boot_isinstance (pa_cons (pv 0) (pa_cons (pe_gref (by rfl) SE.mE) pa_nil))))) (pss_one (ps_ret pe_str)) pss_nil)
    (pss_cons (ps_if (pt_not (pt_val (pe_callB call_isi (by rfl) B.isi boot_isinstance (pa_cons (pv 1) (pa_cons (pe_gref (by rfl) SE.mE) pa_nil))))) (pss_one (ps_ret pe_str)) pss_nil)
    (pss_cons (ps_if (PW.pt (pw_or (pt_cmpR (op_neD hu) (pe_usedW SU SE.T.cl hr (by decide) (pv 0)) (pe_wordsE SE hr (by decide) (pv 1)) (nomark _)) (pw_or1 (pt_cmpR (op_neD hu) (pe_usedW SU SE.T.cl hr (by decide) (pv 1)) (pe_wordsE SE hr (by decide) (pv 0)) (nomark _))))) (pss_one (ps_ret pe_str)) pss_nil)
    (pss_one (ps_ret pe_non)))), ?_⟩
  have hx : EvP (tVar 0) (L2.start ["left", "right"] [x, y]) H (AnyV K C CE a) := p_var rfl mo_any ha
  have hy : EvP (tVar 1) (L2.start ["left", "right"] [x, y]) H (AnyV K C CE b) := p_var rfl mo_any hb
  refine q_when (et_not (et_B (ev_isEnd SE.T I hx))) (fun c H1 e1 => ?_) fun c H1 e1 => ?_
  · cases a with
    | no => exact s_ret ev_c fun H2 e2 => q H2 (e1.trans e2)
    | e l => cases c
  cases a with
  | no => cases c
  | e l =>
    refine q_when (et_not (et_B (ev_isEnd SE.T I (hy.up e1)))) (fun c2 H2 e2 => ?_) fun c2 H2 e2 => ?_
    · cases b with
      | no => exact s_ret ev_c fun H3 e3 => q H3 (e1.trans (e2.trans e3))
      | e r => cases c2
    cases b with
    | no => cases c2
    | e r =>
      have e02 := e1.trans e2
      have pl : EvP (tVar 0) (L2.start ["left", "right"] [x, y]) H2 (EndV K C CE l) := p_var rfl mo_end (mo_end _ _ _ e02 ha.1)
      have pr : EvP (tVar 1) (L2.start ["left", "right"] [x, y]) H2 (EndV K C CE r) := p_var rfl mo_end (mo_end _ _ _ e02 hb.1)
      refine q_when (b := !fitW l r) (et_is (et_or (et_test (de_ne ha.2.2.uses hb.2.2.own (Lw.toDe (p_usedW pl ha.2.1.su)) (Lw.toDe (p_wordsE pr hb.2.1.so)))) fun _ => et_test (de_ne hb.2.2.uses ha.2.2.own (Lw.toDe (p_usedW pr hb.2.1.su)) (Lw.toDe (p_wordsE pl ha.2.1.so)))) (by
        show (!PyData.eqv (usesD l) (wordsD r) || !PyData.eqv (usesD r) (wordsD l)) = !fitW l r
        unfold fitW
        rw [Bool.not_and])) (fun c3 H3 e3 => ?_) fun c3 H3 e3 => ?_
      · have f : fitW l r = false := by simpa using c3
        refine s_ret ev_c fun H4 e4 => ?_
        have := q H4 (e02.trans (e3.trans e4))
        rw [wrongP_ee, f] at this
        exact this
      · have f : fitW l r = true := by simpa using c3
        refine s_ret ev_c fun H4 e4 => ?_
        have := q H4 (e02.trans (e3.trans e4))
        rw [wrongP_ee, f] at this
        exact this
theorem ok_checkN (D : Dn K mg "check_name" sCheckName) (TN : TxG K mg "NAMES" namesT) (EN : Err.ErrC K CN fN "value") (mN : mg "BadName" = some (.ref CN)) (UO : Use P w K mg base 1 "is_one_of" ["value", "texts"] (spAsk K 2 (rOneOf K))) : UseX P w K mg base 2 "check_name" ["name"] (spCheckN CN) := by
  refine useX_of D scCheckN (fun f fd F => F.binds (ps := ["name"]) fun _ _ _ _ _ _ us hl => match us, hl with | [_], _ => rfl) (fun vs H Q E h => h.1) (fun f cdv A outer s H vs Q E hr h => ?_)
  obtain ⟨_, x, d, rfl, hd, good, bad⟩ := h
  obtain ⟨pU, mU, hU⟩ := TN
  refine ⟨_, pss_one (ps_if (pt_not (pt_val (pe_use UO hr (by decide) (by rfl) (pa_cons (pv 0) (pa_cons (pe_gref (by rfl) mU) pa_nil))))) (pss_one (ps_raise rfl (takes_of rfl rfl rfl rfl) (Err.pmk_err EN pf_value (hr.mono (by decide)) mN (by rfl) (pv 0) (fun _ _ _ _ _ _ _ _ _ _ _ _ _ _ => rfl)))) pss_nil), ?_⟩
  refine s_when (et_not (et_B (ev_oneG hU (.of (ev_var rfl) mo_de (dq_dp hd))))) (fun c H1 e1 => ?_) fun c H1 e1 => good (by simpa using c) H1 e1
  exact ⟨x, rfl, fun o ho => bad (by simpa using c) o H1 e1 ho⟩
end
end Chk
set_option maxHeartbeats 2000000
/-! The owners of the words of a pact: a dict of two ends' words. -/
namespace Chk
open PySem PySem.Spec PyProof.Rows L2 Evl Pd Gd Us Wlk
def ownI (nm : Str) (e : Eg) : Its' := e.own.map fun p => (p.1, Itm.d (.str nm))
def ownersI (l r : Eg) : Its' := ownI "left" l ++ ownI "right" r
theorem own_keysI {nm : Str} {e : Eg} : (ownI nm e).map (·.1) = e.own.map (·.1) := by
  unfold ownI
  rw [List.map_map]
  rfl
theorem eqv_keys : ∀ {a b : List Key}, (∀ k ∈ a, ∃ s : Str, k = .inr s) → (∀ k ∈ b, ∃ s : Str, k = .inr s) → PyData.eqvAll (a.map keyD) (b.map keyD) = true → a = b
  | [], [], _, _, _ => rfl
  | x :: xs, y :: ys, ha, hb, h => by
    obtain ⟨s, rfl⟩ := ha x List.mem_cons_self
    obtain ⟨t, rfl⟩ := hb y List.mem_cons_self
    have h : ((s == t) && PyData.eqvAll (xs.map keyD) (ys.map keyD)) = true := h
    rw [Bool.and_eq_true] at h
    rw [eqv_keys (fun k hk => ha k (List.mem_cons_of_mem _ hk)) (fun k hk => hb k (List.mem_cons_of_mem _ hk)) h.2, show s = t from by simpa using h.1]
  | [], _ :: _, _, _, h => by cases h
  | _ :: _, [], _, _, h => by cases h
theorem neat_own {e : Eg} (N : Neat e) : AllR e.own := by
  obtain ⟨kvs, h1, _, h3, _⟩ := sets_dct N.own
  cases h1
  exact h3
theorem neat_uses {e : Eg} (N : Neat e) : AllR e.uses := by
  obtain ⟨kvs, h1, _, h3, _⟩ := uses_dct N.uses
  cases h1
  exact h3
theorem two_own {e : Eg} (N : Neat e) : e.own.length ≤ 2 := by
  obtain ⟨kvs, h1, h2, _⟩ := sets_dct N.own
  cases h1
  exact h2
/-- what one uses is not its own -/
theorem uses_apart {e : Eg} (N : Neat e) : ∀ k ∈ e.uses.map (·.1), k ∉ e.own.map (·.1) := fun k hk ho => by
  have h := N.uses
  rw [okUses_dct, Bool.and_eq_true, List.all_eq_true] at h
  obtain ⟨p, hp, rfl⟩ := List.mem_map.mp hk
  have := h.2 p hp
  unfold okUse at this
  rw [Bool.and_eq_true, Bool.and_eq_true] at this
  have a : ((e.own.map (·.1)).any fun k => decide (k = p.1)) = true := List.any_eq_true.mpr ⟨p.1, ho, by simp⟩
  rw [a] at this
  cases this.2.1
theorem fit_keys {l r : Eg} (Nl : Neat l) (Nr : Neat r) (f : fitW l r = true) : l.uses.map (·.1) = r.own.map (·.1) ∧ r.uses.map (·.1) = l.own.map (·.1) := by
  unfold fitW at f
  rw [Bool.and_eq_true] at f
  have go : ∀ {a b : Its'}, AllR a → AllR b → PyData.eqv (.list (a.map fun p => keyD p.1)) (.list (b.map fun p => keyD p.1)) = true → a.map (·.1) = b.map (·.1) := fun {a b} ha hb h => by
    refine eqv_keys (fun k hk => ?_) (fun k hk => ?_) ?_
    · obtain ⟨p, hp, rfl⟩ := List.mem_map.mp hk
      exact ha p hp
    · obtain ⟨p, hp, rfl⟩ := List.mem_map.mp hk
      exact hb p hp
    · rw [List.map_map, List.map_map]
      exact h
  exact ⟨go (neat_uses Nl) (neat_own Nr) f.1, go (neat_uses Nr) (neat_own Nl) f.2⟩
theorem owners_nodup {l r : Eg} (Nl : Neat l) (Nr : Neat r) (f : fitW l r = true) : ((ownersI l r).map (·.1)).Nodup := by
  unfold ownersI
  rw [List.map_append, own_keysI, own_keysI]
  refine List.nodup_append.mpr ⟨Nl.so.2.2, Nr.so.2.2, fun a ha b hb e => ?_⟩
  subst e
  exact uses_apart Nl a (by rw [(fit_keys Nl Nr f).1]; exact hb) ha
section
variable {K : PySem.W.Frag} {C CE : Addr} {σ : L2.St} {H : Hp}
/-- for word in end.words(): put end's words, named nm, behind what stands -/
theorem inner_words {Nx : Hp → Prop} {e : Eg} {x : V} {nm : Str} {D : Addr} {its : Its'} {kvs : List (Key × V)} {H1 H4 : Hp} {E : XK} {iw ie : Nat} {ws : List Nat} {tk tv : TE} (N : Neat e) (he : EndV K C CE e x H4) (hie : σ[ie]? = some (some x)) (ex : Ex H1 H4) (nD : H1 D = none) (hD : H4 D = some (.dK kvs)) (hi : ItemsV K C its kvs H4) (nd : ((its ++ ownI nm e).map (·.1)).Nodup) (li : its.length ≤ 100)
    (hw : ∀ y, wipe ((wipe σ ws).set iw (some y)) ws = wipe σ ws) (hk : ∀ (k : Key) H', Ev tk ((wipe σ ws).set iw (some (kV k))) H' (kV k)) (hv : ∀ (k : Key) H', Ev tv ((wipe σ ws).set iw (some (kV k))) H' (.str nm))
    (nx : ∀ H' kvs', Ex H1 H' → H' D = some (.dK kvs') → ItemsV K C (its ++ ownI nm e) kvs' H' → Nx H') :
    iList K (tMeth CE "words" (spWords K C CE) [] E (tVar ie) tNil) σ H4 fun J1 H5 => ∃ Wj : Nat → Nat → Hp → Prop, (∃ m, Wj 0 m H5) ∧ ∀ j k H6, Wj j k H6 →
      (J1.stop j H6 ∧ Nx H6) ∨ (J1.go j H6 ∧ ∃ Ny : Hp → Prop, (∀ H7, Ny H7 → ∃ k', k' < k ∧ Wj (j + 1) k' H7) ∧ ∀ y H7, J1.yld j H6 y H7 → gName iw y (wipe σ ws) H7 fun σ3 H8 => wipe σ3 ws = wipe σ ws ∧
        tk σ3 H8 fun u H9 => tv σ3 H9 fun z HA => ∃ kvs q, u = kV q ∧ HA D = some (.dK kvs) ∧ kvs.length < sizeLine ∧ Ny (upd HA D (.dK (putK kvs q z)))) := by
  refine p_wordsE (E := E) (te := tVar ie) (p_var hie mo_end he) N.so H4 (Ex.refl _) _ fun lv H5 e5 hl => ?_
  cases hl with
  | @lst L xs _ z hl hd =>
    have exs : xs = e.own.map fun p => kV p.1 := by
      have : ∀ (l : Its') (xs : List V), DqAll H5 xs (l.map fun p => keyD p.1) → xs = l.map fun p => kV p.1 := by
        intro l
        induction l with
        | nil => intro xs h; cases h; rfl
        | cons p r ih =>
          intro xs h
          cases h with
          | cons a t =>
            rw [ih _ t]
            have : ∀ (k : Key) (v : V), Dq H5 v (keyD k) → v = kV k := fun k v h => by
              cases k with
              | inl i => cases h; rfl
              | inr s => cases h; rfl
            rw [this _ _ a]
            rfl
      exact this _ _ hd
    subst exs
    refine ⟨L, rfl, ⟨_, sq_of hl⟩, ?_⟩
    have w := walk_list (K := K) (a := L) (xs := e.own.map fun p => kV p.1)
    have lo := two_own N
    refine ⟨fun j m H' => m = e.own.length - j ∧ j ≤ e.own.length ∧ Ex H1 H' ∧ H' L = some (.lst (e.own.map fun p => kV p.1)) ∧ ∃ kvs', H' D = some (.dK kvs') ∧ ItemsV K C (its ++ (ownI nm e).take j) kvs' H', ⟨e.own.length, by simp, Nat.zero_le _, ex.trans e5, hl, kvs, e5 _ _ hD, by rw [List.take_zero, List.append_nil]; exact hi.up e5⟩, ?_⟩
    rintro j m H' ⟨rfl, hj, exj, hL', kvs', hD', hi'⟩
    by_cases lt : j < e.own.length
    · have lt' : j < (e.own.map fun p => kV p.1).length := by rw [List.length_map]; exact lt
      refine .inr ⟨w.goes j H' lt' (sq_of hL'), fun H3 => Ex H1 H3 ∧ H3 L = some (.lst (e.own.map fun p => kV p.1)) ∧ ∃ kvs', H3 D = some (.dK kvs') ∧ ItemsV K C (its ++ (ownI nm e).take (j + 1)) kvs' H3, fun H3 ⟨a, b, c⟩ => ⟨e.own.length - (j + 1), by omega, rfl, lt, a, b, c⟩, fun y H7 yy => ?_⟩
      obtain ⟨rfl, hy⟩ := w.yields j H' y H7 lt' (sq_of hL') yy
      rw [List.getElem?_map, List.getElem?_eq_getElem lt] at hy
      have hy : some (kV e.own[j].1) = some y := hy
      cases hy
      refine ⟨hw _, hk _ _ _ (Ex.refl _) _ fun H8 e8 => hv _ _ _ (Ex.refl _) _ fun H9 e9 => ?_⟩
      have e79 := e8.trans e9
      have hD9 := e79 _ _ hD'
      have lk : kvs'.length ≤ 200 := by
        rw [hi'.len, List.length_append, List.length_take]
        omega
      have tj : (ownI nm e).take (j + 1) = (ownI nm e).take j ++ [(e.own[j].1, .d (.str nm))] := by
        have : (ownI nm e)[j]? = some (e.own[j].1, .d (.str nm)) := by
          unfold ownI
          rw [List.getElem?_map, List.getElem?_eq_getElem lt]
          rfl
        rw [List.take_succ, this]
        rfl
      have no : valV kvs' e.own[j].1 = none := Lw.valV_no (by
        rw [hi'.keys]
        intro z
        have nd' : ((its ++ (ownI nm e).take (j + 1)).map (·.1)).Nodup := by
          refine List.Nodup.sublist (List.Sublist.map _ ?_) nd
          exact (List.Sublist.refl its).append (List.take_sublist _ _)
        rw [tj, ← List.append_assoc, List.map_append] at nd'
        exact (List.nodup_append.mp nd').2.2 _ z _ (List.mem_cons_self) rfl)
      have LD : L ≠ D := fun z => by rw [z, hD'] at hL'; cases hL'
      refine ⟨kvs', _, rfl, hD9, sz_lt (by omega), (exj.trans e79).mut nD, by rw [upd_ne LD]; exact e79 _ _ hL', _, upd_same, ?_⟩
      rw [putK_new _ no, tj, ← List.append_assoc]
      exact ((hi'.up e79).put hD9).snoc (t := .d (.str nm)) (.str _)
    · have : j = e.own.length := by omega
      subst this
      have st := w.stops H' (sq_of hL')
      rw [List.length_map] at st
      refine .inl ⟨st, nx H' kvs' exj hD' ?_⟩
      have : (ownI nm e).take e.own.length = ownI nm e := List.take_of_length_le (by unfold ownI; rw [List.length_map]; exact Nat.le_refl _)
      rw [this] at hi'
      exact hi'
end
end Chk
set_option maxHeartbeats 2000000
/-! Pact.__init__ -/
namespace Chk
open PySem PySem.Spec PyProof.Rows L2 Evl Pd Gd Us Wlk
abbrev mInitP : Stmt := Tp.m_Pact___init__
def methodsP : List Str := ["end", "other", "words", "owner", "setting", "with_end"]
/-- a pact: two ends, and the owners of their words -/
structure PactAt (K : PySem.W.Frag) (C CE CP : Addr) (l r : Eg) (a : Addr) (H : Hp) : Prop where
  ex : ∃ (dx : Addr) (fs : List (Str × V)) (x y : V) (d : Addr) (vs : List (Key × V)), H a = some (.ins CP dx fs) ∧ EndV K C CE l x H ∧ EndV K C CE r y H ∧ H d = some (.dK vs) ∧ ItemsV K C (ownersI l r) vs H ∧
    fs.lookup ("_left" : Str) = some x ∧ fs.lookup ("_right" : Str) = some y ∧ fs.lookup ("_owners" : Str) = some (.ref d) ∧ ∀ m ∈ methodsP, fs.lookup m = none
def PactV (K : PySem.W.Frag) (C CE CP : Addr) (l r : Eg) : PV := fun x H => ∃ a, x = .ref a ∧ PactAt K C CE CP l r a H
theorem PactAt.up {K : PySem.W.Frag} {C CE CP : Addr} {l r : Eg} {a : Addr} {H H' : Hp} (h : PactAt K C CE CP l r a H) (e : Ex H H') : PactAt K C CE CP l r a H' := by
  obtain ⟨dx, fs, x, y, d, vs, h0, h1, h2, h3, h4, rest⟩ := h.ex
  exact ⟨dx, fs, x, y, d, vs, e _ _ h0, mo_end _ _ _ e h1, mo_end _ _ _ e h2, e _ _ h3, h4.up e, rest⟩
theorem mo_pact {K : PySem.W.Frag} {C CE CP : Addr} {l r : Eg} : Mo (PactV K C CE CP l r) := fun _ _ _ e ⟨a, h1, h2⟩ => ⟨a, h1, h2.up e⟩
structure ClsP (K : PySem.W.Frag) (CP : Addr) : Prop where
  cl : Cls K CP
  left : NoAttr K CP "_left"
  right : NoAttr K CP "_right"
  owners : NoAttr K CP "_owners"
abbrev nInitP : List Str := ["self", "left", "right", "part", "word", "name", "end"]
theorem scInitP : FnScope nInitP ["self", "left", "right"] (defScope mInitP) := ⟨rfl, rfl, rfl, by decide +kernel, rfl, by decide +kernel, by decide +kernel⟩
def spInitP (K : PySem.W.Frag) (C CE CP CB : Addr) : Sp := fun vs H Q E => vs.length = 3 ∧ ∃ (a dx : Addr) (x y : V) (A B : Any), vs = [.ref a, x, y] ∧ H a = some (.ins CP dx []) ∧ AnyV K C CE A x H ∧ AnyV K C CE B y H ∧
  (∀ t, wrongP A B = some t → ∀ d H', Ex H H' → H' d = none → E (.ref CB) (some d) (upd H' d (.xd [("part", V.str t)]))) ∧
  (∀ l r, A = .e l → B = .e r → fitW l r = true → ∀ H', (∀ b o, b ≠ a → H b = some o → H' b = some o) → PactAt K C CE CP l r a H' → Q .non H')
section
variable {K : PySem.W.Frag} {C CE CP : Addr} {H H' : Hp} {l r : Eg}
theorem end_stay {c a dx : Addr} {g : Eg} {x : V} (ha : H a = some (.ins c dx [])) (st : ∀ b o, b ≠ a → H b = some o → H' b = some o) (h : EndV K C CE g x H) : EndV K C CE g x H' := by
  obtain ⟨b, rfl, at_⟩ := h
  obtain ⟨dx', fs, d1, d2, d3, v1, v2, v3, h0, h1, h2, h3, i1, i2, i3, f1, rest⟩ := at_.ex
  have nb : b ≠ a := fun z => by
    rw [z, ha] at h0
    cases h0
    cases f1
  have nd : ∀ {d : Addr} {v : List (Key × V)}, H d = some (.dK v) → d ≠ a := fun {d v} hd z => by
    rw [z, ha] at hd
    cases hd
  exact ⟨b, rfl, dx', fs, d1, d2, d3, v1, v2, v3, st _ _ nb h0, st _ _ (nd h1) h1, st _ _ (nd h2) h2, st _ _ (nd h3) h3, i1.stay ha st, i2.stay ha st, i3.stay ha st, f1, rest⟩
/-- {word: name for name, end in (("left", left), ("right", right)) for word in end.words()} -/
theorem p_owners {s0 s3 : Option V} {x y : V} {E : XK} (Nl : Neat l) (Nr : Neat r) (f : fitW l r = true) (hx : EndV K C CE l x H) (hy : EndV K C CE r y H) :
    EvP (Dc2.tDc2 (iTup K (tTup (tCons (tTup (tCons (tC (.str "left")) (tCons (tVar 1) tNil))) (tCons (tTup (tCons (tC (.str "right")) (tCons (tVar 2) tNil))) tNil)))) (gTup K 2 (gCons (gName 5) (gCons (gName 6) gNil))) (iList K (tMeth CE "words" (spWords K C CE) [] E (tVar 6) tNil)) (gName 4) (tVar 4) (tVar 5) [5, 6, 4] [4]) [s0, some x, some y, s3, none, none, none] H
      (fun v H' => ∃ D ws, v = .ref D ∧ H' D = some (.dK ws) ∧ ItemsV K C (ownersI l r) ws H') := fun H0 e0 Q q => by
  refine ⟨x, rfl, show (2 : Nat) ≤ sizeLine by decide, fun A nA => ⟨y, rfl, show (2 : Nat) ≤ sizeLine by decide, fun B nB => ⟨show (2 : Nat) ≤ sizeLine by decide, fun O nO => ⟨O, rfl, ⟨_, st_of (upd_same (a := O))⟩, fun D nD => ?_⟩⟩⟩⟩
  have x1 : Ex H0 (upd H0 A (.tup [.str "left", x])) := Ex.new nA
  have x2 : Ex (upd H0 A (.tup [.str "left", x])) (upd (upd H0 A (.tup [.str "left", x])) B (.tup [.str "right", y])) := Ex.new nB
  have x3 : Ex (upd (upd H0 A (.tup [.str "left", x])) B (.tup [.str "right", y])) (upd (upd (upd H0 A (.tup [.str "left", x])) B (.tup [.str "right", y])) O (.tup [.ref A, .ref B])) := Ex.new nO
  have hO : (upd (upd (upd H0 A (.tup [.str "left", x])) B (.tup [.str "right", y])) O (.tup [.ref A, .ref B])) O = some (.tup [.ref A, .ref B]) := upd_same
  have hA : (upd (upd (upd H0 A (.tup [.str "left", x])) B (.tup [.str "right", y])) O (.tup [.ref A, .ref B])) A = some (.tup [.str "left", x]) := x3 _ _ (x2 _ _ upd_same)
  have hB : (upd (upd (upd H0 A (.tup [.str "left", x])) B (.tup [.str "right", y])) O (.tup [.ref A, .ref B])) B = some (.tup [.str "right", y]) := x3 _ _ upd_same
  have e1 := x1.trans (x2.trans x3)
  generalize upd (upd (upd H0 A (.tup [.str "left", x])) B (.tup [.str "right", y])) O (.tup [.ref A, .ref B]) = H1 at nD hO hA hB e1 ⊢
  have e01 := e0.trans e1
  have nd := owners_nodup Nl Nr f
  have w := walk_tup (K := K) (a := O) (xs := [.ref A, .ref B])
  have lo := two_own Nl
  refine ⟨fun i m H' => m = 2 - i ∧ i ≤ 2 ∧ Ex H1 H' ∧ ∃ kvs, H' D = some (.dK kvs) ∧ ItemsV K C (if i = 0 then [] else if i = 1 then ownI "left" l else ownersI l r) kvs H', ⟨2, rfl, by decide, Ex.new nD, [], upd_same, ⟨rfl, fun i k t h => by simp at h⟩⟩, ?_⟩
  rintro i m H' ⟨rfl, hi, ex, kvs, hD, it⟩
  have sO : SqT K H' O [.ref A, .ref B] := st_of (ex _ _ hO)
  have hi3 : i = 0 ∨ i = 1 ∨ i = 2 := by omega
  rcases hi3 with rfl | rfl | rfl
  · refine .inr ⟨w.goes 0 H' (by simp) sO, fun H3 => Ex H1 H3 ∧ ∃ kvs, H3 D = some (.dK kvs) ∧ ItemsV K C (ownI "left" l) kvs H3, fun H3 ⟨a, b⟩ => ⟨1, by decide, rfl, by decide, a, b⟩, fun v H7 yy => ?_⟩
    obtain ⟨rfl, hv⟩ := w.yields 0 H' v H7 (by simp) sO yy
    cases hv
    refine two_go (ex _ _ hA) ⟨rfl, ?_⟩
    exact inner_words (its := []) (nm := "left") (iw := 4) (ie := 6) (ws := [4]) Nl (mo_end _ _ _ (e01.trans ex) hx) rfl ex nD hD it (by
      rw [List.nil_append, own_keysI]
      exact Nl.so.2.2) (by simp) (fun _ => rfl) (fun _ _ => ev_var rfl) (fun _ _ => ev_var rfl) fun H8 k8 a b c => ⟨a, k8, b, by rw [List.nil_append] at c; exact c⟩
  · refine .inr ⟨w.goes 1 H' (by simp) sO, fun H3 => Ex H1 H3 ∧ ∃ kvs, H3 D = some (.dK kvs) ∧ ItemsV K C (ownersI l r) kvs H3, fun H3 ⟨a, b⟩ => ⟨0, by decide, rfl, by decide, a, b⟩, fun v H7 yy => ?_⟩
    obtain ⟨rfl, hv⟩ := w.yields 1 H' v H7 (by simp) sO yy
    cases hv
    refine two_go (ex _ _ hB) ⟨rfl, ?_⟩
    exact inner_words (its := ownI "left" l) (nm := "right") (iw := 4) (ie := 6) (ws := [4]) Nr (mo_end _ _ _ (e01.trans ex) hy) rfl ex nD hD it nd (by unfold ownI; rw [List.length_map]; omega) (fun _ => rfl) (fun _ _ => ev_var rfl) (fun _ _ => ev_var rfl) fun H8 k8 a b c => ⟨a, k8, b, c⟩
  · exact .inl ⟨w.stops H' sO, q (.ref D) H' (e1.trans ex) ⟨D, kvs, rfl, hD, it⟩⟩
end
end Chk
set_option maxHeartbeats 4000000
namespace Chk
open PySem PySem.Spec PyProof.Rows L2 Evl Pd Gd Us Wlk
theorem wrongP_none {A B : Any} (h : wrongP A B = none) : ∃ l r, A = .e l ∧ B = .e r ∧ fitW l r = true := by
  match A, B, h with
  | .e l, .e r, h =>
    refine ⟨l, r, rfl, rfl, ?_⟩
    rw [wrongP_ee] at h
    by_cases f : fitW l r = true
    · exact f
    · rw [if_neg f] at h
      cases h
section
variable {P : Program} {w : World} {K : PySem.W.Frag} {mg : Str → Option Value} {base : Heap} {C CE CP CD CBE CB fB f : Addr} {fd : FuncData}
theorem ok_initP (F : Fun K "__init__" "Pact.__init__" mInitP f fd) (EB : Err.ErrC K CB fB "part") (mB : mg "BadPact" = some (.ref CB)) (T : ClsP K CP) (SE : EndC P w K mg base C CE CD CBE) (UW : Use P w K mg base 3 "wrong_part_pacts" ["left", "right"] (spWrongP K C CE)) :
    FnOk P w K mg base (L2.CX P w) 4 f fd ["self", "left", "right"] (spInitP K C CE CP CB) := by
  refine F.okX scInitP (fun vs H Q E h => h.1) (fun cdv A outer s H vs Q E hr h => ?_)
  obtain ⟨_, a, dx, x, y, A1, B1, rfl, ha, hx, hy, bad, good⟩ := h
  have nd := scInitP.nd
  refine ⟨_, pss_cons (ps_set (i := 3) nd rfl (Or.inl rfl) (pe_use UW hr (by decide) (by rfl) (pa_cons (pv 1) (pa_cons (pv 2) pa_nil))))
    (pss_cons (ps_if (pt_cmpR op_notN (pv 3) pe_non (nomark _)) (pss_one (ps_raise rfl (takes_of rfl rfl rfl rfl) (Err.pmk_err EB pf_part (hr.mono (by decide)) mB (by rfl) (pv 3) (fun _ _ _ _ _ _ _ _ _ _ _ _ _ _ => rfl)))) pss_nil)
    (pss_cons (ps_fld (pv 0) (pv 1) rfl)
    (pss_cons (ps_fld (pv 0) (pv 2) rfl)
    (pss_one (ps_fld (pv 0) (Dc2.pe_dc2 (own := [("name", 5), ("end", 6), ("word", 4)]) (ws := [4]) (g := gTup K 2 (gCons (gName 5) (gCons (gName 6) gNil))) (gj := gName 4) (wj := iList K (tMeth CE "words" (spWords K C CE) [] (fun _ _ _ => False) (tVar 6) tNil)) (tk := tVar 4) (tv := tVar 5) rfl nd (pi_tup (pe_tup (pa_cons (pe_tup (pa_cons pe_str (pa_cons (pv 1) pa_nil))) (pa_cons (pe_tup (pa_cons pe_str (pa_cons (pv 2) pa_nil))) pa_nil)))) (blkOk_by (N := nInitP) (sc := defScope mInitP) (by decide +kernel)) (by decide)
      ?g ?wj ?gj ?tk ?tv) rfl))))), ?_⟩
  case g => exact fun _ _ _ _ _ => pg_tup rfl (pgs_cons (pg_name (i := 5) nd rfl (Or.inl rfl)) (pgs_cons (pg_name (i := 6) nd rfl (Or.inl rfl)) pgs_nil))
  case wj => exact fun _ _ _ _ _ => pi_list (pe_wordsE SE hr (by decide) (pv 6))
  case gj => exact fun _ _ _ _ _ => pg_name (i := 4) nd rfl (Or.inl rfl)
  case tk => exact fun _ _ _ _ _ => pv 4
  case tv => exact fun _ _ _ _ _ => pv 5
  generalize eW : wrongP A1 B1 = wp at bad
  refine q_asg (v := strV wp) (fun H1 e1 Q' q' => ⟨x, rfl, y, rfl, rfl, x, y, A1, B1, rfl, mo_any _ _ _ e1 hx, mo_any _ _ _ e1 hy, fun H2 e2 => by rw [eW]; exact q' H2 e2⟩) fun H1 e1 => ?_
  have test : EvT (tTest (tOp (fun x y H Q => y = .non ∧ Q (.bl (!decide (x = .non))) H) (tVar 3) (tC .non))) ((L2.start nInitP [.ref a, x, y]).set 3 (some (strV wp))) H1 (!decide (strV wp = .non)) :=
    et_test (ev_op (ev_var rfl) ev_c fun H2 _ Q' q' => ⟨rfl, q' H2 (Ex.refl H2)⟩)
  refine q_when test (fun c H2 e2 => ?_) fun c H2 e2 => ?_
  · cases wp with
    | none => simp [strV] at c
    | some t => exact ⟨.str t, rfl, fun d hd => bad t rfl d H2 (e1.trans e2) hd⟩
  cases wp with
  | some t => simp [strV] at c
  | none =>
    obtain ⟨l, r, rfl, rfl, fit⟩ := wrongP_none eW
    have e02 := e1.trans e2
    have h2a : H2 a = some (.ins CP dx []) := e02 _ _ ha
    dsimp only [tSeq, sFld]
    refine ⟨x, rfl, .ref a, rfl, a, CP, dx, [], rfl, h2a, T.cl, T.left, by decide, ?_⟩
    generalize ef1 : putF "_left" x [] = fs1
    have l1 : fs1.length ≤ 1 := by rw [← ef1]; exact putF_len _ _ _
    refine ⟨y, rfl, .ref a, rfl, a, CP, dx, fs1, rfl, upd_same, T.cl, T.right, by omega, ?_⟩
    rw [upd_upd]
    generalize ef2 : putF "_right" y fs1 = fs2
    have l2 : fs2.length ≤ 2 := by rw [← ef2]; have := putF_len "_right" y fs1; omega
    have st4 : ∀ b o, b ≠ a → H b = some o → (upd H2 a (.ins CP dx fs2)) b = some o := fun b o hb h => by
      rw [upd_ne hb]
      exact e02 _ _ h
    refine p_owners (K := K) (C := C) (CE := CE) (l := l) (r := r) (s0 := some (.ref a)) (s3 := some .non) (x := x) (y := y) hx.2.1 hy.2.1 fit (end_stay ha st4 hx.1) (end_stay ha st4 hy.1) _ (Ex.refl _) _ fun v H5 e5 ⟨D, ws, ev, hD, it⟩ => ?_
    subst ev
    have h5a := e5 _ _ (upd_same (a := a))
    refine ⟨.ref a, rfl, a, CP, dx, fs2, rfl, h5a, T.cl, T.owners, by omega, ?_⟩
    have nDa : D ≠ a := fun z => by
      rw [z, h5a] at hD
      cases hD
    have st9 : ∀ b o, b ≠ a → H b = some o → (upd H5 a (.ins CP dx (putF "_owners" (.ref D) fs2))) b = some o := fun b o hb h => by
      rw [upd_ne hb]
      exact e5 _ _ (st4 b o hb h)
    refine good l r rfl rfl fit _ st9 ⟨dx, _, x, y, D, ws, upd_same, end_stay ha st9 hx.1, end_stay ha st9 hy.1, by rw [upd_ne nDa]; exact hD, ?_, ?_, ?_, ?_, ?_⟩
    · refine ⟨it.len, fun i k t hk => ?_⟩
      obtain ⟨v, g1, g2⟩ := it.at_ i k t hk
      refine ⟨v, g1, ?_⟩
      have : ∃ s : Str, t = .d (.str s) := by
        have m := List.mem_of_getElem? hk
        unfold ownersI at m
        rcases List.mem_append.mp m with m | m <;> obtain ⟨p, _, e⟩ := List.mem_map.mp m <;> cases e <;> exact ⟨_, rfl⟩
      obtain ⟨s, rfl⟩ := this
      cases g2
      exact .str _
    all_goals rw [← ef2, ← ef1]
    · rfl
    · rfl
    · rfl
    · intro m hm
      unfold methodsP at hm
      simp only [List.mem_cons, List.not_mem_nil, or_false] at hm
      rcases hm with rfl | rfl | rfl | rfl | rfl | rfl
      all_goals rfl
end
end Chk
set_option maxHeartbeats 4000000
/-! A pact's methods. -/
namespace Chk
open PySem PySem.Spec PyProof.Rows L2 Evl Pd Gd Us Wlk
abbrev mLeft : Stmt := Tp.m_Pact_left
abbrev mRight : Stmt := Tp.m_Pact_right
abbrev mEndP : Stmt := Tp.m_Pact_end
abbrev mOther : Stmt := Tp.m_Pact_other
abbrev mWordsP : Stmt := Tp.m_Pact_words
abbrev mOwner : Stmt := Tp.m_Pact_owner
abbrev mSettingP : Stmt := Tp.m_Pact_setting
abbrev mWithEnd : Stmt := Tp.m_Pact_with_end
abbrev mEqP : Stmt := Tp.m_Pact___eq__
/-- a method that may raise -/
def MC (P : Program) (w : World) (K : PySem.W.Frag) (mg : Str → Option Value) (base : Heap) (C : Addr) (m : Str) (k : Nat) (ps : List Str) (sp : Sp) : Prop := ∃ f fd, Meth K C m f ∧ L2.Binds K fd ps [] ∧ FnOk P w K mg base (L2.CX P w) k f fd ps sp
theorem pe_mC {X : Cx} {C : Addr} {m : Str} {k j : Nat} {ps : List Str} {sp : Sp} {e o : Expr} {es : List Expr} {pos apos : Pos} {ta : TE} {t : TA} {E : XK} {pl : Sem Bool} (S : MC X.prog X.w X.K X.mg X.base C m k ps sp) (cl : Cls X.K C) (hr : Room j X.A) (hk : k ≤ j) (hx : Passes (L2.CX X.prog X.w) X E) (ho : PE X o ta) (ha : PA X (e :: es) t)
    (hst : starEach (e :: es) X.env = (false, eval e X.env) :: starEach es X.env := by rfl) (hpl : (backTo pos (starEach es X.env)).any (·.1) = false := by rfl)
    (ht : eval (.Call (.Attribute o m apos) (e :: es) [] pos) X.env = (do
      let ov ← eval o X.env
      standAt apos.atName
      let (f, first) ← holding [ov] (getMethod ov m pl)
      callWith pos f first (backTo pos (starEach (e :: es) X.env)) (backToKw pos (keywordEach [] X.env))) := by rfl) :
    PE X (.Call (.Attribute o m apos) (e :: es) [] pos) (tMeth C m sp [] E ta t) := by
  obtain ⟨f, fd, M, b, F⟩ := S
  exact pe_meth ho cl M F (hr.mono hk) b .nil hx ha hst hpl ht
def selP (l r : Eg) (s : Str) : Eg := if s = "left" then l else r
def othN (s : Str) : Str := if s = "left" then "right" else "left"
def spEndP (K : PySem.W.Frag) (C CE CP CN : Addr) : Sp := fun vs H Q E => vs.length = 2 ∧ ∃ x y d l r, vs = [x, y] ∧ PactV K C CE CP l r x H ∧ Dq H y d ∧
  (∀ s, d = .str s → inT namesT d = true → ∀ v H', Ex H H' → EndV K C CE (selP l r s) v H' → Q v H') ∧ (inT namesT d = false → ∀ o H', Ex H H' → H' o = none → E (.ref CN) (some o) (upd H' o (.xd [("value", y)])))
def spOther (K : PySem.W.Frag) (CP CN : Addr) : Sp := fun vs H Q E => vs.length = 2 ∧ ∃ x y d, vs = [x, y] ∧ Dq H y d ∧
  (∀ s, d = .str s → inT namesT d = true → ∀ H', Ex H H' → Q (.str (othN s)) H') ∧ (inT namesT d = false → ∀ o H', Ex H H' → H' o = none → E (.ref CN) (some o) (upd H' o (.xd [("value", y)])))
def spWordsP (K : PySem.W.Frag) (C CE CP : Addr) : Sp := fun vs H Q _ => vs.length = 1 ∧ ∃ x l r, vs = [x] ∧ PactV K C CE CP l r x H ∧ Neat l ∧ Neat r ∧ ∀ y H', Ex H H' → Qe (.list ((wordsI (ownersI l r)).map PyData.str)) y H' → Q y H'
def spOwner (K : PySem.W.Frag) (C CE CP CN : Addr) : Sp := fun vs H Q E => vs.length = 2 ∧ ∃ x y d l r, vs = [x, y] ∧ PactV K C CE CP l r x H ∧ ((ownersI l r).map (·.1)).Nodup ∧ Dq H y d ∧
  (∀ s, d = .str s → hasW (ownersI l r) d = true → ∀ v H', Ex H H' → ItmV K C (getK (ownersI l r) s) v H' → Q v H') ∧ (hasW (ownersI l r) d = false → ∀ o H', Ex H H' → H' o = none → E (.ref CN) (some o) (upd H' o (.xd [("value", y)])))
theorem scEndP : FnScope ["self", "name"] ["self", "name"] (defScope mEndP) := ⟨rfl, rfl, rfl, by decide +kernel, rfl, by decide +kernel, by decide +kernel⟩
theorem scOther : FnScope ["self", "name"] ["self", "name"] (defScope mOther) := ⟨rfl, rfl, rfl, by decide +kernel, rfl, by decide +kernel, by decide +kernel⟩
theorem scWordsP : FnScope ["self"] ["self"] (defScope mWordsP) := ⟨rfl, rfl, rfl, by decide +kernel, rfl, by decide +kernel, by decide +kernel⟩
theorem scOwner : FnScope ["self", "word"] ["self", "word"] (defScope mOwner) := ⟨rfl, rfl, rfl, by decide +kernel, rfl, by decide +kernel, by decide +kernel⟩
theorem scLeft : FnScope ["self"] ["self"] (defScope mLeft) := ⟨rfl, rfl, rfl, by decide +kernel, rfl, by decide +kernel, by decide +kernel⟩
theorem scRight : FnScope ["self"] ["self"] (defScope mRight) := ⟨rfl, rfl, rfl, by decide +kernel, rfl, by decide +kernel, by decide +kernel⟩
theorem allR_owners {l r : Eg} (Nl : Neat l) (Nr : Neat r) : AllR (ownersI l r) := fun p hp => by
  unfold ownersI at hp
  rcases List.mem_append.mp hp with m | m
  · obtain ⟨q, hq, rfl⟩ := List.mem_map.mp m
    exact neat_own Nl q hq
  · obtain ⟨q, hq, rfl⟩ := List.mem_map.mp m
    exact neat_own Nr q hq
section
variable {P : Program} {w : World} {K : PySem.W.Frag} {mg : Str → Option Value} {base : Heap} {C CE CP CN fN f : Addr} {fd : FuncData}
theorem ok_endP (F : Fun K "end" "Pact.end" mEndP f fd) (T : ClsP K CP) (UC : UseX P w K mg base 2 "check_name" ["name"] (spCheckN CN)) : FnOk P w K mg base (L2.CX P w) 3 f fd ["self", "name"] (spEndP K C CE CP CN) := by
  refine F.okX scEndP (fun vs H Q E h => h.1) (fun cdv A outer s H vs Q E hr h => ?_)
  obtain ⟨_, x, y, d, l, r, rfl, ⟨a, rfl, hp⟩, hd, good, bad⟩ := h
  refine ⟨_, pss_cons (ps_expr (pe_useX (E := E) UC hr (by decide) (by rfl) (passes_call (takes_of rfl rfl rfl rfl) fun _ _ _ _ h => h) (pa_cons (pv 1) pa_nil)))
    (pss_one (ps_ret (pe_ifExp (pt_cmpR op_eq (pv 1) pe_str (nomark _)) (pe_fld (pv 0) rfl) (pe_fld (pv 0) rfl)))), ?_⟩
  obtain ⟨dx, fs, u, v, dd, ws, h0, h1, h2, h3, h4, f1, f2, f3, fm⟩ := hp.ex
  refine ⟨y, rfl, rfl, y, d, rfl, hd, fun c H1 e1 => ?_, fun c => bad c⟩
  obtain ⟨t, rfl⟩ : ∃ t, d = .str t := by
    cases d with
    | str t => exact ⟨t, rfl⟩
    | _ => cases c
  cases hd
  refine d_ret (P := EndV K C CE (selP l r t)) (p_ife (b := decide (t = "left")) (et_is (et_test (ev_op (ev_var rfl) ev_c (rv_eq rfl))) (str_dec t "left")) (fun z => ?_) fun z => ?_) fun r0 H2 e2 p => good t rfl c r0 H2 (e1.trans e2) p
  · have z := of_decide_eq_true z
    unfold selP
    rw [if_pos z]
    exact .of (ev_fld T.cl T.left (ev_var rfl) (e1 _ _ h0) f1) mo_end (mo_end _ _ _ e1 h1)
  · have z := of_decide_eq_false z
    unfold selP
    rw [if_neg z]
    exact .of (ev_fld T.cl T.right (ev_var rfl) (e1 _ _ h0) f2) mo_end (mo_end _ _ _ e1 h2)
theorem ok_other (F : Fun K "other" "Pact.other" mOther f fd) (UC : UseX P w K mg base 2 "check_name" ["name"] (spCheckN CN)) : FnOk P w K mg base (L2.CX P w) 3 f fd ["self", "name"] (spOther K CP CN) := by
  refine F.okX scOther (fun vs H Q E h => h.1) (fun cdv A outer s H vs Q E hr h => ?_)
  obtain ⟨_, x, y, d, rfl, hd, good, bad⟩ := h
  refine ⟨_, pss_cons (ps_expr (pe_useX (E := E) UC hr (by decide) (by rfl) (passes_call (takes_of rfl rfl rfl rfl) fun _ _ _ _ h => h) (pa_cons (pv 1) pa_nil)))
    (pss_one (ps_ret (pe_ifExp (pt_cmpR op_eq (pv 1) pe_str (nomark _)) pe_str pe_str))), ?_⟩
  refine ⟨y, rfl, rfl, y, d, rfl, hd, fun c H1 e1 => ?_, fun c => bad c⟩
  obtain ⟨t, rfl⟩ : ∃ t, d = .str t := by
    cases d with
    | str t => exact ⟨t, rfl⟩
    | _ => cases c
  cases hd
  refine d_ret (P := Is (.str (othN t))) (p_ife (b := decide (t = "left")) (et_is (et_test (ev_op (ev_var rfl) ev_c (rv_eq rfl))) (str_dec t "left")) (fun z => ?_) fun z => ?_) fun r0 H2 e2 p => by
    rw [show r0 = _ from p]
    exact good t rfl c H2 (e1.trans e2)
  · have z := of_decide_eq_true z
    unfold othN
    rw [if_pos z]
    exact p_c
  · have z := of_decide_eq_false z
    unfold othN
    rw [if_neg z]
    exact p_c
theorem ok_wordsP (F : Fun K "words" "Pact.words" mWordsP f fd) (T : ClsP K CP) (B : Bc mg) (B2 : Bd mg) : FnOk P w K mg base CX0 1 f fd ["self"] (spWordsP K C CE CP) := by
  refine F.ok scWordsP (fun vs H Q E h => h.1) (fun cdv A outer s H vs Q E hr h => ?_)
  obtain ⟨_, x, l, r, rfl, ⟨a, rfl, hp⟩, Nl, Nr, q⟩ := h
  have hu : (A.deeper (envOfC "Pact.words" (defScope mWordsP) s.heap.objs.size f cdv)).units + 64 < cLine := by have := hr.un; omega
  refine ⟨_, pss_one (ps_ret (pe_callBK (cr_sortT hu) (by rfl) B2.sorted (by decide +kernel) (pa_cons (pe_callTy (call_listD rfl) (by rfl) B.list boot_list (pa_cons (pe_fld (pv 0) rfl) pa_nil)) pa_nil) (pk_cons (pe_bltn (v := .ty "str") (by rfl) B.str boot_str rfl) pk_nil))), ?_⟩
  obtain ⟨dx, fs, u, v, dd, ws, h0, h1, h2, h3, h4, f1, f2, f3, fm⟩ := hp.ex
  have lw : (wordsI (ownersI l r)).length ≤ 100 := by
    unfold wordsI
    rw [sortS_len, List.length_map]
    unfold ownersI ownI
    rw [List.length_append, List.length_map, List.length_map]
    have := two_own Nl
    have := two_own Nr
    omega
  refine el_words h4 (allR_owners Nl Nr) (.inl h3) (ev_fld T.cl T.owners (ev_var rfl) h0 f3) H (Ex.refl _) _ fun p H2 hp e2 hl => q (.ref p) H2 e2 (.lst (by rw [List.length_map]; omega) hl ?_)
  have : ∀ l : List Str, DqAll H2 (l.map V.str) (l.map PyData.str) := by
    intro l
    induction l with
    | nil => exact .nil
    | cons s r ih => exact .cons (.str s) ih
  exact this _
theorem ok_owner (F : Fun K "owner" "Pact.owner" mOwner f fd) (T : ClsP K CP) (EN : Err.ErrC K CN fN "value") (mN : mg "BadName" = some (.ref CN)) (UO : Use P w K mg base 1 "is_one_of" ["value", "texts"] (spAsk K 2 (rOneOfD K))) : FnOk P w K mg base (L2.CX P w) 2 f fd ["self", "word"] (spOwner K C CE CP CN) := by
  refine F.okX scOwner (fun vs H Q E h => h.1) (fun cdv A outer s H vs Q E hr h => ?_)
  obtain ⟨_, x, y, d, l, r, rfl, ⟨a, rfl, hp⟩, nd, hd, good, bad⟩ := h
  have hu1 : (A.deeper (envOfC "Pact.owner" (defScope mOwner) s.heap.objs.size f cdv)).units + 1 < cLine := by have := hr.un; omega
  refine ⟨_, pss_cons (ps_if (pt_not (pt_val (pe_use UO hr (by decide) (by rfl) (pa_cons (pv 1) (pa_cons (pe_fld (pv 0) rfl) pa_nil))))) (pss_one (ps_raise rfl (takes_of rfl rfl rfl rfl) (Err.pmk_err EN pf_value (hr.mono (by decide)) mN (by rfl) (pv 1) (fun _ _ _ _ _ _ _ _ _ _ _ _ _ _ => rfl)))) pss_nil)
    (pss_one (ps_ret (pe_dget hu1 (pe_fld (pv 0) rfl) (pv 1) (fun _ _ => rfl)))), ?_⟩
  obtain ⟨dx, fs, u, v, dd, ws, h0, h1, h2, h3, h4, f1, f2, f3, fm⟩ := hp.ex
  refine q_when (et_not (et_B (ev_ask (Ps := [De K d, Is (.ref dd)]) (b := hasW (ownersI l r) d) rfl (ps_cons mo_de (p_var rfl mo_de (dq_dp hd)) (ps_cons mo_is (.of (ev_fld T.cl T.owners (ev_var rfl) h0 f3) mo_is rfl) ps_nil)) fun xs H1 e1 ps => ?ask))) (fun c H1 e1 => ?raise) fun c H1 e1 => ?get
  case ask =>
    match xs, ps with
    | [y, z], ⟨py, pz, _⟩ => exact ⟨y, d, dd, ws, ownersI l r, by rw [show z = _ from pz], py, .inl (e1 _ _ h3), h4.keys, rfl⟩
  case raise => exact ⟨y, rfl, fun o ho => bad (by simpa using c) o H1 e1 ho⟩
  case get =>
    have c : hasW (ownersI l r) d = true := by simpa using c
    obtain ⟨s2, rfl⟩ : ∃ s2, d = .str s2 := by
      cases d with
      | str s2 => exact ⟨s2, rfl⟩
      | _ => cases c
    cases hd
    obtain ⟨v, hv, pv2⟩ := at_run (dd := dd) (h4.up e1) nd c
    exact d_ret (p_dget (k := .inr s2) (ev_fld T.cl T.owners (ev_var rfl) (e1 _ _ h0) f3) (ev_var rfl) (.inl (e1 _ _ h3)) hv mo_itm pv2) fun r0 H2 e2 p => good s2 rfl c r0 H2 (e1.trans e2) p
end
end Chk
set_option maxHeartbeats 4000000
namespace Chk
open PySem PySem.Spec PyProof.Rows L2 Evl Pd Gd Us Wlk
structure NeatP (l r : Eg) : Prop where
  nl : Neat l
  nr : Neat r
  ll : Laid l
  lr : Laid r
  fit : fitW l r = true
theorem NeatP.nd {l r : Eg} (N : NeatP l r) : ((ownersI l r).map (·.1)).Nodup := owners_nodup N.nl N.nr N.fit
def setOf (l r : Eg) (s : Str) : Itm := if hasW l.own (.str s) then getK l.own s else getK r.own s
theorem hasW_owners {l r : Eg} {s : Str} : hasW (ownersI l r) (.str s) = (hasW l.own (.str s) || hasW r.own (.str s)) := by
  show ((ownI "left" l ++ ownI "right" r).any fun p => decide (p.1 = .inr s)) = _
  unfold ownI
  rw [List.any_append, List.any_map, List.any_map]
  rfl
theorem getK_mem {kvs : Its'} (nd : (kvs.map (·.1)).Nodup) {s : Str} {t : Itm} (h : ((.inr s : Key), t) ∈ kvs) : getK kvs s = t := by
  obtain ⟨i, hi, e⟩ := List.getElem_of_mem h
  exact item_at nd (i := i) (by rw [List.getElem?_eq_getElem hi, e])
theorem owner_left {l r : Eg} (N : NeatP l r) {s : Str} (h : hasW l.own (.str s) = true) : getK (ownersI l r) s = .d (.str "left") := by
  obtain ⟨p, hp, e⟩ := List.any_eq_true.mp (show (l.own.any fun p => decide (p.1 = .inr s)) = true from h)
  have e : p.1 = .inr s := of_decide_eq_true e
  exact getK_mem N.nd (List.mem_append_left _ (List.mem_map.mpr ⟨p, hp, by rw [e]⟩))
theorem owner_right {l r : Eg} (N : NeatP l r) {s : Str} (h : hasW r.own (.str s) = true) : getK (ownersI l r) s = .d (.str "right") := by
  obtain ⟨p, hp, e⟩ := List.any_eq_true.mp (show (r.own.any fun p => decide (p.1 = .inr s)) = true from h)
  have e : p.1 = .inr s := of_decide_eq_true e
  exact getK_mem N.nd (List.mem_append_right _ (List.mem_map.mpr ⟨p, hp, by rw [e]⟩))
def newA (l : Eg) (A : Any) (s : Str) : Any := if s = "left" then A else .e l
def newB (r : Eg) (A : Any) (s : Str) : Any := if s = "left" then .e r else A
def spSetP (K : PySem.W.Frag) (C CE CP CN : Addr) : Sp := fun vs H Q E => vs.length = 2 ∧ ∃ x y d l r, vs = [x, y] ∧ PactV K C CE CP l r x H ∧ NeatP l r ∧ Dq H y d ∧
  (∀ s, d = .str s → hasW (ownersI l r) d = true → ∀ v H', Ex H H' → ItmV K C (setOf l r s) v H' → Q v H') ∧ (hasW (ownersI l r) d = false → ∀ o H', Ex H H' → H' o = none → E (.ref CN) (some o) (upd H' o (.xd [("value", y)])))
def spWithEnd (K : PySem.W.Frag) (C CE CP CN CB : Addr) : Sp := fun vs H Q E => vs.length = 3 ∧ ∃ x y z d A l r, vs = [x, y, z] ∧ PactV K C CE CP l r x H ∧ NeatP l r ∧ Dq H y d ∧ AnyV K C CE A z H ∧
  (∀ s, d = .str s → inT namesT d = true → (∀ t, wrongP (newA l A s) (newB r A s) = some t → ∀ o H', Ex H H' → H' o = none → E (.ref CB) (some o) (upd H' o (.xd [("part", V.str t)]))) ∧ ∀ l' r', newA l A s = .e l' → newB r A s = .e r' → fitW l' r' = true → ∀ v H', Ex H H' → PactV K C CE CP l' r' v H' → Q v H') ∧
  (inT namesT d = false → ∀ o H', Ex H H' → H' o = none → E (.ref CN) (some o) (upd H' o (.xd [("value", y)])))
def spEqP (K : PySem.W.Frag) (C CE CP : Addr) : Sp := fun vs H Q _ => vs.length = 2 ∧ ∃ a l r y, vs = [.ref a, y] ∧ PactAt K C CE CP l r a H ∧ NeatP l r ∧ ((∃ b l' r', y = .ref b ∧ PactAt K C CE CP l' r' b H ∧ NeatP l' r' ∧ ∀ H', Ex H H' → Q (.bl (eqE l l' && eqE r r')) H') ∨
  ∃ t, (∀ H1, Ex H H1 → TyX K H1 y t) ∧ PySem.W.kitOne K t (.ref CP) = some false ∧ ∀ H', Ex H H' → Q (.bl false) H')
theorem scSettingP : FnScope ["self", "word"] ["self", "word"] (defScope mSettingP) := ⟨rfl, rfl, rfl, by decide +kernel, rfl, by decide +kernel, by decide +kernel⟩
theorem scWithEnd : FnScope ["self", "name", "end"] ["self", "name", "end"] (defScope mWithEnd) := ⟨rfl, rfl, rfl, by decide +kernel, rfl, by decide +kernel, by decide +kernel⟩
theorem scEqP : FnScope ["self", "other"] ["self", "other"] (defScope mEqP) := ⟨rfl, rfl, rfl, by decide +kernel, rfl, by decide +kernel, by decide +kernel⟩
abbrev psInitP : List Str := ["self", "left", "right"]
section
variable {K : PySem.W.Frag} {C CE CP CB : Addr} {σ : L2.St} {H : Hp} {ta : TA} {E : XK} {A B : Any} {l r : Eg}
/-- Pact(..) of ends that fit -/
theorem p_makeP (h : EvPs ta σ H [AnyV K C CE (.e l), AnyV K C CE (.e r)]) (f : fitW l r = true) : EvP (tMake CP (spInitP K C CE CP CB) [] E ta) σ H (PactV K C CE CP l r) := fun H1 e Q q => h H1 e _ fun xs H2 e2 ps x dx n1 n2 _ => by
  match xs, ps with
  | [u, v], ⟨pu, pv, _⟩ =>
    have up := ex_laid (C := CP) n1 n2
    refine ⟨rfl, x, dx, u, v, .e l, .e r, rfl, upd_same, mo_any _ _ _ up pu, mo_any _ _ _ up pv, fun t ht => ?_, fun l' r' el er _ H3 kp at_ => ⟨rfl, q _ H3 ?_ ⟨x, rfl, ?_⟩⟩⟩
    · rw [wrongP_ee, f] at ht
      cases ht
    · exact e2.trans fun b o eb => kp b o (ne_of_none eb n1) (up b o eb)
    · cases el
      cases er
      exact at_
theorem make_badP {Q : VK} {t : Str} (h : EvPs ta σ H [AnyV K C CE A, AnyV K C CE B]) (bad : wrongP A B = some t) (hE : ∀ d H', Ex H H' → H' d = none → E (.ref CB) (some d) (upd H' d (.xd [("part", V.str t)]))) : tMake CP (spInitP K C CE CP CB) [] E ta σ H Q :=
  h H (Ex.refl H) _ fun xs H2 e2 ps x dx n1 n2 _ => by
    match xs, ps with
    | [u, v], ⟨pu, pv, _⟩ =>
      have up := ex_laid (C := CP) n1 n2
      refine ⟨rfl, x, dx, u, v, A, B, rfl, upd_same, mo_any _ _ _ up pu, mo_any _ _ _ up pv, fun s hs d H3 ex hd => ?_, fun l' r' el er f => ?_⟩
      · rw [bad] at hs
        cases hs
        exact hE d H3 (e2.trans (up.trans ex)) hd
      · subst el er
        rw [wrongP_ee, f] at bad
        cases bad
end
section
variable {P : Program} {w : World} {K : PySem.W.Frag} {mg : Str → Option Value} {base : Heap} {C CE CP CD CN CB CBE fN f : Addr} {fd : FuncData}
theorem ok_settingP (F : Fun K "setting" "Pact.setting" mSettingP f fd) (T : ClsP K CP) (SM : EndM P w K mg base C CE CD CN) (ME : MC P w K mg base CP "end" 3 ["self", "name"] (spEndP K C CE CP CN)) (MO : MC P w K mg base CP "owner" 2 ["self", "word"] (spOwner K C CE CP CN)) : FnOk P w K mg base (L2.CX P w) 4 f fd ["self", "word"] (spSetP K C CE CP CN) := by
  refine F.okX scSettingP (fun vs H Q E h => h.1) (fun cdv A outer s H vs Q E hr h => ?_)
  obtain ⟨_, x, y, d, l, r, rfl, ⟨a, rfl, hp⟩, N, hd, good, bad⟩ := h
  refine ⟨_, pss_one (ps_ret (pe_settingM (E := E) SM hr (by decide) (passes_call (takes_of rfl rfl rfl rfl) fun _ _ _ _ h => h) (pe_mC (E := E) ME T.cl hr (by decide) (passes_call (takes_of rfl rfl rfl rfl) fun _ _ _ _ h => h) (pv 0) (pa_cons (pe_mC (E := E) MO T.cl hr (by decide) (passes_call (takes_of rfl rfl rfl rfl) fun _ _ _ _ h => h) (pv 0) (pa_cons (pv 1) pa_nil)) pa_nil)) (pa_cons (pv 1) pa_nil))), ?_⟩
  obtain ⟨dx, fs, u, v, dd, ws, h0, h1, h2, h3, h4, f1, f2, f3, fm⟩ := id hp.ex
  refine ⟨.ref a, rfl, a, dx, fs, rfl, h0, fm _ (by decide), .ref a, rfl, a, dx, fs, rfl, h0, fm _ (by decide), y, rfl, rfl, .ref a, y, d, l, r, rfl, ⟨a, rfl, hp⟩, N.nd, hd, fun s es c n H1 e1 pn => ?_, fun c o H1 e1 ho => bad c o H1 e1 ho⟩
  subst es
  have hy : y = .str s := by cases hd; rfl
  subst hy
  have c' := c
  rw [hasW_owners, Bool.or_eq_true] at c'
  have sel : ∃ nm, n = .str nm ∧ inT namesT (.str nm) = true ∧ hasW (selP l r nm).own (.str s) = true ∧ getK (selP l r nm).own s = setOf l r s ∧ ((selP l r nm).own.map (·.1)).Nodup := by
    by_cases hl : hasW l.own (.str s) = true
    · rw [owner_left N hl] at pn
      cases pn
      refine ⟨"left", rfl, by decide +kernel, ?_⟩
      have : selP l r "left" = l := if_pos rfl
      rw [this]
      exact ⟨hl, by unfold setOf; rw [if_pos hl], N.nl.so.2.2⟩
    · have hr2 := c'.resolve_left hl
      rw [owner_right N hr2] at pn
      cases pn
      refine ⟨"right", rfl, by decide +kernel, ?_⟩
      have : selP l r "right" = r := if_neg (by decide)
      rw [this]
      exact ⟨hr2, by unfold setOf; rw [if_neg hl], N.nr.so.2.2⟩
  obtain ⟨nm, rfl, hn, hw, hg, hnd⟩ := sel
  refine ⟨rfl, .ref a, .str nm, .str nm, l, r, rfl, ⟨a, rfl, hp.up e1⟩, .str nm, fun s2 es2 _ t H2 e2 pt => ?_, fun z => by rw [hn] at z; cases z⟩
  cases es2
  have key := p_settingM (C := C) (CE := CE) (CN := CN) (E := E) (te := tC t) (ty := tVar 1) (σ := L2.start ["self", "word"] [.ref a, .str s]) (H := H2) (its := (selP l r nm).own) (s := s) (.of ev_c mo_fld (end_own pt)) hnd (ev_var rfl) hw
  exact key H2 (Ex.refl _) _ fun v0 H3 e3 p => good s rfl c v0 H3 (e1.trans (e2.trans e3)) (by rw [← hg]; exact p)
theorem ok_withEnd (F : Fun K "with_end" "Pact.with_end" mWithEnd f fd) (T : ClsP K CP) (mP : mg "Pact" = some (.ref CP)) (UC : UseX P w K mg base 2 "check_name" ["name"] (spCheckN CN)) (MK : ∃ fI fdI, Mk K CP fI ∧ L2.Binds K fdI psInitP [] ∧ FnOk P w K mg base (L2.CX P w) 4 fI fdI psInitP (spInitP K C CE CP CB)) : FnOk P w K mg base (L2.CX P w) 6 f fd ["self", "name", "end"] (spWithEnd K C CE CP CN CB) := by
  refine F.okX scWithEnd (fun vs H Q E h => h.1) (fun cdv A outer s H vs Q E hr h => ?_)
  obtain ⟨_, x, y, z, d, Az, l, r, rfl, ⟨a, rfl, hp⟩, N, hd, hz, good, bad⟩ := h
  obtain ⟨fI, fdI, M, bI, FI⟩ := MK
  refine ⟨_, pss_cons (ps_expr (pe_useX (E := E) UC hr (by decide) (by rfl) (passes_call (takes_of rfl rfl rfl rfl) fun _ _ _ _ h => h) (pa_cons (pv 1) pa_nil)))
    (pss_cons (ps_if (pt_cmpR op_eq (pv 1) pe_str (nomark _)) (pss_one (ps_ret (pe_make (E := E) M FI (hr.mono (by decide)) (by rfl) mP bI .nil (passes_call (takes_of rfl rfl rfl rfl) fun _ _ _ _ h => h) (pa_cons (pv 2) (pa_cons (pe_fld (pv 0) rfl) pa_nil))))) pss_nil)
    (pss_one (ps_ret (pe_make (E := E) M FI (hr.mono (by decide)) (by rfl) mP bI .nil (passes_call (takes_of rfl rfl rfl rfl) fun _ _ _ _ h => h) (pa_cons (pe_fld (pv 0) rfl) (pa_cons (pv 2) pa_nil)))))), ?_⟩
  obtain ⟨dx, fs, u, v, dd, ws, h0, h1, h2, h3, h4, f1, f2, f3, fm⟩ := id hp.ex
  refine ⟨y, rfl, rfl, y, d, rfl, hd, fun c H1 e1 => ?_, fun c => bad c⟩
  obtain ⟨t, rfl⟩ : ∃ t, d = .str t := by
    cases d with
    | str t => exact ⟨t, rfl⟩
    | _ => cases c
  cases hd
  obtain ⟨g1, g2⟩ := good t rfl c
  have fin : ∀ {ta : TA} {Ax Bx : Any} {H2 : Hp}, newA l Az t = Ax → newB r Az t = Bx → Ex H1 H2 → EvPs ta (L2.start ["self", "name", "end"] [.ref a, .str t, z]) H2 [AnyV K C CE Ax, AnyV K C CE Bx] → tRet (tMake CP (spInitP K C CE CP CB) [] E ta) { nx := fun _ H' => Q .non H', rt := Q } (L2.start ["self", "name", "end"] [.ref a, .str t, z]) H2 := fun {ta Ax Bx H2} ea eb e2 hh => by
    cases hw : wrongP Ax Bx with
    | some p =>
      refine make_badP hh hw fun o H3 e3 ho => g1 p (by rw [ea, eb]; exact hw) o H3 (e1.trans (e2.trans e3)) ho
    | none =>
      obtain ⟨l', r', rfl, rfl, ff⟩ := wrongP_none hw
      exact d_ret (p_makeP hh ff) fun v0 H3 e3 p => g2 l' r' ea eb ff v0 H3 (e1.trans (e2.trans e3)) p
  refine q_when (b := decide (t = "left")) (et_is (et_test (ev_op (ev_var rfl) ev_c (rv_eq rfl))) (str_dec t "left")) (fun zz H2 e2 => ?_) fun zz H2 e2 => ?_
  · have zz := of_decide_eq_true zz
    exact fin (Ax := Az) (Bx := .e r) (if_pos zz) (if_pos zz) e2 (ps_cons mo_any (p_var rfl mo_any (mo_any _ _ _ (e1.trans e2) hz)) (ps_cons mo_any (.of (ev_fld T.cl T.right (ev_var rfl) ((e1.trans e2) _ _ h0) f2) mo_any ⟨mo_end _ _ _ (e1.trans e2) h2, N.nr, N.lr⟩) ps_nil))
  · have zz := of_decide_eq_false zz
    exact fin (Ax := .e l) (Bx := Az) (if_neg zz) (if_neg zz) e2 (ps_cons mo_any (.of (ev_fld T.cl T.left (ev_var rfl) ((e1.trans e2) _ _ h0) f1) mo_any ⟨mo_end _ _ _ (e1.trans e2) h1, N.nl, N.ll⟩) (ps_cons mo_any (p_var rfl mo_any (mo_any _ _ _ (e1.trans e2) hz)) ps_nil))
theorem ok_eqP (F : Fun K "__eq__" "Pact.__eq__" mEqP f fd) (B : Bc mg) (mP : mg "Pact" = some (.ref CP)) (T : ClsP K CP) (I : C8.InsC K CP) (SE : EndC P w K mg base C CE CD CBE) : FnOk P w K mg base CX0 4 f fd ["self", "other"] (spEqP K C CE CP) := by
  refine F.ok scEqP (fun vs H Q E h => h.1) (fun cdv A outer s H vs Q E hr h => ?_)
  obtain ⟨_, a, l, r, y, rfl, hp, N, h⟩ := h
  refine ⟨_, pss_one (ps_ret (pe_and (pe_callB call_isi (by rfl) B.isi boot_isinstance (pa_cons (pv 1) (pa_cons (pe_gref (by rfl) mP) pa_nil)))
    (pe_and (pe_cmpR (op_eqEnd SE hr (by decide)) (pe_fld (pv 0) rfl) (pe_fld (pv 1) rfl) (nomark _)) (pe_one (pe_cmpR (op_eqEnd SE hr (by decide)) (pe_fld (pv 0) rfl) (pe_fld (pv 1) rfl) (nomark _)))))), ?_⟩
  have isi : ∀ {t : Value} {b : Bool}, PySem.W.kitOne K t (.ref CP) = some b → (∀ H1, Ex H H1 → TyX K H1 y t) → Ev (tCB (rIsi K) (tCons (tVar 1) (tCons (tC (.ref CP)) tNil))) (L2.start ["self", "other"] [.ref a, y]) H (.bl b) := fun {t b} hk up H1 e Q q =>
    ⟨y, rfl, y, .ref CP, t, .ref CP, b, rfl, .own CP, up H1 e, hk, q H1 (Ex.refl H1)⟩
  obtain ⟨dx, fs, u, v, dd, ws, h0, h1, h2, h3, h4, f1, f2, f3, fm⟩ := id hp.ex
  rcases h with ⟨b, l', r', rfl, hp', N', q⟩ | ⟨t, ty, kt, q⟩
  · obtain ⟨dy, gs, u', v', dd', ws', g0, g1, g2, g3, g4, k1, k2, k3, km⟩ := id hp'.ex
    have ty : ∀ H1, Ex H H1 → TyX K H1 (.ref b) (.ref CP) := fun H1 ex => .base (.ins (ex _ _ g0) T.cl I.ha I.hn I.htk I.hm)
    refine s_ret (ev_is (ev_andV (isi I.me ty) fun _ => ev_andV (ev_ownE (neg := false) (.of (ev_fld T.cl T.left (ev_var rfl) h0 f1) mo_end h1) (.of (ev_fld T.cl T.left (ev_var rfl) g0 k1) mo_end g1) N.nl N'.nl) fun _ => ev_ownE (neg := false) (.of (ev_fld T.cl T.right (ev_var rfl) h0 f2) mo_end h2) (.of (ev_fld T.cl T.right (ev_var rfl) g0 k2) mo_end g2) N.nr N'.nr) ?_) fun H1 e1 => q H1 e1
    rfl
  · exact s_ret (ev_is (ev_andV (a := false) (b := false) (isi kt ty) fun c => by cases c) rfl) fun H1 e1 => q H1 e1
end
end Chk
set_option maxHeartbeats 2000000
/-! The class Pact for those that call it. -/
namespace Chk
open PySem PySem.Spec PyProof.Rows L2 Evl Pd Gd Us Wlk
structure PactC (P : Program) (w : World) (K : PySem.W.Frag) (mg : Str → Option Value) (base : Heap) (C CE CP CN CB : Addr) : Prop where
  mP : mg "Pact" = some (.ref CP)
  T : ClsP K CP
  make : ∃ fI fd, Mk K CP fI ∧ L2.Binds K fd psInitP [] ∧ FnOk P w K mg base (L2.CX P w) 4 fI fd psInitP (spInitP K C CE CP CB)
  left : ∃ p g fd, PropOf K CP "left" p g ∧ L2.Binds K fd ["self"] [] ∧ FnOk P w K mg base CX0 1 g fd ["self"] (getSp CP "_left")
  right : ∃ p g fd, PropOf K CP "right" p g ∧ L2.Binds K fd ["self"] [] ∧ FnOk P w K mg base CX0 1 g fd ["self"] (getSp CP "_right")
  end_ : MC P w K mg base CP "end" 3 ["self", "name"] (spEndP K C CE CP CN)
  other : MC P w K mg base CP "other" 3 ["self", "name"] (spOther K CP CN)
  words : ∃ f fd, Meth K CP "words" f ∧ L2.Binds K fd ["self"] [] ∧ FnOk P w K mg base CX0 1 f fd ["self"] (spWordsP K C CE CP)
  owner : MC P w K mg base CP "owner" 2 ["self", "word"] (spOwner K C CE CP CN)
  setting : MC P w K mg base CP "setting" 4 ["self", "word"] (spSetP K C CE CP CN)
  withE : MC P w K mg base CP "with_end" 6 ["self", "name", "end"] (spWithEnd K C CE CP CN CB)
  eq : ∃ f fd, OwnNe.EqC K CP f ∧ L2.Binds K fd ["self", "other"] [] ∧ FnOk P w K mg base CX0 4 f fd ["self", "other"] (spEqP K C CE CP)
  nl : PySem.W.notFirst K CP (.type "list") = true
  nd : PySem.W.notFirst K CP (.type "dict") = true
section
variable {X : Cx} {C CE CP CN CB : Addr} {e o : Expr} {es : List Expr} {p pos apos : Pos} {ta tb : TE} {t : TA} {j : Nat} {E : XK}
theorem pe_pact (S : PactC X.prog X.w X.K X.mg X.base C CE CP CN CB) (hr : Room j X.A) (hk : 5 ≤ j) (hg : Gl X "Pact") (hx : Passes (L2.CX X.prog X.w) X E) (ha : PA X (e :: es) t)
    (he : starEach (e :: es) X.env = (false, eval e X.env) :: starEach es X.env := by rfl) (hpl : (backTo pos (starEach es X.env)).any (·.1) = false := by rfl) :
    PE X (.Call (.Name "Pact" p) (e :: es) [] pos) (tMake CP (spInitP X.K C CE CP CB) [] E t) := by
  obtain ⟨fI, fd, M, b, F⟩ := S.make
  exact pe_make M F (hr.mono hk) hg S.mP b .nil hx ha (by decide) he hpl
theorem pe_leftP (S : PactC X.prog X.w X.K X.mg X.base C CE CP CN CB) (hr : Room j X.A) (hk : 2 ≤ j) (ho : PE X o ta) (hab : attributeBase o "left" X.env (eval o X.env) = eval o X.env := by rfl) : PE X (.Attribute o "left" pos) (tProp CP (getSp CP "_left") [] (fun _ _ _ => False) ta) := by
  obtain ⟨pp, g, fd, M, b, F⟩ := S.left
  exact pe_prop ho S.T.cl M F (hr.mono hk) b .nil pass0 hab
theorem pe_rightP (S : PactC X.prog X.w X.K X.mg X.base C CE CP CN CB) (hr : Room j X.A) (hk : 2 ≤ j) (ho : PE X o ta) (hab : attributeBase o "right" X.env (eval o X.env) = eval o X.env := by rfl) : PE X (.Attribute o "right" pos) (tProp CP (getSp CP "_right") [] (fun _ _ _ => False) ta) := by
  obtain ⟨pp, g, fd, M, b, F⟩ := S.right
  exact pe_prop ho S.T.cl M F (hr.mono hk) b .nil pass0 hab
theorem pe_wordsPc {pl : Sem Bool} (S : PactC X.prog X.w X.K X.mg X.base C CE CP CN CB) (hr : Room j X.A) (hk : 1 ≤ j) (ho : PE X o ta)
    (ht : eval (.Call (.Attribute o "words" apos) [] [] pos) X.env = (do
      let ov ← eval o X.env
      standAt apos.atName
      let (f, first) ← holding [ov] (getMethod ov "words" pl)
      callWith pos f first (backTo pos (starEach [] X.env)) (backToKw pos (keywordEach [] X.env))) := by rfl) :
    PE X (.Call (.Attribute o "words" apos) [] [] pos) (tMeth CP "words" (spWordsP X.K C CE CP) [] (fun _ _ _ => False) ta tNil) := by
  obtain ⟨f, fd, M, b, F⟩ := S.words
  exact pe_meth0 ho S.T.cl M F (hr.mono hk) b .nil pass0 ht
theorem op_eqPact (S : PactC X.prog X.w X.K X.mg X.base C CE CP CN CB) (hr : Room j X.A) (hk : 4 ≤ j) : OpR X (compareOp .Eq) (OwnNe.rOwn CP (spEqP X.K C CE CP) false) := by
  obtain ⟨f, fd, M, b, F⟩ := S.eq
  exact OwnNe.op_eqOwn F M b (hr.mono hk) S.nl
theorem op_nePact (S : PactC X.prog X.w X.K X.mg X.base C CE CP CN CB) (hr : Room j X.A) (hk : 5 ≤ j) : OpR X (compareOp .NotEq) (OwnNe.rOwn CP (spEqP X.K C CE CP) true) := by
  obtain ⟨f, fd, M, b, F⟩ := S.eq
  exact OwnNe.op_neOwn F M b (hr.mono hk) S.nl
theorem op_eqPactD (S : PactC X.prog X.w X.K X.mg X.base C CE CP CN CB) (hr : Room j X.A) (hk : 4 ≤ j) : OpR X (compareOp .Eq) (OwnNe.rOwnD CP (spEqP X.K C CE CP)) := by
  obtain ⟨f, fd, M, b, F⟩ := S.eq
  exact OwnNe.op_eqOwnD F M b (hr.mono hk) S.nd
end
section
variable {K : PySem.W.Frag} {C CE CP CN CB : Addr} {σ : L2.St} {H : Hp} {te ty tz ta tb : TE} {l r l' r' : Eg} {s : Str} {d : PyData} {E : XK} {A : Any} {Q : VK}
theorem mon_pact : Lw.MoN (PactV K C CE CP l r) := fun _ _ _ e ⟨a, ea, at_⟩ => by
  obtain ⟨dx, fs, x, y, d, vs, h0, h1, h2, h3, h4, rest⟩ := at_.ex
  exact ⟨a, ea, dx, fs, x, y, d, vs, Lw.st_n e h0, Lw.mon_end _ _ _ e h1, Lw.mon_end _ _ _ e h2, Lw.st_n e h3, Lw.items_n e h4, rest⟩
theorem p_leftP (h : EvP te σ H (PactV K C CE CP l r)) : EvP (tProp CP (getSp CP "_left") [] E te) σ H (EndV K C CE l) := fun H1 e1 Q q =>
  h H1 e1 _ fun x H2 e2 ⟨a, ex, at_⟩ => by
    obtain ⟨dx, fs, u, v, dd, ws, h0, h1, h2, h3, h4, f1, f2, f3, fm⟩ := at_.ex
    exact ⟨a, dx, fs, ex, h0, a, dx, fs, u, rfl, h0, f1, q u H2 e2 h1⟩
theorem p_rightP (h : EvP te σ H (PactV K C CE CP l r)) : EvP (tProp CP (getSp CP "_right") [] E te) σ H (EndV K C CE r) := fun H1 e1 Q q =>
  h H1 e1 _ fun x H2 e2 ⟨a, ex, at_⟩ => by
    obtain ⟨dx, fs, u, v, dd, ws, h0, h1, h2, h3, h4, f1, f2, f3, fm⟩ := at_.ex
    exact ⟨a, dx, fs, ex, h0, a, dx, fs, v, rfl, h0, f2, q v H2 e2 h2⟩
theorem p_endP (h : EvP te σ H (PactV K C CE CP l r)) (hs : Ev ty σ H (.str s)) (hn : inT namesT (.str s) = true) : EvP (tMeth CP "end" (spEndP K C CE CP CN) [] E te (tCons ty tNil)) σ H (EndV K C CE (selP l r s)) := fun H1 e1 Q q =>
  h H1 e1 _ fun x H2 e2 ⟨a, ex, at_⟩ => by
    obtain ⟨dx, fs, u, v, dd, ws, h0, h1, h2, h3, h4, f1, f2, f3, fm⟩ := id at_.ex
    exact ⟨a, dx, fs, ex, h0, fm _ (by decide), hs H2 (e1.trans e2) _ fun H3 e3 => ⟨rfl, x, .str s, .str s, l, r, rfl, ⟨a, ex, at_.up e3⟩, .str s, fun t et _ v H4 e4 p => (by cases et; exact q v H4 (e2.trans (e3.trans e4)) p), fun c => (by rw [hn] at c; cases c)⟩⟩
theorem endP_bad (h : EvP te σ H (PactV K C CE CP l r)) (hd : EvP ty σ H (Qe d)) (no : inT namesT d = false) (hE : ∀ y o H', Ex H H' → H' o = none → Dq H' y d → E (.ref CN) (some o) (upd H' o (.xd [("value", y)]))) : tMeth CP "end" (spEndP K C CE CP CN) [] E te (tCons ty tNil) σ H Q :=
  h H (Ex.refl _) _ fun x H2 e2 ⟨a, ex, at_⟩ => by
    obtain ⟨dx, fs, u, v, dd, ws, h0, h1, h2, h3, h4, f1, f2, f3, fm⟩ := id at_.ex
    exact ⟨a, dx, fs, ex, h0, fm _ (by decide), hd H2 e2 _ fun y H3 e3 py => ⟨rfl, x, y, d, l, r, rfl, ⟨a, ex, at_.up e3⟩, py, fun t et c => (by rw [no] at c; cases c), fun _ o H4 e4 ho => hE y o H4 (e2.trans (e3.trans e4)) ho (mo_qe _ _ _ e4 py)⟩⟩
theorem ev_otherP (h : EvP te σ H (PactV K C CE CP l r)) (hs : Ev ty σ H (.str s)) (hn : inT namesT (.str s) = true) : Ev (tMeth CP "other" (spOther K CP CN) [] E te (tCons ty tNil)) σ H (.str (othN s)) := fun H1 e1 Q q =>
  h H1 e1 _ fun x H2 e2 ⟨a, ex, at_⟩ => by
    obtain ⟨dx, fs, u, v, dd, ws, h0, h1, h2, h3, h4, f1, f2, f3, fm⟩ := id at_.ex
    exact ⟨a, dx, fs, ex, h0, fm _ (by decide), hs H2 (e1.trans e2) _ fun H3 e3 => ⟨rfl, x, .str s, .str s, rfl, .str s, fun t et _ H4 e4 => (by cases et; exact q H4 (e2.trans (e3.trans e4))), fun c => (by rw [hn] at c; cases c)⟩⟩
theorem otherP_bad (h : EvP te σ H (PactV K C CE CP l r)) (hd : EvP ty σ H (Qe d)) (no : inT namesT d = false) (hE : ∀ y o H', Ex H H' → H' o = none → Dq H' y d → E (.ref CN) (some o) (upd H' o (.xd [("value", y)]))) : tMeth CP "other" (spOther K CP CN) [] E te (tCons ty tNil) σ H Q :=
  h H (Ex.refl _) _ fun x H2 e2 ⟨a, ex, at_⟩ => by
    obtain ⟨dx, fs, u, v, dd, ws, h0, h1, h2, h3, h4, f1, f2, f3, fm⟩ := id at_.ex
    exact ⟨a, dx, fs, ex, h0, fm _ (by decide), hd H2 e2 _ fun y H3 e3 py => ⟨rfl, x, y, d, rfl, py, fun t et c => (by rw [no] at c; cases c), fun _ o H4 e4 ho => hE y o H4 (e2.trans (e3.trans e4)) ho (mo_qe _ _ _ e4 py)⟩⟩
theorem p_wordsPc (h : EvP te σ H (PactV K C CE CP l r)) (N : NeatP l r) : EvP (tMeth CP "words" (spWordsP K C CE CP) [] E te tNil) σ H (Qe (.list ((wordsI (ownersI l r)).map PyData.str))) := fun H1 e1 Q q =>
  h H1 e1 _ fun x H2 e2 ⟨a, ex, at_⟩ => by
    obtain ⟨dx, fs, u, v, dd, ws, h0, h1, h2, h3, h4, f1, f2, f3, fm⟩ := id at_.ex
    exact ⟨a, dx, fs, ex, h0, fm _ (by decide), rfl, x, l, r, by rw [ex]; rfl, ⟨a, ex, at_⟩, N.nl, N.nr, fun y H3 e3 p => q y H3 (e2.trans e3) p⟩
theorem p_ownerP (h : EvP te σ H (PactV K C CE CP l r)) (N : NeatP l r) (hs : Ev ty σ H (.str s)) (hw : hasW (ownersI l r) (.str s) = true) : EvP (tMeth CP "owner" (spOwner K C CE CP CN) [] E te (tCons ty tNil)) σ H (ItmV K C (getK (ownersI l r) s)) := fun H1 e1 Q q =>
  h H1 e1 _ fun x H2 e2 ⟨a, ex, at_⟩ => by
    obtain ⟨dx, fs, u, v, dd, ws, h0, h1, h2, h3, h4, f1, f2, f3, fm⟩ := id at_.ex
    exact ⟨a, dx, fs, ex, h0, fm _ (by decide), hs H2 (e1.trans e2) _ fun H3 e3 => ⟨rfl, x, .str s, .str s, l, r, rfl, ⟨a, ex, at_.up e3⟩, N.nd, .str s, fun t et _ v H4 e4 p => (by cases et; exact q v H4 (e2.trans (e3.trans e4)) p), fun c => (by rw [hw] at c; cases c)⟩⟩
theorem ownerP_bad (h : EvP te σ H (PactV K C CE CP l r)) (N : NeatP l r) (hd : EvP ty σ H (Qe d)) (no : hasW (ownersI l r) d = false) (hE : ∀ y o H', Ex H H' → H' o = none → Dq H' y d → E (.ref CN) (some o) (upd H' o (.xd [("value", y)]))) : tMeth CP "owner" (spOwner K C CE CP CN) [] E te (tCons ty tNil) σ H Q :=
  h H (Ex.refl _) _ fun x H2 e2 ⟨a, ex, at_⟩ => by
    obtain ⟨dx, fs, u, v, dd, ws, h0, h1, h2, h3, h4, f1, f2, f3, fm⟩ := id at_.ex
    exact ⟨a, dx, fs, ex, h0, fm _ (by decide), hd H2 e2 _ fun y H3 e3 py => ⟨rfl, x, y, d, l, r, rfl, ⟨a, ex, at_.up e3⟩, N.nd, py, fun t et c => (by rw [no] at c; cases c), fun _ o H4 e4 ho => hE y o H4 (e2.trans (e3.trans e4)) ho (mo_qe _ _ _ e4 py)⟩⟩
theorem p_settingP (h : EvP te σ H (PactV K C CE CP l r)) (N : NeatP l r) (hs : Ev ty σ H (.str s)) (hw : hasW (ownersI l r) (.str s) = true) : EvP (tMeth CP "setting" (spSetP K C CE CP CN) [] E te (tCons ty tNil)) σ H (ItmV K C (setOf l r s)) := fun H1 e1 Q q =>
  h H1 e1 _ fun x H2 e2 ⟨a, ex, at_⟩ => by
    obtain ⟨dx, fs, u, v, dd, ws, h0, h1, h2, h3, h4, f1, f2, f3, fm⟩ := id at_.ex
    exact ⟨a, dx, fs, ex, h0, fm _ (by decide), hs H2 (e1.trans e2) _ fun H3 e3 => ⟨rfl, x, .str s, .str s, l, r, rfl, ⟨a, ex, at_.up e3⟩, N, .str s, fun t et _ v H4 e4 p => (by cases et; exact q v H4 (e2.trans (e3.trans e4)) p), fun c => (by rw [hw] at c; cases c)⟩⟩
theorem settingP_bad (h : EvP te σ H (PactV K C CE CP l r)) (N : NeatP l r) (hd : EvP ty σ H (Qe d)) (no : hasW (ownersI l r) d = false) (hE : ∀ y o H', Ex H H' → H' o = none → Dq H' y d → E (.ref CN) (some o) (upd H' o (.xd [("value", y)]))) : tMeth CP "setting" (spSetP K C CE CP CN) [] E te (tCons ty tNil) σ H Q :=
  h H (Ex.refl _) _ fun x H2 e2 ⟨a, ex, at_⟩ => by
    obtain ⟨dx, fs, u, v, dd, ws, h0, h1, h2, h3, h4, f1, f2, f3, fm⟩ := id at_.ex
    exact ⟨a, dx, fs, ex, h0, fm _ (by decide), hd H2 e2 _ fun y H3 e3 py => ⟨rfl, x, y, d, l, r, rfl, ⟨a, ex, at_.up e3⟩, N, py, fun t et c => (by rw [no] at c; cases c), fun _ o H4 e4 ho => hE y o H4 (e2.trans (e3.trans e4)) ho (mo_qe _ _ _ e4 py)⟩⟩
theorem p_withEnd (h : EvP te σ H (PactV K C CE CP l r)) (N : NeatP l r) (hs : Ev ty σ H (.str s)) (hn : inT namesT (.str s) = true) (hz : EvP tz σ H (AnyV K C CE A)) (ea : newA l A s = .e l') (eb : newB r A s = .e r') (f : fitW l' r' = true) : EvP (tMeth CP "with_end" (spWithEnd K C CE CP CN CB) [] E te (tCons ty (tCons tz tNil))) σ H (PactV K C CE CP l' r') := fun H1 e1 Q q =>
  h H1 e1 _ fun x H2 e2 ⟨a, ex, at_⟩ => by
    obtain ⟨dx, fs, u, v, dd, ws, h0, h1, h2, h3, h4, f1, f2, f3, fm⟩ := id at_.ex
    refine ⟨a, dx, fs, ex, h0, fm _ (by decide), hs H2 (e1.trans e2) _ fun H3 e3 => hz H3 (e1.trans (e2.trans e3)) _ fun z H4 e4 pz => ⟨rfl, x, .str s, z, .str s, A, l, r, rfl, ⟨a, ex, at_.up (e3.trans e4)⟩, N, .str s, pz, fun t et _ => ?_, fun c => (by rw [hn] at c; cases c)⟩⟩
    cases et
    refine ⟨fun p hp => ?_, fun l2 r2 e1' e2' _ v H5 e5 p => ?_⟩
    · rw [ea, eb, wrongP_ee, f] at hp
      cases hp
    · rw [ea] at e1'
      rw [eb] at e2'
      cases e1'
      cases e2'
      exact q v H5 (e2.trans (e3.trans (e4.trans e5))) p
theorem withEnd_bad (h : EvP te σ H (PactV K C CE CP l r)) (N : NeatP l r) (hd : EvP ty σ H (Qe d)) (no : inT namesT d = false) (hz : EvP tz σ H (AnyV K C CE A)) (hE : ∀ y o H', Ex H H' → H' o = none → Dq H' y d → E (.ref CN) (some o) (upd H' o (.xd [("value", y)]))) : tMeth CP "with_end" (spWithEnd K C CE CP CN CB) [] E te (tCons ty (tCons tz tNil)) σ H Q :=
  h H (Ex.refl _) _ fun x H2 e2 ⟨a, ex, at_⟩ => by
    obtain ⟨dx, fs, u, v, dd, ws, h0, h1, h2, h3, h4, f1, f2, f3, fm⟩ := id at_.ex
    exact ⟨a, dx, fs, ex, h0, fm _ (by decide), hd H2 e2 _ fun y H3 e3 py => hz H3 (e2.trans e3) _ fun z H4 e4 pz => ⟨rfl, x, y, z, d, A, l, r, rfl, ⟨a, ex, at_.up (e3.trans e4)⟩, N, mo_qe _ _ _ e4 py, pz, fun t et c => (by rw [no] at c; cases c), fun _ o H5 e5 ho => hE y o H5 (e2.trans (e3.trans (e4.trans e5))) ho (mo_qe _ _ _ (e4.trans e5) py)⟩⟩
theorem withEnd_badP {p : Str} (h : EvP te σ H (PactV K C CE CP l r)) (N : NeatP l r) (hs : Ev ty σ H (.str s)) (hn : inT namesT (.str s) = true) (hz : EvP tz σ H (AnyV K C CE A)) (bad : wrongP (newA l A s) (newB r A s) = some p) (hE : ∀ o H', Ex H H' → H' o = none → E (.ref CB) (some o) (upd H' o (.xd [("part", V.str p)]))) : tMeth CP "with_end" (spWithEnd K C CE CP CN CB) [] E te (tCons ty (tCons tz tNil)) σ H Q :=
  h H (Ex.refl _) _ fun x H2 e2 ⟨a, ex, at_⟩ => by
    obtain ⟨dx, fs, u, v, dd, ws, h0, h1, h2, h3, h4, f1, f2, f3, fm⟩ := id at_.ex
    refine ⟨a, dx, fs, ex, h0, fm _ (by decide), hs H2 e2 _ fun H3 e3 => hz H3 (e2.trans e3) _ fun z H4 e4 pz => ⟨rfl, x, .str s, z, .str s, A, l, r, rfl, ⟨a, ex, at_.up (e3.trans e4)⟩, N, .str s, pz, fun t et _ => ?_, fun c => (by rw [hn] at c; cases c)⟩⟩
    cases et
    refine ⟨fun p2 hp o H5 e5 ho => ?_, fun l2 r2 e1' e2' f2' => ?_⟩
    · rw [bad] at hp
      cases hp
      exact hE o H5 (e2.trans (e3.trans (e4.trans e5))) ho
    · rw [e1', e2', wrongP_ee, f2'] at bad
      cases bad
theorem ev_ownP {neg : Bool} (h1 : EvP ta σ H (PactV K C CE CP l r)) (h2 : EvP tb σ H (PactV K C CE CP l' r')) (N : NeatP l r) (N' : NeatP l' r') : Ev (tOp (OwnNe.rOwn CP (spEqP K C CE CP) neg) ta tb) σ H (.bl (if neg then !(eqE l l' && eqE r r') else eqE l l' && eqE r r')) := fun H1 x Q q =>
  h1 H1 x _ fun y H2 e2 p1 => h2 H2 (x.trans e2) _ fun z H3 e3 ⟨b, eb, at2⟩ => by
    obtain ⟨a, rfl, at1⟩ := mo_pact _ _ _ e3 p1
    subst eb
    obtain ⟨dx, fs, u, v, dd, ws, h0, _⟩ := id at1.ex
    obtain ⟨dy, gs, u', v', dd', ws', g0, _⟩ := id at2.ex
    exact ⟨a, dx, fs, rfl, h0, .inl ⟨b, dy, gs, rfl, g0⟩, rfl, a, l, r, .ref b, rfl, at1, N, .inl ⟨b, l', r', rfl, at2, N', fun H4 e4 => ⟨_, rfl, q H4 (e2.trans (e3.trans e4))⟩⟩⟩
/-- a pact beside a dict -/
theorem ev_ownPD {b : Addr} {kvs : List (Key × V)} (h1 : EvP ta σ H (PactV K C CE CP l r)) (h2 : Ev tb σ H (.ref b)) (hb : H b = some (.dK kvs)) (N : NeatP l r) (B : NotB K CP) : Ev (tOp (OwnNe.rOwnD CP (spEqP K C CE CP)) ta tb) σ H (.bl false) := fun H1 x Q q =>
  h1 H1 x _ fun y H2 e2 p1 => h2 H2 (x.trans e2) _ fun H3 e3 => by
    obtain ⟨a, rfl, at1⟩ := mo_pact _ _ _ e3 p1
    obtain ⟨dx, fs, u, v, dd, ws, h0, _⟩ := id at1.ex
    have hb3 := (x.trans (e2.trans e3)) _ _ hb
    exact ⟨a, dx, fs, b, kvs, rfl, h0, rfl, hb3, rfl, a, l, r, .ref b, rfl, at1, N, .inr ⟨.type "dict", fun H4 e4 => .base (.dK (e4 _ _ hb3)), B.dict, fun H4 e4 => ⟨_, rfl, q H4 (e2.trans (e3.trans e4))⟩⟩⟩
end
end Chk
set_option maxHeartbeats 2000000
/-! a BadName, a BadDeed, told -/
namespace Lw
open PySem PySem.Spec PyProof.Rows L2 Evl Pd Gd Us Chk Wlk LamX LamK LamG
section
variable {K : PySem.W.Frag} {a0 a1 a2 a3 a4 a5 a6 a7 a8 a9 : Addr} {σ : L2.St} {H : Hp} {T : TabT} {d : PyData} {t : XK → TE}
/-- a call that raises BadName, told -/
theorem n_name (R : Repable d) (h : ∀ (H1 : Hp) (E : XK) (Q : VK), ExtN H H1 → (∀ y o H', Ex H1 H' → H' o = none → Dq H' y d → E (.ref a3) (some o) (upd H' o (.xd [("value", y)]))) → t E σ H1 Q) :
    EN T (tLam T (TBad K (errs a0 a1 a2 a3 a4 a5 a6 a7 a8 a9)) t) σ H (Qe (.list [.str "name", .str d.shown])) := fun H1 e1 hT Q q => by
  refine ⟨hT, fun H2 e2 T2 => ?_⟩
  refine h H2 _ _ (e1.trans e2) fun y o H3 e3 no3 hy => ?_
  have x1 : Ex H3 (upd H3 o (.xd [("value", y)])) := Ex.new no3
  refine ⟨[⟨a0, "setting", "part", false⟩, ⟨a1, "end", "part", false⟩, ⟨a2, "pact", "part", false⟩], ⟨a3, "name", "value", true⟩, _, o, y, .str d.shown, rfl, rfl, rfl, upd_same, ⟨d, dq_dp (dq_up x1 hy), R, rfl⟩, fun p np => ?_⟩
  have x2 := x1.trans (Ex.new (o := .lst [.str "name", .str d.shown]) np)
  exact q _ _ (e2.trans (ExtN.of (e3.trans x2))) (T2.ext (e3.trans x2)) (.lst (xs := [.str "name", .str d.shown]) (show 2 ≤ 100000 by decide) upd_same (.cons (.str _) (.cons (.str _) .nil)))
/-- a call that raises BadDeed, told -/
theorem n_deed (R : Repable d) (h : ∀ (H1 : Hp) (E : XK) (Q : VK), ExtN H H1 → (∀ y o H', Ex H1 H' → H' o = none → Dq H' y d → E (.ref a4) (some o) (upd H' o (.xd [("value", y)]))) → t E σ H1 Q) :
    EN T (tLam T (TBad K (errs a0 a1 a2 a3 a4 a5 a6 a7 a8 a9)) t) σ H (Qe (.list [.str "deed", .str d.shown])) := fun H1 e1 hT Q q => by
  refine ⟨hT, fun H2 e2 T2 => ?_⟩
  refine h H2 _ _ (e1.trans e2) fun y o H3 e3 no3 hy => ?_
  have x1 : Ex H3 (upd H3 o (.xd [("value", y)])) := Ex.new no3
  refine ⟨[⟨a0, "setting", "part", false⟩, ⟨a1, "end", "part", false⟩, ⟨a2, "pact", "part", false⟩, ⟨a3, "name", "value", true⟩], ⟨a4, "deed", "value", true⟩, _, o, y, .str d.shown, rfl, rfl, rfl, upd_same, ⟨d, dq_dp (dq_up x1 hy), R, rfl⟩, fun p np => ?_⟩
  have x2 := x1.trans (Ex.new (o := .lst [.str "deed", .str d.shown]) np)
  exact q _ _ (e2.trans (ExtN.of (e3.trans x2))) (T2.ext (e3.trans x2)) (.lst (xs := [.str "deed", .str d.shown]) (show 2 ≤ 100000 by decide) upd_same (.cons (.str _) (.cons (.str _) .nil)))
end
end Lw
set_option maxHeartbeats 4000000
/-! dict(xs) of a list of pairs (key, value), the keys tuples. -/
namespace DicT
open PySem PySem.Spec PyProof.Rows L2 Evl Pd Chk
def mergeT (k0 kvs : List (List Key × V)) : List (List Key × V) := kvs.foldl (fun acc kv => putK acc kv.1 kv.2) k0
/-- the pair at p: the key's own tuple, and its value -/
def PairT (H : Hp) (p : Addr) (kv : List Key × V) : Prop := ∃ b, H p = some (.tup [.ref b, kv.2]) ∧ H b = some (.tup (kv.1.map kV))
theorem length_mergeT : ∀ (more kvs : List (List Key × V)), (mergeT kvs more).length ≤ kvs.length + more.length
  | [], kvs => Nat.le_refl _
  | p :: r, kvs => by
    have a := length_mergeT r (putK kvs p.1 p.2)
    have b := length_putK kvs p.1 p.2
    show (mergeT (putK kvs p.1 p.2) r).length ≤ _
    rw [List.length_cons]
    omega
theorem kt_all {H : Hp} : ∀ {more : List (List Key × V)} {ts : List (List Key × Addr × Value)} {kvs : List (List Key × V)} {xs : List (List Key × Addr × Value)}, KT H more ts → KT H kvs xs → KT H (mergeT kvs more) (storedAllH xs ts) := by
  intro more ts kvs xs r
  unfold KT at r
  induction r generalizing kvs xs with
  | nil => exact fun z => z
  | @cons p q ps qs h t ih =>
    intro z
    have e : KT H (putK kvs p.1 p.2) (storedH xs q.1 q.2.1 q.2.2) := by
      have := z.put p.1 h.2.1 h.2.2
      rwa [← h.1]
    exact ih e
theorem kt_keys {H : Hp} {kvs : List (List Key × V)} {ts : List (List Key × Addr × Value)} (r : KT H kvs ts) {t : List Key × Addr × Value} (ht : t ∈ ts) : ∃ ks : List Key, H t.2.1 = some (.tup (ks.map kV)) ∧ ks = t.1 := by
  unfold KT at r
  induction r with
  | nil => cases ht
  | cons h _ ih =>
    rcases List.mem_cons.mp ht with rfl | ht
    · exact ⟨_, h.2.1, h.1⟩
    · exact ih ht
section
variable {X : Cx} {pins : List (Addr × Obj)} {σ : L2.St} {H : Hp} {s : Shared}
theorem pairs_at (I : Inv X pins σ H s) : ∀ {ps : List Addr} {kvs : List (List Key × V)}, Paired (PairT H) ps kvs → ∃ ts : List (List Key × Addr × Value), KT H kvs ts ∧ ts.length = ps.length ∧
    ∀ (j : Nat) (q : List Key × Addr × Value), ts[j]? = some q → ∃ b, ps[j]? = some b ∧ s.heap.IsTuple b #[.ref q.2.1, q.2.2]
  | _, _, .nil => ⟨[], .nil, rfl, fun j q e => by simp at e⟩
  | _, _, .cons (a := p) (b := kv) ⟨b, h1, h2⟩ t => by
    obtain ⟨ts, r, hl, hp⟩ := pairs_at I t
    obtain ⟨its, rv, ht, _⟩ := I.tuple (st_of (K := X.K) h1)
    obtain ⟨u, y, ei, ru, ry⟩ := vals2 rv
    subst ei
    obtain rfl : u = Value.ref b := ru
    refine ⟨(kv.1, b, y) :: ts, .cons ⟨rfl, h2, ry⟩ r, by rw [List.length_cons, List.length_cons, hl], fun j q e => ?_⟩
    cases j with
    | zero =>
      cases (show some (kv.1, b, y) = some q from e)
      obtain ⟨o, a1, a2, n, a3⟩ := ht
      exact ⟨p, rfl, o, a1, a2, n, a3⟩
    | succ j =>
      obtain ⟨c, e1, e2⟩ := hp j q (by simpa using e)
      exact ⟨c, by simpa using e1, e2⟩
def rDictT (K : PySem.W.Frag) : List V → Hp → VK → Prop := fun xs H Q => ∃ (a : Addr) (ps : List Addr) (kvs : List (List Key × V)), xs = [.ref a] ∧ SqL K H a (ps.map V.ref) ∧ Paired (PairT H) ps kvs ∧ ∀ p, H p = none → Q (.ref p) (upd H p (.dT (mergeT [] kvs)))
theorem call_dictT (hcalm : X.calm = true) (hu : X.A.units + 3 < cLine) : CallR X (.type "dict") (rDictT X.K) := by
  intro pins s σ H xs us Q I r h
  obtain ⟨a, ps, kvs, rfl, hq, hp, q⟩ := h
  obtain ⟨u, rfl, ru⟩ := vals1 r
  cases ru
  obtain ⟨its, rv, pl, hz⟩ := I.list hq
  have ei := refs_at rv
  subst ei
  rw [List.length_map] at hz
  obtain ⟨ts, rel, hl, hpr⟩ := pairs_at I hp
  have items : PairItems s.heap (ps.map Value.ref).toArray (fun j => ps.getD j 0) (ts.map fun t => (Value.ref t.2.1, t.2.2)) := by
    refine ⟨by simp [hl], fun j k v e => ?_⟩
    rw [List.getElem?_map] at e
    obtain ⟨t, ht, et⟩ := Option.map_eq_some_iff.mp e
    cases et
    obtain ⟨b, e1, e2⟩ := hpr j t ht
    have g : ps.getD j 0 = b := by rw [List.getD_eq_getElem?_getD, e1]; rfl
    refine ⟨by simp [e1, List.getD_eq_getElem?_getD], ?_⟩
    show PairAt s.heap (ps.getD j 0) _ _
    rw [g]
    exact .inl e2
  have keys := fun t ht => kt_keys rel (t := t) ht
  refine call_dict_pairsH (knd := tupleKind (mixKind X.prog X.w)) (ps := ts) (PairArg.list a _ _ _) (I.ok.hd hcalm) (show X.A.units + 1 + 1 < cLine by omega) ⟨pl, items⟩ ⟨by rw [List.length_map], fun i key v e => ?_⟩ (fun h' hk t ht => ?_) (by rw [List.length_map, hl]; exact hz) fun h' tk dd hk => ?_
  · have e2 : (ts.map fun t => (Value.ref t.2.1, t.2.2))[i]? = some (key, v) := e
    rw [List.getElem?_map] at e2
    obtain ⟨t, ht, et⟩ := Option.map_eq_some_iff.mp e2
    cases et
    exact ⟨t.1, t.2.1, by rw [ht], rfl⟩
  · obtain ⟨ks, hb, rfl⟩ := keys t ht
    obtain ⟨o, it, n, c1, c2⟩ := key_of (P := X.prog) (w := X.w) I.hok hb
    exact ⟨o, it, n, hk _ _ (Nat.ne_of_lt (Heap.lt_size c1)) (fun z => by cases z) c1, c2⟩
  · have hm : (s.heap.objs.size == sysModules) = false := beq_eq_false_iff_ne.mpr (Nat.ne_of_gt I.big)
    have ln : (mergeT [] kvs).length ≤ sizeLine := by
      refine Nat.le_trans (length_mergeT kvs []) ?_
      have : kvs.length = ts.length := Paired.length rel
      rw [List.length_nil, Nat.zero_add, this, hl]
      exact hz
    have fr : H s.heap.objs.size = none := I.hok.fresh (Nat.le_refl _)
    obtain ⟨o, es, ep, d1, d2, d3, d4, _, d5⟩ := dd
    have new : ObjOk X.prog X.w (upd H s.heap.objs.size (.dT (mergeT [] kvs))) h' s.heap.objs.size (.dT (mergeT [] kvs)) :=
      ⟨ln, hm, storedAllH [] ts, (kt_all rel .nil).keeps fun c ys ec => by rw [upd_ne (ne_of_none ec fr)]; exact ec, o, es, ep, d1, d2, d3, d4, d5⟩
    exact ⟨.ref s.heap.objs.size, _, I.laid (t' := tk) (fun b o e => hk b o (fun z => by cases z) e) (Nat.le_refl _) new, rfl, q _ fr⟩
end
/-- all values the same -/
def sames (v : V) (ks : List (List Key)) : List (List Key × V) := ks.map fun k => (k, v)
theorem put_same (v : V) (ks : List (List Key)) (k : List Key) : putK (sames v ks) k v = sames v (addK ks k) := by
  unfold putK addK sames
  rw [List.any_map]
  by_cases h : (ks.any fun x => decide (x = k)) = true
  · rw [if_pos h, if_pos (show (ks.any ((fun kv : List Key × V => decide (kv.1 = k)) ∘ fun k => (k, v))) = true from h), List.map_map]
    refine List.map_congr_left fun x hx => ?_
    show (if x = k then (x, v) else (x, v)) = (x, v)
    split <;> rfl
  · rw [if_neg h, if_neg (show ¬ (ks.any ((fun kv : List Key × V => decide (kv.1 = k)) ∘ fun k => (k, v))) = true from h), List.map_append]
    rfl
theorem merge_same (v : V) (ks : List (List Key)) : mergeT [] (sames v ks) = sames v (onceK ks) := by
  have : ∀ (l acc : List (List Key)), mergeT (sames v acc) (sames v l) = sames v (l.foldl addK acc) := by
    intro l
    induction l with
    | nil => intro acc; rfl
    | cons k l ih =>
      intro acc
      show mergeT (putK (sames v acc) k v) (sames v l) = _
      rw [put_same, ih]
      rfl
  exact this ks []
theorem isKeys_same {H : Hp} {v : V} : ∀ {ks : List (List Key)} {bs : List Addr}, IsKeys H (sames v ks) bs → DqAll H (bs.map V.ref) (ks.map Chk.pairD)
  | [], _, h => by
    cases h
    exact .nil
  | k :: ks, _, h => by
    cases h with
    | cons a t => exact .cons (.tup a (dq_keys k)) (isKeys_same t)
end DicT
set_option maxHeartbeats 4000000
namespace Lw
open PySem PySem.Spec PyProof.Rows L2 Evl Pd Gd Us Chk Wlk
/-- pairs, each once, sorted -/
def eachD (ds : List PyData) : PyData := .list (sortD ((onceK (ds.map keyOf)).map Chk.pairD))
end Lw
set_option maxHeartbeats 1000000
/-! What with_pairs makes of an end's pairs, over the finite. -/
namespace Chk
open PySem PySem.Spec PyProof.Rows L2 Evl Pd Gd Us Wlk
theorem txtLe_trans {β : Type} (f : β → Str) (a b c : β) (h1 : PySem.W.dataLe false (fun b => PyData.str (f b)) a b = true) (h2 : PySem.W.dataLe false (fun b => PyData.str (f b)) b c = true) : PySem.W.dataLe false (fun b => PyData.str (f b)) a c = true := by
  rw [PySem.W.dataLe_str] at *
  simp only [decide_eq_true_eq] at *
  exact List.le_trans h1 h2
theorem txtLe_total {β : Type} (f : β → Str) (a b : β) : (PySem.W.dataLe false (fun b => PyData.str (f b)) a b || PySem.W.dataLe false (fun b => PyData.str (f b)) b a) = true := by
  rw [PySem.W.dataLe_str]
  simp only [Bool.or_eq_true, decide_eq_true_eq]
  exact List.le_total _ _
theorem sortD_pw (ds : List PyData) : (sortD ds).Pairwise (fun a b => PySem.W.dataLe false (fun d => PyData.str (txt d)) a b = true) := List.pairwise_mergeSort (txtLe_trans txt) (txtLe_total txt) ds
theorem sortD_idem (ds : List PyData) : sortD (sortD ds) = sortD ds := List.mergeSort_of_pairwise (sortD_pw ds)
theorem sortS_pw (ss : List Str) : (sortS ss).Pairwise (fun a b => leS a b = true) := List.pairwise_mergeSort (txtLe_trans id) (txtLe_total id) ss
theorem sortS_idem (ss : List Str) : sortS (sortS ss) = sortS ss := List.mergeSort_of_pairwise (sortS_pw ss)
theorem key_pair {k : List Key} (h : OkPair k) : keyOf (pairD k) = k := by
  obtain ⟨i, j, rfl, _⟩ := h
  rfl
theorem keys_pairs {ks : List (List Key)} (h : ∀ k ∈ ks, OkPair k) : (ks.map pairD).map keyOf = ks := by
  rw [List.map_map]
  exact (List.map_congr_left fun k hk => key_pair (h k hk)).trans (List.map_id _)
/-- pairs that were told, told again -/
theorem told_again {ks : List (List Key)} (h : ∀ k ∈ ks, OkPair k) (n : ks.Nodup) : sortD ((onceK ((sortD (ks.map pairD)).map keyOf)).map pairD) = sortD (ks.map pairD) := by
  have p : ((sortD (ks.map pairD)).map keyOf).Perm ks := by
    have := (List.mergeSort_perm (ks.map pairD) (PySem.W.dataLe false fun d => PyData.str (txt d))).map keyOf
    rw [keys_pairs h] at this
    exact this
  rw [once_of_nodup (p.nodup_iff.mpr n), List.map_map]
  have e : (sortD (ks.map pairD)).map (pairD ∘ keyOf) = sortD (ks.map pairD) := by
    refine (List.map_congr_left fun d hd => ?_).trans (List.map_id _)
    obtain ⟨k, hk, rfl⟩ := List.mem_map.mp (sortD_mem.mp hd)
    show pairD (keyOf (pairD k)) = pairD k
    rw [key_pair (h k hk)]
  rw [e]
  exact sortD_idem _
/-- what pairs() tells -/
def tells (rs : Its') (s : Str) : PyData := match pairsOf rs s with
  | none => .none
  | some ks => .list (sortD (ks.map pairD))
def eachO : PyData → PyData
  | .list ds => Lw.eachD ds
  | _ => .none
theorem ksOf_dt {t : Itm} {ks : List (List Key)} (h : t = .dt ks) : ksOf t = ks := by rw [h]; rfl
theorem find_rulesI (l : Its') (o : Str) : pairsOf (rulesI l) o = (l.find? fun p => decide (p.1 = .inr o)).map fun p => onceK (keysOf (dataI p.2)) := by
  unfold pairsOf rulesI
  rw [List.find?_map, Option.map_map]
  rfl
theorem tells_with {e : Eg} {s o : Str} {d : PyData} (N : Neat e) : tells (withE e s d).rules o = if o = s then (match d with | .none => .none | d => .list (sortD ((onceK (keysOf d)).map pairD))) else tells e.rules o := by
  show tells (rulesI (argsI e.rules s ++ newI s d)) o = _
  unfold tells
  rw [find_rulesI, List.find?_append]
  by_cases c : o = s
  · subst c
    rw [if_pos rfl]
    have no : (argsI e.rules o).find? (fun p => decide (p.1 = .inr o)) = none := by
      rw [List.find?_eq_none]
      intro p hp z
      obtain ⟨q, hq, rfl⟩ := List.mem_map.mp hp
      have := (List.mem_filter.mp hq).2
      unfold isDeed at this
      rw [z] at this
      cases this
    rw [no]
    cases d <;> simp [newI, dataI]
  · rw [if_neg c]
    have no : (newI s d).find? (fun p => decide (p.1 = .inr o)) = none := by
      rw [List.find?_eq_none]
      intro p hp z
      have : p.1 = .inr s := by
        cases d <;> simp [newI] at hp <;> rw [hp]
      rw [this] at z
      have z := of_decide_eq_true z
      injection z with z
      exact c z.symm
    rw [no, Option.or_none]
    unfold argsI
    rw [List.find?_map, Option.map_map, List.find?_filter]
    have ff : (fun a : Key × Itm => decide (isDeed s a = true ∧ decide ((fun p => p.1 = (.inr o : Key)) ((fun p : Key × Itm => (p.1, listI p.2)) a)) = true)) = fun p => decide (p.1 = .inr o) := by
      funext p
      unfold isDeed
      by_cases z : p.1 = .inr o
      · have : ¬ p.1 = .inr s := fun y => by
          rw [z] at y
          injection y with y
          exact c y
        simp [z, c]
      · simp [z]
    have e1 : (e.rules.find? fun a => decide (isDeed s a = true ∧ ((fun p : Key × Itm => decide (p.1 = (.inr o : Key))) ∘ fun p : Key × Itm => (p.1, listI p.2)) a = true)) = e.rules.find? fun p => decide (p.1 = .inr o) := by
      congr 1
    rw [e1]
    unfold pairsOf
    cases hf : e.rules.find? (fun p => decide (p.1 = .inr o)) with
    | none => rfl
    | some p =>
      obtain ⟨ks, e2, l2, k2, n2⟩ := (N.rules p (List.mem_of_find?_eq_some hf)).pairs
      show PyData.list (sortD ((onceK ((sortD ((ksOf p.2).map pairD)).map keyOf)).map pairD)) = .list (sortD ((ksOf p.2).map pairD))
      rw [ksOf_dt e2, told_again k2 n2]
/-- pairs told are pairs -/
theorem tells_end {l : Its'} {o : Str} : tells (rulesI l) o = match (l.find? fun p => decide (p.1 = .inr o)) with
  | none => .none
  | some p => .list (sortD ((onceK (keysOf (dataI p.2))).map pairD)) := by
  unfold tells
  rw [find_rulesI]
  cases l.find? (fun p => decide (p.1 = .inr o)) <;> rfl
theorem ord_idem {kvs : Its'} (hn : (kvs.map (·.1)).Nodup) (hr : AllR kvs) : ordI (ordI kvs) = ordI kvs := by
  have w : wordsI (ordI kvs) = wordsI kvs := by
    have : (ordI kvs).map (fun p => keyS p.1) = wordsI kvs := by
      unfold ordI
      rw [List.map_map]
      exact (List.map_congr_left fun _ _ => rfl).trans (List.map_id _)
    show sortS ((ordI kvs).map fun p => keyS p.1) = _
    rw [this]
    exact sortS_idem _
  have n2 : ((ordI kvs).map (·.1)).Nodup := (((ord_perm hn hr).map (·.1)).nodup_iff).mpr hn
  show (wordsI (ordI kvs)).map (fun w => ((Sum.inr w : Key), itemAt (ordI kvs) (.inr w))) = ordI kvs
  rw [w]
  refine List.map_congr_left fun x hx => ?_
  obtain ⟨i, hi, rfl⟩ := List.getElem_of_mem hx
  have : (ordI kvs)[i]? = some (.inr (wordsI kvs)[i], itemAt kvs (.inr (wordsI kvs)[i])) := by
    unfold ordI
    rw [List.getElem?_map, List.getElem?_eq_getElem hi]
    rfl
  rw [item_at n2 this]
/-- its words are in their order -/
structure Std (e : Eg) : Prop where
  own : ordI e.own = e.own
  uses : ordI e.uses = e.uses
theorem own_with {e : Eg} {s : Str} {d : PyData} (S : Std e) : (withE e s d).own = e.own ∧ (withE e s d).uses = e.uses ∧ (withE e s d).most = e.most := ⟨S.own, S.uses, rfl⟩
theorem std_with {e : Eg} {s : Str} {d : PyData} (S : Std e) : Std (withE e s d) := ⟨by rw [(own_with S).1]; exact S.own, by rw [(own_with S).2.1]; exact S.uses⟩
/-! ### two ends with the same parts -/
theorem itm_self {t : Itm} (h : (∃ g, t = .set g) ∨ ∃ s : Str, t = .d (.str s)) : eqItm t t = true := by
  rcases h with ⟨g, rfl⟩ | ⟨s, rfl⟩
  · exact EqE.eqS_self g
  · show (s == s) = true
    simp
theorem eqI_self {ks : Its'} (hn : (ks.map (·.1)).Nodup) (h : ∀ p ∈ ks, eqItm p.2 p.2 = true) : eqI ks ks = true := by
  unfold eqI
  rw [Bool.and_eq_true, List.all_eq_true]
  refine ⟨by simp, fun p hp => ?_⟩
  obtain ⟨i, hi, rfl⟩ := List.getElem_of_mem hp
  rw [item_at hn (i := i) (k := ks[i].1) (t := ks[i].2) (List.getElem?_eq_getElem hi), h _ hp, Bool.and_true]
  exact List.any_eq_true.mpr ⟨ks[i], hp, by simp⟩
theorem tells_none {rs : Its'} {o : Str} : tells rs o = .none ↔ (.inr o : Key) ∉ rs.map (·.1) := by
  unfold tells pairsOf
  cases hf : rs.find? (fun p => decide (p.1 = .inr o)) with
  | none =>
    rw [List.find?_eq_none] at hf
    refine ⟨fun _ z => ?_, fun _ => rfl⟩
    obtain ⟨p, hp, e⟩ := List.mem_map.mp z
    exact hf p hp (by simpa using e)
  | some p =>
    refine ⟨fun z => (nomatch z), fun z => absurd (List.mem_map.mpr ⟨p, List.mem_of_find?_eq_some hf, ?_⟩) z⟩
    have := List.find?_some hf
    exact of_decide_eq_true this
theorem tells_at {rs : Its'} (hn : (rs.map (·.1)).Nodup) {o : Str} {ks : List (List Key)} (h : ((.inr o : Key), Itm.dt ks) ∈ rs) : tells rs o = .list (sortD (ks.map pairD)) ∧ itemAt rs (.inr o) = .dt ks := by
  obtain ⟨i, hi, e⟩ := List.getElem_of_mem h
  have h2 := item_at hn (i := i) (k := .inr o) (t := .dt ks) (by rw [List.getElem?_eq_getElem hi, e])
  refine ⟨?_, h2⟩
  unfold tells pairsOf
  unfold itemAt at h2
  cases hf : rs.find? (fun p => decide (p.1 = .inr o)) with
  | none => rw [hf] at h2; cases h2
  | some p =>
    rw [hf] at h2
    have h2 : p.2 = .dt ks := h2
    show PyData.list (sortD ((ksOf p.2).map pairD)) = _
    rw [ksOf_dt h2]
theorem eqK_perm {ks ls : List (List Key)} (h : ks.Perm ls) : eqK ks ls = true := by
  unfold eqK
  rw [Bool.and_eq_true, List.all_eq_true]
  exact ⟨by simp [h.length_eq], fun k hk => List.any_eq_true.mpr ⟨k, h.mem_iff.mp hk, by simp⟩⟩
theorem perm_of_sorted {ks ls : List (List Key)} (h1 : ∀ k ∈ ks, OkPair k) (h2 : ∀ k ∈ ls, OkPair k) (h : sortD (ks.map pairD) = sortD (ls.map pairD)) : ks.Perm ls := by
  have p1 := (List.mergeSort_perm (ks.map pairD) (PySem.W.dataLe false fun d => PyData.str (txt d))).map keyOf
  have p2 := (List.mergeSort_perm (ls.map pairD) (PySem.W.dataLe false fun d => PyData.str (txt d))).map keyOf
  rw [keys_pairs h1] at p1
  rw [keys_pairs h2] at p2
  have e : ((ks.map pairD).mergeSort (PySem.W.dataLe false fun d => PyData.str (txt d))) = (ls.map pairD).mergeSort (PySem.W.dataLe false fun d => PyData.str (txt d)) := h
  rw [e] at p1
  exact p1.symm.trans p2
theorem rules_perm {e e' : Eg} (N : Neat e) (N' : Neat e') (h : ∀ o ∈ deedsT, tells e.rules o = tells e'.rules o) : ∀ k ∈ e.rules.map (·.1), k ∈ e'.rules.map (·.1) := fun k hk => by
  obtain ⟨p, hp, rfl⟩ := List.mem_map.mp hk
  obtain ⟨o, eo, ho⟩ := (N.rules p hp).deed
  rw [eo]
  refine Classical.byContradiction fun z => ?_
  have := tells_none.mpr z
  rw [← h o ho] at this
  exact tells_none.mp this (by rw [← eo]; exact hk)
theorem eqE_of {e e' : Eg} (N : Neat e) (N' : Neat e') (ho : e.own = e'.own) (hu : e.uses = e'.uses) (hm : e.most = e'.most) (h : ∀ o ∈ deedsT, tells e.rules o = tells e'.rules o) : eqE e e' = true := by
  unfold eqE
  rw [← ho, ← hu, eqI_self N.so.2.2 (fun p hp => itm_self (.inl (N.sets p hp))), eqI_self N.su.2.2 (fun p hp => itm_self (.inr (let ⟨s, h1, _⟩ := N.strs p hp; ⟨s, h1⟩))), decide_eq_true hm, Bool.and_true, Bool.true_and, Bool.true_and]
  unfold eqI
  have a1 := rules_perm N N' h
  have a2 := rules_perm N' N fun o ho => (h o ho).symm
  have l1 := nodup_len N.nr a1
  have l2 := nodup_len N'.nr a2
  rw [List.length_map, List.length_map] at l1 l2
  rw [Bool.and_eq_true, List.all_eq_true]
  refine ⟨by simp; omega, fun p hp => ?_⟩
  obtain ⟨q, hq, eq⟩ := List.mem_map.mp (a1 p.1 (List.mem_map.mpr ⟨p, hp, rfl⟩))
  obtain ⟨o, eo, hd⟩ := (N.rules p hp).deed
  obtain ⟨ks, e2, _, k2, n2⟩ := (N.rules p hp).pairs
  obtain ⟨ls, e3, _, k3, n3⟩ := (N'.rules q hq).pairs
  have t1 := tells_at N.nr (o := o) (ks := ks) (by rw [← eo, ← e2]; exact hp)
  have t2 := tells_at N'.nr (o := o) (ks := ls) (by rw [← eo, ← eq, ← e3]; exact hq)
  rw [Bool.and_eq_true]
  refine ⟨List.any_eq_true.mpr ⟨q, hq, by simp [eq]⟩, ?_⟩
  rw [eo, t2.2, e2]
  have := h o hd
  rw [t1.1, t2.1] at this
  injection this with this
  exact eqK_perm (perm_of_sorted k2 k3 this)
/-! ### what was told, put back -/
theorem tells_form {e : Eg} (N : Neat e) (o : Str) : tells e.rules o = .none ∨ ∃ ks : List (List Key), tells e.rules o = .list (sortD (ks.map pairD)) ∧ (∀ k ∈ ks, OkPair k) ∧ ks.Nodup ∧ ks.length ≤ 30000 := by
  unfold tells pairsOf
  cases hf : e.rules.find? (fun p => decide (p.1 = .inr o)) with
  | none => exact .inl rfl
  | some p =>
    obtain ⟨ks, e2, l2, k2, n2⟩ := (N.rules p (List.mem_of_find?_eq_some hf)).pairs
    refine .inr ⟨ks, ?_, k2, n2, l2⟩
    show PyData.list (sortD ((ksOf p.2).map pairD)) = _
    rw [ksOf_dt e2]
theorem tells_ok {e : Eg} (N : Neat e) (o : Str) : okD (tells e.rules o) = true ∧ Few (tells e.rules o) ∧ Short (tells e.rules o) := by
  rcases tells_form N o with h | ⟨ks, h, k2, n2, l2⟩
  · rw [h]
    exact ⟨rfl, fun _ z => (nomatch z), fun _ z => nomatch z⟩
  · rw [h]
    refine ⟨List.all_eq_true.mpr fun d hd => ?_, fun _ z => (nomatch z), fun ds z => ?_⟩
    · obtain ⟨k, hk, rfl⟩ := List.mem_map.mp (sortD_mem.mp hd)
      exact pair_isPair (k2 k hk)
    · cases z
      rw [sortD_len, List.length_map]
      exact l2
theorem tells_put {e e0 : Eg} {s : Str} (N : Neat e) (N0 : Neat e0) : tells (withE e s (tells e0.rules s)).rules s = tells e0.rules s := by
  rw [tells_with N, if_pos rfl]
  rcases tells_form N0 s with h | ⟨ks, h, k2, n2, l2⟩
  · rw [h]
  · rw [h]
    show PyData.list (sortD ((onceK ((sortD (ks.map pairD)).map keyOf)).map pairD)) = _
    rw [told_again k2 n2]
theorem tells_new {e : Eg} {s : Str} {ds : List PyData} (N : Neat e) : tells (withE e s (.list ds)).rules s = Lw.eachD ds := by
  rw [tells_with N, if_pos rfl]
  rfl
theorem sortD_one (d : PyData) : sortD [d] = [d] := by
  unfold sortD
  exact List.mergeSort_singleton d
theorem each_one (i j : Int) : Lw.eachD [Lw.pr i j] = .list [Lw.pr i j] := by
  show PyData.list (sortD [Lw.pr i j]) = _
  rw [sortD_one]
theorem eqv_pair {i j : Int} : PyData.eqv (pairD [.inl i, .inl j]) (Lw.pr 3 3) = true ↔ i = 3 ∧ j = 3 := by
  show (i == 3 && (j == 3 && true)) = true ↔ _
  simp
theorem tells_33 {e : Eg} (N : Neat e) (o : Str) : PyData.eqv (tells e.rules o) (.list [Lw.pr 3 3]) = true ↔ tells e.rules o = .list [Lw.pr 3 3] := by
  refine ⟨fun h => ?_, fun h => by rw [h]; decide +kernel⟩
  rcases tells_form N o with c | ⟨ks, c, k2, n2, l2⟩
  · rw [c] at h
    cases h
  · rw [c] at h ⊢
    have all : ∀ d ∈ sortD (ks.map pairD), ∃ i j : Int, d = pairD [.inl i, .inl j] := fun d hd => by
      obtain ⟨k, hk, rfl⟩ := List.mem_map.mp (sortD_mem.mp hd)
      obtain ⟨i, j, rfl, _⟩ := k2 k hk
      exact ⟨i, j, rfl⟩
    generalize sortD (ks.map pairD) = l at h all ⊢
    match l, h, all with
    | [], h, _ => cases h
    | [d], h, all =>
      obtain ⟨i, j, rfl⟩ := all d List.mem_cons_self
      have h : (PyData.eqv (pairD [.inl i, .inl j]) (Lw.pr 3 3) && true) = true := h
      rw [Bool.and_true] at h
      obtain ⟨rfl, rfl⟩ := eqv_pair.mp h
      rfl
    | d :: d2 :: r, h, _ =>
      have h : (PyData.eqv d (Lw.pr 3 3) && false) = true := h
      rw [Bool.and_false] at h
      cases h
/-- other pairs for a deed -/
theorem eqE_33d {e : Eg} {s : Str} (hs : s ∈ deedsT) (N : Neat e) (S : Std e) : eqE (withE e s (.list [Lw.pr 3 3])) e = PyData.eqv (tells e.rules s) (.list [Lw.pr 3 3]) := by
  have N' : Neat (withE e s (.list [Lw.pr 3 3])) := neat_with N hs (fun _ z => (nomatch z)) (fun ds z => by cases z; decide) (by decide +kernel)
  have e33 : Lw.eachD [Lw.pr 3 3] = .list [Lw.pr 3 3] := each_one 3 3
  rw [Bool.eq_iff_iff, tells_33 N]
  obtain ⟨o1, o2, o3⟩ := own_with (s := s) (d := .list [Lw.pr 3 3]) S
  refine ⟨fun h => ?_, fun h => eqE_of N' N o1 o2 o3 fun o ho => ?_⟩
  · unfold eqE at h
    simp only [Bool.and_eq_true] at h
    have hr := h.2.2.1
    unfold eqI at hr
    rw [Bool.and_eq_true, List.all_eq_true] at hr
    have m : ((.inr s : Key), Itm.dt [[.inl 3, .inl 3]]) ∈ (withE e s (.list [Lw.pr 3 3])).rules := List.mem_map.mpr ⟨(.inr s, .d (.list [Lw.pr 3 3])), List.mem_append_right _ List.mem_cons_self, rfl⟩
    have hm := hr.2 _ m
    rw [Bool.and_eq_true] at hm
    obtain ⟨q, hq, eq⟩ := List.any_eq_true.mp hm.1
    have eq : q.1 = .inr s := of_decide_eq_true eq
    obtain ⟨ks, e2, l2, k2, n2⟩ := (N.rules q hq).pairs
    have t := tells_at N.nr (o := s) (ks := ks) (by rw [← eq, ← e2]; exact hq)
    have h2 := hm.2
    rw [t.2] at h2
    have h2 : eqK [[.inl 3, .inl 3]] ks = true := h2
    unfold eqK at h2
    rw [Bool.and_eq_true, List.all_eq_true] at h2
    obtain ⟨k, hk, ek⟩ := List.any_eq_true.mp (h2.2 _ List.mem_cons_self)
    have ek : k = [.inl 3, .inl 3] := of_decide_eq_true ek
    subst ek
    have l1 : ks.length = 1 := by have := h2.1; simp at this; omega
    match ks, l1, hk with
    | [k], _, hk =>
      rw [List.mem_singleton] at hk
      subst hk
      rw [t.1]
      show PyData.list (sortD [Lw.pr 3 3]) = _
      rw [sortD_one]
  · rw [tells_with N]
    by_cases c : o = s
    · subst c
      rw [if_pos rfl, h]
      exact e33
    · rw [if_neg c]
theorem eqE_33 {e : Eg} (N : Neat e) (S : Std e) : eqE (withE e "set" (.list [Lw.pr 3 3])) e = PyData.eqv (tells e.rules "set") (.list [Lw.pr 3 3]) := eqE_33d (by decide) N S
/-- a rule less -/
theorem eqE_less {e : Eg} {s : Str} (hs : s ∈ deedsT) (N : Neat e) (h : tells e.rules s ≠ .none) : eqE (withE e s .none) e = false := by
  rw [← Bool.not_eq_true]
  intro z
  have N' : Neat (withE e s .none) := neat_with N hs (fun _ z => (nomatch z)) (fun _ z => nomatch z) rfl
  unfold eqE at z
  simp only [Bool.and_eq_true] at z
  have hr := z.2.2.1
  unfold eqI at hr
  rw [Bool.and_eq_true, List.all_eq_true] at hr
  have hm : (.inr s : Key) ∈ e.rules.map (·.1) := by
    rw [Ne, tells_none] at h
    exact Classical.not_not.mp h
  have no : (.inr s : Key) ∉ (withE e s .none).rules.map (·.1) := tells_none.mp (by rw [tells_with N, if_pos rfl])
  have sub : ∀ k ∈ (withE e s .none).rules.map (·.1), k ∈ e.rules.map (·.1) := fun k hk => by
    obtain ⟨p, hp, rfl⟩ := List.mem_map.mp hk
    have := hr.2 p hp
    rw [Bool.and_eq_true] at this
    obtain ⟨q, hq, eq⟩ := List.any_eq_true.mp this.1
    exact List.mem_map.mpr ⟨q, hq, of_decide_eq_true eq⟩
  have := nodup_len (l := (.inr s : Key) :: (withE e s .none).rules.map (·.1)) (m := e.rules.map (·.1)) (List.nodup_cons.mpr ⟨no, N'.nr⟩) fun k hk => by
    rcases List.mem_cons.mp hk with rfl | hk
    · exact hm
    · exact sub k hk
  have l := hr.1
  rw [beq_iff_eq] at l
  rw [List.length_cons, List.length_map, List.length_map] at this
  omega
theorem eqE_own {e e' : Eg} (h : e.own.length ≠ e'.own.length) : eqE e e' = false := by
  unfold eqE eqI
  rw [beq_eq_false_iff_ne.mpr h]
  rfl
theorem eqE_uses {e e' : Eg} (h : e.uses.length ≠ e'.uses.length) : eqE e e' = false := by
  unfold eqE
  have : eqI e.uses e'.uses = false := by
    unfold eqI
    rw [beq_eq_false_iff_ne.mpr h]
    rfl
  rw [this]
  simp
theorem eqE_most {e e' : Eg} (h : e.most ≠ e'.most) : eqE e e' = false := by
  unfold eqE
  rw [decide_eq_false h]
  simp
end Chk
set_option maxHeartbeats 1000000
/-! What the law of k03 needs of its values. -/
namespace Lw
open PySem PySem.Spec PyProof.Rows L2 Evl Pd Gd Us Chk Wlk LamX LamK LamG
section
variable {T : TabT} {K : PySem.W.Frag} {σ : L2.St} {H H' : Hp} {te ta tb tn ti : TE} {D : Ends} {tz tu : TS} {d e : PyData} {ds : List PyData}
/-- for j in range(a drawn number) -/
theorem q_forRg {m : Int} {j : Nat} (h : EvP tn σ H (RgV 0 m)) (hm : m ≤ 1000) (Pv : L2.St → Hp → Prop) (h0 : ∀ H1, Ex H H1 → Pv σ H1)
    (hs : ∀ (i : Nat) σ' H', Pv σ' H' → tu { D with nx := Pv, ct := Pv, bk := tz D } (σ'.set j (some (.int (i : Int)))) H') (hd : ∀ σ' H', Pv σ' H' → tz D σ' H') : tSeq (tFor (iRng1 (tCons tn tNil)) (gName j) tu) tz D σ H := by
  refine h H (Ex.refl _) _ fun x H2 e2 ⟨n, ex, n0, n1⟩ => ?_
  subst ex
  refine ⟨n, rfl, by omega, by omega, ?_⟩
  obtain ⟨n', e, _, _, kk⟩ := q_forR1 (σ := σ) (H := H2) (ta := tCons (tC (.int n)) tNil) (n := n) (j := j) (tu := tu) (tz := tz) (D := D) (ea_cons ev_c ea_nil) (by omega) (fun _ => Pv) (fun H1 e1 => h0 H1 (e2.trans e1)) (fun i σ' H' _ p => hs i σ' H' p) hd
  cases e
  exact kk
theorem p_ixOne (h : EvP te σ H (Qe (.list ds))) (hi : EvP ti σ H (RgV 0 ds.length)) : EvP (tOp (rIxL K) te ti) σ H (OneOf ds) := fun H1 a Q q =>
  h H1 a _ fun x H2 e1 p => hi H2 (a.trans e1) _ fun y H3 e2 ⟨n, ey, n0, n1⟩ => by
    subst ey
    cases p with
    | lst z hl hD =>
      have ln : n.toNat < ds.length := by omega
      obtain ⟨v, h1, h2⟩ := dqAll_get hD (List.getElem?_eq_getElem ln)
      have en : ((n.toNat : Nat) : Int) = n := by omega
      exact ⟨_, _, _, v, rfl, rfl, sq_of (e2 _ _ hl), by rw [← en]; exact Chk.atI_nat h1, q v H3 (e1.trans e2) ⟨_, List.getElem_mem ln, dq_up e2 h2⟩⟩
theorem extN_mut {R : Addr} {u : HO} (e : ExtN H H') (n : H R = none) : ExtN H (upd H' R u) := fun b o hb nt => by
  rw [upd_ne (fun z => by rw [z, n] at hb; cases hb)]
  exact e b o hb nt
theorem tabs_dK {R : Addr} {xs : List (Key × V)} {u : HO} (hl : H R = some (.dK xs)) (h : Tabs T H) : Tabs T (upd H R u) := fun p hp => by
  obtain ⟨ps, h1, h2, h3⟩ := h p hp
  refine ⟨ps, by rw [upd_ne (fun z => by rw [z, hl] at h1; cases h1)]; exact h1, h2, fun pos cv hc => ?_⟩
  obtain ⟨c, e1, e2⟩ := h3 pos cv hc
  exact ⟨c, e1, by rw [upd_ne (fun z => by rw [z, hl] at e2; have := Option.some.inj e2; unfold CodeO at this; cases this)]; exact e2⟩
/-! ### an end that is not the dict R -/
theorem hid_upd {R : Addr} {u : HO} : hid (upd H R u) R = hid H R := funext fun b => by
  by_cases z : b = R
  · rw [z, hid_same, hid_same]
  · rw [hid_ne z, hid_ne z, upd_ne z]
theorem hid_none {R : Addr} (h : H R = none) : hid H R = H := funext fun b => by
  by_cases z : b = R
  · rw [z, hid_same, h]
  · rw [hid_ne z]
theorem hid_le {R : Addr} : Ex (hid H R) H := fun b o h => by
  by_cases z : b = R
  · rw [z, hid_same] at h
    cases h
  · rw [hid_ne z] at h
    exact h
theorem hid_ex {R : Addr} (e : ExtN H H') : ExtN (hid H R) (hid H' R) := fun b o h nt => by
  by_cases z : b = R
  · rw [z, hid_same] at h
    cases h
  · rw [hid_ne z] at h ⊢
    exact e b o h nt
def EndH (K : PySem.W.Frag) (C CE R : Addr) (e : Eg) : PV := fun x H => EndV K C CE e x (hid H R)
theorem endH_end {C CE R : Addr} {e : Eg} {x : V} (h : EndH K C CE R e x H) : EndV K C CE e x H := mo_end _ _ _ hid_le h
theorem mon_endH {C CE R : Addr} {e : Eg} : MoN (EndH K C CE R e) := fun _ _ _ x h => mon_end _ _ _ (hid_ex x) h
theorem endH_upd {C CE R : Addr} {e : Eg} {x : V} {u : HO} (h : EndH K C CE R e x H) : EndH K C CE R e x (upd H R u) := by
  unfold EndH
  rw [hid_upd]
  exact h
theorem dq_hid {R : Addr} {vs : List (Key × V)} (hR : H R = some (.dK vs)) {x : V} (h : Dq H x d) : Dq (hid H R) x d :=
  dq_by (fun b xs hb => by rw [hid_ne (fun z => by rw [z, hR] at hb; cases hb)]; exact hb) (fun b xs hb => by rw [hid_ne (fun z => by rw [z, hR] at hb; cases hb)]; exact hb) h
/-! ### pairs() and with_pairs() as data and as ends -/
variable {C CE CD CB R : Addr} {eg : Eg} {s : Str} {E : XK} {ty tz' : TE} {dp : PyData}
theorem p_tells (h : EvP te σ H (EndV K C CE eg)) (N : Neat eg) (hd : Ev ty σ H (.str s)) (hs : s ∈ deedsT) : EvP (tMeth CE "pairs" (spPairs K C CE CD) [] E te (tCons ty tNil)) σ H (Qe (tells eg.rules s)) := fun H1 e Q q => by
  refine p_pairsE (CD := CD) (E := E) h N hd hs H1 e Q fun x H2 e2 p => q x H2 e2 ?_
  unfold tells
  cases hf : pairsOf eg.rules s with
  | none =>
    rw [hf] at p
    rw [show x = _ from p]
    exact .non
  | some ks =>
    rw [hf] at p
    exact p.2
/-- with_pairs, the dict at R out of its sight -/
theorem p_hide {i : Nat} {vs : List (Key × V)} (hi : σ[i]? = some (some (.ref R))) (hR : H R = some (.dK vs)) (h : EvP te σ (hid H R) (EndV K C CE eg)) : ∀ Q : VK, (∀ x H', Ex H H' → EndH K C CE R eg x H' → H' R = some (.dK vs) → Q x H') → tHide i te σ H Q := fun Q q => by
  refine ⟨R, vs, hi, hR, h (hid H R) (Ex.refl _) _ fun x H2 e2 p nR => q x _ (fun b o hb => ?_) ?_ upd_same⟩
  · by_cases z : b = R
    · rw [z, hR] at hb
      cases hb
      rw [z, upd_same]
    · rw [upd_ne z]
      exact e2 _ _ (by rw [hid_ne z]; exact hb)
  · show EndV K C CE eg x (hid (upd H2 R _) R)
    rw [hid_upd, hid_none nR]
    exact p
end
/-! ### the law's own dict of rules -/
structure RsOk (rs : Its') : Prop where
  nd : (rs.map (·.1)).Nodup
  ok : ∀ p ∈ rs, (∃ s ∈ deedsT, p.1 = .inr s) ∧ ∃ ds, p.2 = .d (.list ds) ∧ (∀ d ∈ ds, isPair 0 3 d = true) ∧ ds.length ≤ 30000
def tellsR (rs : Its') (o : Str) : PyData := match rs.find? fun p => decide (p.1 = .inr o) with
  | none => .none
  | some p => eachO (dataI p.2)
def putR (rs : Its') (s : Str) (d : PyData) : Its' := rs.filter (isDeed s) ++ newI s d
theorem tellsR_put {rs : Its'} {s o : Str} {d : PyData} (hd : d = .none ∨ ∃ ds, d = .list ds) : tellsR (putR rs s d) o = if o = s then eachO d else tellsR rs o := by
  unfold tellsR putR
  rw [List.find?_append, List.find?_filter]
  by_cases c : o = s
  · subst c
    rw [if_pos rfl]
    have no : (rs.find? fun a => decide (isDeed o a = true ∧ decide (a.1 = (.inr o : Key)) = true)) = none := by
      rw [List.find?_eq_none]
      intro p hp z
      simp [isDeed] at z
    rw [no, Option.none_or]
    rcases hd with rfl | ⟨ds, rfl⟩
    · rfl
    · simp [newI, dataI]
  · rw [if_neg c]
    have e1 : (rs.find? fun a => decide (isDeed s a = true ∧ decide (a.1 = (.inr o : Key)) = true)) = rs.find? fun p => decide (p.1 = .inr o) := by
      congr 1
      funext p
      by_cases z : p.1 = .inr o
      · simp [isDeed, z, c]
      · simp [z]
    have no : (newI s d).find? (fun p => decide (p.1 = .inr o)) = none := by
      rw [List.find?_eq_none]
      intro p hp z
      rcases hd with rfl | ⟨ds, rfl⟩
      · cases hp
      · rw [List.mem_singleton.mp hp] at z
        have z := of_decide_eq_true z
        injection z with z
        exact c z.symm
    rw [e1, no, Option.or_none]
theorem rsOk_put {rs : Its'} {s : Str} {d : PyData} (R : RsOk rs) (hs : s ∈ deedsT) (hd : d = .none ∨ ∃ ds, d = .list ds ∧ (∀ d ∈ ds, isPair 0 3 d = true) ∧ ds.length ≤ 30000) : RsOk (putR rs s d) := by
  refine ⟨?_, fun p hp => ?_⟩
  · unfold putR
    rw [List.map_append]
    refine List.nodup_append.mpr ⟨R.nd.sublist (List.filter_sublist.map _), ?_, fun a ha b hb => ?_⟩
    · rcases hd with rfl | ⟨ds, rfl, _⟩ <;> simp [newI]
    · obtain ⟨p, hp, rfl⟩ := List.mem_map.mp ha
      obtain ⟨q, hq, rfl⟩ := List.mem_map.mp hb
      have := (List.mem_filter.mp hp).2
      rcases hd with rfl | ⟨ds, rfl, _⟩
      · cases hq
      · rw [List.mem_singleton.mp hq]
        simpa [isDeed] using this
  · rcases List.mem_append.mp hp with q | q
    · exact R.ok p (List.mem_filter.mp q).1
    · rcases hd with rfl | ⟨ds, rfl, h⟩
      · cases q
      · rw [List.mem_singleton.mp q]
        exact ⟨⟨s, hs, rfl⟩, ds, rfl, h⟩
theorem rsOk_len {rs : Its'} (R : RsOk rs) : rs.length ≤ 5 := by
  have := nodup_len (l := rs.map (·.1)) (m := deedsT.map Sum.inr) R.nd fun k hk => by
    obtain ⟨p, hp, rfl⟩ := List.mem_map.mp hk
    obtain ⟨⟨s, hs, e⟩, _⟩ := R.ok p hp
    rw [e]
    exact List.mem_map.mpr ⟨s, hs, rfl⟩
  rw [List.length_map] at this
  exact this
end Lw
set_option maxHeartbeats 1000000
namespace Lw
open PySem PySem.Spec PyProof.Rows L2 Evl Pd Gd Us Chk Wlk LamX LamK LamG
section
variable {K : PySem.W.Frag} {C : Addr} {H : Hp}
theorem items_paired : ∀ {rs : Its'} {vs : List (Key × V)}, ItemsV K C rs vs H → Paired (fun (p : Key × Itm) (q : Key × V) => p.1 = q.1 ∧ ItmV K C p.2 q.2 H) rs vs
  | [], [], _ => .nil
  | [], _ :: _, h => by cases h.len
  | _ :: _, [], h => by cases h.len
  | p :: rs, q :: vs, h => by
    obtain ⟨v, h1, h2⟩ := h.at_ 0 p.1 p.2 rfl
    have h1 : q = (p.1, v) := Option.some.inj h1
    subst h1
    exact .cons ⟨rfl, h2⟩ (items_paired ⟨by have := h.len; simpa using this, fun i k t hi => h.at_ (i + 1) k t hi⟩)
theorem paired_len {α β : Type} {F : α → β → Prop} : ∀ {l : List α} {m : List β}, Paired F l m → l.length = m.length
  | _, _, .nil => rfl
  | _, _, .cons _ t => congrArg (· + 1) (paired_len t)
theorem paired_items : ∀ {rs : Its'} {vs : List (Key × V)}, Paired (fun (p : Key × Itm) (q : Key × V) => p.1 = q.1 ∧ ItmV K C p.2 q.2 H) rs vs → ItemsV K C rs vs H
  | _, _, .nil => ⟨rfl, fun i k t hi => by simp at hi⟩
  | _, _, .cons (a := p) (b := q) r t => by
    have ih := paired_items t
    refine ⟨congrArg (· + 1) ih.len, fun i k u hi => ?_⟩
    cases i with
    | zero =>
      have hi : p = (k, u) := Option.some.inj hi
      subst hi
      obtain ⟨r1, r2⟩ := r
      exact ⟨q.2, congrArg some (Prod.ext r1.symm rfl), r2⟩
    | succ i => exact ih.at_ i k u hi
theorem paired_drop {s : Str} : ∀ {rs : Its'} {vs : List (Key × V)}, Paired (fun (p : Key × Itm) (q : Key × V) => p.1 = q.1 ∧ ItmV K C p.2 q.2 H) rs vs → Paired (fun (p : Key × Itm) (q : Key × V) => p.1 = q.1 ∧ ItmV K C p.2 q.2 H) (rs.filter (isDeed s)) (dropK vs (.inr s))
  | _, _, .nil => .nil
  | _, _, .cons (a := p) (b := q) r t => by
    have ih := paired_drop (s := s) t
    unfold dropK at ih ⊢
    rw [List.filter_cons, List.filter_cons]
    by_cases c : p.1 = .inr s
    · have e1 : isDeed s p = false := by simp [isDeed, c]
      have e2 : decide (q.1 ≠ .inr s) = false := by simp [← r.1, c]
      rw [e1, e2]
      exact ih
    · have e1 : isDeed s p = true := by simp [isDeed, c]
      have e2 : decide (q.1 ≠ .inr s) = true := by simpa [← r.1] using c
      rw [e1, e2]
      exact .cons r ih
theorem items_drop {rs : Its'} {vs : List (Key × V)} {s : Str} (h : ItemsV K C rs vs H) : ItemsV K C (rs.filter (isDeed s)) (dropK vs (.inr s)) H := paired_items (paired_drop (items_paired h))
theorem drop_none {vs : List (Key × V)} {k : Key} (h : valV vs k = none) : dropK vs k = vs := by
  unfold dropK
  rw [List.filter_eq_self]
  intro p hp
  have : ¬ p.1 = k := fun e => by
    have a : (vs.any fun kv => decide (kv.1 = k)) = true := List.any_eq_true.mpr ⟨p, hp, by simp [e]⟩
    rw [valV_any, h] at a
    cases a
  simpa using this
theorem valV_drop {vs : List (Key × V)} {k : Key} : valV (dropK vs k) k = none := valV_no fun z => by
  obtain ⟨p, hp, e⟩ := List.mem_map.mp z
  have := (List.mem_filter.mp hp).2
  simp [e] at this
theorem items_get {rs : Its'} {vs : List (Key × V)} {o : Str} (h : ItemsV K C rs vs H) (nd : (rs.map (·.1)).Nodup) : match rs.find? fun p => decide (p.1 = .inr o) with
  | none => valV vs (.inr o) = none
  | some p => ∃ v, valV vs (.inr o) = some v ∧ ItmV K C p.2 v H := by
  cases hf : rs.find? (fun p => decide (p.1 = .inr o)) with
  | none =>
    rw [List.find?_eq_none] at hf
    exact keys_none h fun p hp z => hf p hp (by simpa using z)
  | some p =>
    have e0 := List.find?_some hf
    have e : p.1 = .inr o := of_decide_eq_true e0
    obtain ⟨i, hi, ei⟩ := List.getElem_of_mem (List.mem_of_find?_eq_some hf)
    have hk : rs[i]? = some (.inr o, p.2) := by rw [List.getElem?_eq_getElem hi, ei, ← e]
    obtain ⟨v, h1, h2⟩ := h.at_ i _ _ hk
    exact ⟨v, valV_at (by rw [h.keys]; exact nd) h1, h2⟩
end
/-! ### what stands beside each other can be compared -/
theorem lay_pairs : ∀ {l : List PyData}, (∀ d ∈ l, ∃ i j : Int, d = Chk.pairD [.inl i, .inl j]) → PyData.canLayAll0 l = true ∧ PyData.depthAll l ≤ 1
  | [], _ => ⟨rfl, Nat.zero_le _⟩
  | d :: l, h => by
    obtain ⟨i, j, rfl⟩ := h d List.mem_cons_self
    obtain ⟨h1, h2⟩ := lay_pairs (l := l) fun e he => h e (List.mem_cons_of_mem _ he)
    refine ⟨?_, ?_⟩
    · show (PyData.canLay0 (Chk.pairD [.inl i, .inl j]) && PyData.canLayAll0 l) = true
      rw [h1]
      rfl
    · show max (PyData.depth (Chk.pairD [.inl i, .inl j])) (PyData.depthAll l) ≤ 1
      have : PyData.depth (Chk.pairD [.inl i, .inl j]) = 1 := rfl
      omega
theorem shaped_tells {e : Eg} (N : Neat e) (o : Str) : SeqAt.shaped (tells e.rules o) = true := by
  rcases tells_form N o with h | ⟨ks, h, k2, n2, l2⟩
  · rw [h]
    decide +kernel
  · rw [h]
    obtain ⟨h1, h2⟩ := lay_pairs (l := sortD (ks.map Chk.pairD)) fun d hd => by
      obtain ⟨k, hk, rfl⟩ := List.mem_map.mp (sortD_mem.mp hd)
      obtain ⟨i, j, rfl, _⟩ := k2 k hk
      exact ⟨i, j, rfl⟩
    show (PyData.canLayAll0 (sortD (ks.map Chk.pairD)) && decide (PyData.depthAll (sortD (ks.map Chk.pairD)) + 1 ≤ 64)) = true
    rw [h1, decide_eq_true (by omega)]
    rfl
theorem lay_words : ∀ {l : List PyData}, (∀ d ∈ l, ∃ s : Str, d = .str s ∧ PyData.canLay0 (.str s) = true) → PyData.canLayAll0 l = true ∧ PyData.depthAll l ≤ 0
  | [], _ => ⟨rfl, Nat.zero_le _⟩
  | d :: l, h => by
    obtain ⟨s, rfl, hs⟩ := h d List.mem_cons_self
    obtain ⟨h1, h2⟩ := lay_words (l := l) fun e he => h e (List.mem_cons_of_mem _ he)
    refine ⟨?_, ?_⟩
    · show (PyData.canLay0 (.str s) && PyData.canLayAll0 l) = true
      rw [h1, hs]
      rfl
    · show max (PyData.depth (.str s)) (PyData.depthAll l) ≤ 0
      have : PyData.depth (.str s) = 0 := rfl
      omega
theorem strs_ok : ∀ p ∈ wordsT, (∀ x ∈ p.1, PyData.canLay0 (.str x) = true) ∧ (∀ x ∈ p.2, PyData.canLay0 (.str x) = true) := by decide +kernel
end Lw
set_option maxHeartbeats 1000000
namespace Lw
open PySem PySem.Spec PyProof.Rows L2 Evl Pd Gd Us Chk Wlk LamX LamK LamG
section
variable {ws os : List Str} {sp : Es}
theorem tells_start (o : Str) : tells (endS sp).rules o = tellsR (rulesIt sp.rules) o := by
  show tells (rulesI (rulesIt sp.rules)) o = _
  rw [tells_end]
  unfold tellsR
  cases hf : (rulesIt sp.rules).find? (fun p => decide (p.1 = .inr o)) with
  | none => rfl
  | some p =>
    obtain ⟨q, _, rfl⟩ := List.mem_map.mp (List.mem_of_find?_eq_some hf)
    rfl
theorem prI_ok {es : List (Int × Int)} (h : ∀ q ∈ es, (0 ≤ q.1 ∧ q.1 ≤ 3) ∧ 0 ≤ q.2 ∧ q.2 ≤ 3) : ∀ d ∈ es.map prI, isPair 0 3 d = true := fun d hd => by
  obtain ⟨q, hq, rfl⟩ := List.mem_map.mp hd
  have := h q hq
  show (betw 0 3 (.int q.1) && betw 0 3 (.int q.2)) = true
  simp [betw, this.1.1, this.1.2, this.2.1, this.2.2]
theorem rsOk_start (g : GoodE ws os sp) : RsOk (rulesIt sp.rules) := by
  refine ⟨by rw [rules_keys]; exact nodup_inr (List.Nodup.sublist g.deeds (by decide)), fun p hp => ?_⟩
  obtain ⟨q, hq, rfl⟩ := List.mem_map.mp hp
  refine ⟨⟨q.1, g.deeds.subset (List.mem_map.mpr ⟨q, hq, rfl⟩), rfl⟩, q.2.map prI, rfl, prI_ok (g.rules q hq), ?_⟩
  rw [List.length_map]
  exact Nat.le_trans (g.few q hq).1 (by decide)
theorem std_start (g : GoodE ws os sp) (k : WordsOk ws os) : Std (endS sp) := by
  refine ⟨ord_idem (smallO g k).2.2 fun p hp => ?_, ord_idem (smallU g k).2.2 fun p hp => ?_⟩
  · obtain ⟨q, _, rfl⟩ := List.mem_map.mp hp
    exact ⟨_, rfl⟩
  · obtain ⟨q, _, rfl⟩ := List.mem_map.mp hp
    exact ⟨_, rfl⟩
theorem words_start (g : GoodE ws os sp) (h : ∀ x ∈ ws, PyData.canLay0 (.str x) = true) : SeqAt.shaped (.list ((endS sp).own.map fun p => keyD p.1)) = true := by
  obtain ⟨h1, h2⟩ := lay_words (l := (endS sp).own.map fun p => keyD p.1) fun d hd => by
    obtain ⟨p, hp, rfl⟩ := List.mem_map.mp hd
    have hp : p ∈ ordI (ownIt sp.own) := hp
    unfold ordI at hp
    obtain ⟨x, hx, rfl⟩ := List.mem_map.mp hp
    refine ⟨x, rfl, h x ?_⟩
    have := (sortS_perm _).mem_iff.mp hx
    obtain ⟨p2, hp2, ep⟩ := List.mem_map.mp this
    obtain ⟨q, hq, eq⟩ := List.mem_map.mp hp2
    rw [← g.own, ← ep, ← eq]
    exact List.mem_map.mpr ⟨q, hq, rfl⟩
  show (PyData.canLayAll0 ((endS sp).own.map fun p => keyD p.1) && decide (PyData.depthAll ((endS sp).own.map fun p => keyD p.1) + 1 ≤ 64)) = true
  rw [h1, decide_eq_true (by omega)]
  rfl
end
section
variable {ws os : List Str} {sp : Es}
theorem uses_start (g : GoodE ws os sp) (h : ∀ x ∈ os, PyData.canLay0 (.str x) = true) : SeqAt.shaped (.list ((endS sp).uses.map fun p => keyD p.1)) = true := by
  obtain ⟨h1, h2⟩ := lay_words (l := (endS sp).uses.map fun p => keyD p.1) fun d hd => by
    obtain ⟨p, hp, rfl⟩ := List.mem_map.mp hd
    have hp : p ∈ ordI (usesIt sp.uses) := hp
    unfold ordI at hp
    obtain ⟨x, hx, rfl⟩ := List.mem_map.mp hp
    refine ⟨x, rfl, h x ?_⟩
    have := (sortS_perm _).mem_iff.mp hx
    obtain ⟨p2, hp2, ep⟩ := List.mem_map.mp this
    obtain ⟨q, hq, eq⟩ := List.mem_map.mp hp2
    rw [← g.uses, ← ep, ← eq]
    exact List.mem_map.mpr ⟨q, hq, rfl⟩
  show (PyData.canLayAll0 ((endS sp).uses.map fun p => keyD p.1) && decide (PyData.depthAll ((endS sp).uses.map fun p => keyD p.1) + 1 ≤ 64)) = true
  rw [h1, decide_eq_true (by omega)]
  rfl
/-- its words, ascending -/
theorem own_words (g : GoodE ws os sp) : ((endS sp).own.map fun p => keyD p.1) = (sortS ws).map PyData.str := by
  show ((ordI (ownIt sp.own)).map fun p => keyD p.1) = _
  have e : (ownIt sp.own).map (fun p => keyS p.1) = ws := by
    rw [← g.own]
    unfold ownIt
    rw [List.map_map]
    rfl
  unfold ordI wordsI
  rw [List.map_map, e]
  rfl
theorem uses_words (g : GoodE ws os sp) : ((endS sp).uses.map fun p => keyD p.1) = (sortS os).map PyData.str := by
  show ((ordI (usesIt sp.uses)).map fun p => keyD p.1) = _
  have e : (usesIt sp.uses).map (fun p => keyS p.1) = os := by
    rw [← g.uses]
    unfold usesIt
    rw [List.map_map]
    rfl
  unfold ordI wordsI
  rw [List.map_map, e]
  rfl
/-- pairs that stand once are told as they are, sorted -/
theorem each_prI {es : List (Int × Int)} (n : es.Nodup) : eachD (es.map prI) = .list (sortD (es.map prI)) := by
  have e : (es.map prI).map keyOf = es.map fun p => ([.inl p.1, .inl p.2] : List Key) := by
    rw [List.map_map]
    rfl
  have nd : (es.map fun p => ([.inl p.1, .inl p.2] : List Key)).Nodup := List.pairwise_map.mpr (n.imp fun h z => h (by
    injection z with z1 z2
    injection z2 with z2 _
    injection z1 with z1
    injection z2 with z2
    exact Prod.ext z1 z2))
  show PyData.list (sortD ((onceK ((es.map prI).map keyOf)).map Chk.pairD)) = _
  rw [e, once_of_nodup nd, List.map_map]
  rfl
end
end Lw
set_option maxHeartbeats 2000000
/-! k04: _law_made, _law_odd. -/
namespace Lw
open PySem PySem.Spec PyProof.Rows L2 Evl Pd Gd Us Chk Wlk LamX LamK LamG
theorem laidS {ws os : List Str} {sp : Es} (g : GoodE ws os sp) (h : (∀ x ∈ ws, PyData.canLay0 (.str x) = true) ∧ ∀ x ∈ os, PyData.canLay0 (.str x) = true) : Laid (endS sp) := ⟨words_start g h.1, uses_start g h.2⟩
theorem uses_eq {ws os vs : List Str} {l r : Es} (gl : GoodE ws os l) (gr : GoodE os vs r) : usesD (endS l) = Chk.wordsD (endS r) := congrArg PyData.list ((uses_words gl).trans (own_words gr).symm)
theorem neatP {wd : List Str × List Str} {l r : Es} (hw : wd ∈ wordsT) (gl : GoodE wd.1 wd.2 l) (gr : GoodE wd.2 wd.1 r) : NeatP (endS l) (endS r) := by
  have k := words_ok _ hw
  have s := strs_ok _ hw
  refine ⟨neatS gl k.1, neatS gr k.2, laidS gl s, laidS gr s.symm, ?_⟩
  unfold fitW
  rw [uses_eq gl gr, uses_eq gr gl, Bool.and_eq_true]
  exact ⟨SeqAt.eqv_refl _ (SeqAt.canLay_of_shaped (words_start gr s.2)), SeqAt.eqv_refl _ (SeqAt.canLay_of_shaped (words_start gl s.1))⟩
abbrev sMadeP : Stmt := Tp.s__law_made
theorem scMadeP : FnScope ["p"] ["p"] (defScope sMadeP) := ⟨rfl, rfl, rfl, by decide +kernel, rfl, by decide +kernel, by decide +kernel⟩
def spMadeP (K : PySem.W.Frag) (C CE CP : Addr) : Sp := fun vs H Q _ => vs.length = 1 ∧ ∃ x l r wd, vs = [x] ∧ PactSp Sr K l r x H ∧ wd ∈ wordsT ∧ GoodE wd.1 wd.2 l ∧ GoodE wd.2 wd.1 r ∧ ∀ v H', Ex H H' → PactV K C CE CP (endS l) (endS r) v H' → Q v H'
section
variable {P : Program} {w : World} {K : PySem.W.Frag} {mg : Str → Option Value} {base : Heap} {C CE CP CN CB CS CD CBE : Addr}
theorem p_madeE {σ : L2.St} {H : Hp} {te : TE} {E : XK} {ws os : List Str} {s : Es} (h : EvP te σ H (EndSp Sr K s)) (g : GoodE ws os s) (k : WordsOk ws os) : EvP (tCall (spMadeE K C CE) [] E (tCons te tNil)) σ H (EndV K C CE (endS s)) :=
  p_call (Ps := [EndSp Sr K s]) (ps_cons mo_endSp h ps_nil) fun xs H6 e ps Q' q' => by
    match xs, ps with
    | [y], ⟨py, _⟩ => exact ⟨rfl, y, s, ws, os, rfl, py, g, k, fun r H7 e7 p => q' r H7 e7 p⟩
theorem ok_madeP (D : Dn K mg "_law_made" sMadeP) (SP : PactC P w K mg base C CE CP CN CB) (UM : Use P w K mg base 9 "_law_made_end" ["end"] (spMadeE K C CE)) : Use P w K mg base 10 "_law_made" ["p"] (spMadeP K C CE CP) := by
  refine use_of D scMadeP (fun f fd F => F.binds (ps := ["p"]) fun _ _ _ _ _ _ us hl => match us, hl with | [_], _ => rfl) (fun vs H Q E h => h.1) (fun f cdv A outer s H vs Q E hr h => ?_)
  obtain ⟨_, x, l, r, wd, rfl, hp, hw, gl, gr, q⟩ := h
  have hu1 : (A.deeper (envOfC "_law_made" (defScope sMadeP) s.heap.objs.size f cdv)).units + 1 < cLine := by have := hr.un; omega
  refine ⟨_, pss_one (ps_ret (pe_pact (E := fun _ _ _ => False) SP hr (by decide) (by rfl) (passes_call LamX.takes0 fun _ _ _ _ h => h) (pa_cons (pe_use UM hr (by decide) (by rfl) (pa_cons (pe_dget hu1 (pv 0) pe_str (fun _ _ => rfl)) pa_nil)) (pa_cons (pe_use UM hr (by decide) (by rfl) (pa_cons (pe_dget hu1 (pv 0) pe_str (fun _ _ => rfl)) pa_nil)) pa_nil)))), ?_⟩
  obtain ⟨pp, pa, pb, rfl, hpp, hl, hr2⟩ := hp
  have N := neatP hw gl gr
  have k := words_ok _ hw
  have s := strs_ok _ hw
  have a1 : EvP (tCall (spMadeE K C CE) [] (fun _ _ _ => False) (tCons (tDGet (tVar 0) (tC (.str "left"))) tNil)) (L2.start ["p"] [.ref pp]) H (AnyV K C CE (.e (endS l))) := (p_madeE (p_dget (k := .inr "left") (ev_var rfl) ev_c (.inl hpp) rfl mo_endSp hl) gl k.1).imp fun v H' _ p => ⟨p, N.nl, N.ll⟩
  have a2 : EvP (tCall (spMadeE K C CE) [] (fun _ _ _ => False) (tCons (tDGet (tVar 0) (tC (.str "right"))) tNil)) (L2.start ["p"] [.ref pp]) H (AnyV K C CE (.e (endS r))) := (p_madeE (p_dget (k := .inr "right") (ev_var rfl) ev_c (.inl hpp) rfl mo_endSp hr2) gr k.2).imp fun v H' _ p => ⟨p, N.nr, N.lr⟩
  exact d_ret (p_makeP (ps_cons mo_any a1 (ps_cons mo_any a2 ps_nil)) N.fit) fun v H1 e1 p => q v H1 e1 p
end
/-! ### _law_odd -/
abbrev sOddP : Stmt := Tp.s__law_odd
abbrev nOdP : List Str := ["made", "odd"]
theorem scOddP : FnScope nOdP nOdP (defScope sOddP) := ⟨rfl, rfl, rfl, by decide +kernel, rfl, by decide +kernel, by decide +kernel⟩
structure OddN (l r : Eg) (d : PyData) : Prop where
  own : hasW (ownersI l r) d = false
  name : inT namesT d = false
  rep : Repable d
  s1 : SeqAt.shaped (.list [.str "name", .str d.shown]) = true
def spOddP (T : TabT) (K : PySem.W.Frag) (C CE CP : Addr) : Sp := fun vs H Q _ => vs.length = 2 ∧ ∃ x z l r d, vs = [x, z] ∧ PactV K C CE CP l r x H ∧ NeatP l r ∧ Dq H z d ∧ OddN l r d ∧ Tabs T H ∧ ∀ H', ExtN H H' → Tabs T H' → Q (.bl true) H'
theorem noE_non {K : PySem.W.Frag} {CE : Addr} (B : NotB K CE) : True := trivial
section
variable {P : Program} {w : World} {K : PySem.W.Frag} {mg : Str → Option Value} {base : Heap} {C CE CP a0 a1 a2 a3 a4 a5 a6 a7 a8 a9 aX f c tb : Addr} {fd : FuncData} {T : TabT}
theorem ok_oddP (F : FunC K "_law_odd" "_law_odd" sOddP f fd c) (TB : TabB base mg c tb) (hmT : (tb, ("_law_odd.<locals>.<lambda>" : Str)) ∈ T) (huT : ∀ p ∈ T, p.1 = tb → p.2 = ("_law_odd.<locals>.<lambda>" : Str)) (SP : PactC P w K mg base C CE CP a3 a2) (noN : ∀ H : Hp, NoE K CE .non H)
    (FB0 : ∃ g, FunB K mg "_law_bad" sBad g) (ER : Errs K mg a0 a1 a2 a3 a4 a5 a6 a7 a8 a9 aX) : FnG P w K mg base CX0 9 f fd nOdP (spOddP T K C CE CP) := by
  refine okGC F scOddP (fun vs H Q E h => h.1) (fun A outer s H vs Q E hr hg h => ?_)
  obtain ⟨_, x, z, l, r, d, rfl, hx, N, hz, O, hT, q⟩ := h
  obtain ⟨g, FB⟩ := FB0
  obtain ⟨oc, od, kV, doc, pm, an, cd, ct, osl, lk, hcd⟩ := FB.ex
  have hu : (A.deeper (envOfC "_law_odd" (defScope sOddP) s.heap.objs.size f (.ref c))).units + 64 < cLine := by have := hr.un; omega
  have qn : ∀ (E : XK), (cxOf CX0 P w K mg base nOdP "_law_odd" (defScope sOddP) f (.ref c) A outer s H E).nox.env.qual ++ "<lambda>" = ("_law_odd.<locals>.<lambda>" : Str) := fun _ => by kernel_rfl
  have bB : L2.Binds K (PySem.W.fnOf "_law_bad" "_law_bad" (defArgs sBad) (defBody sBad) (defScope sBad) .none kV doc pm an cd ct) ["call"] [] := (⟨⟨oc, od, kV, doc, pm, an, cd, ct, osl, rfl, lk, hcd⟩, FB.kp⟩ : Fun K "_law_bad" "_law_bad" sBad g _).binds (ps := ["call"]) fun _ _ _ _ _ _ us hl => match us, hl with | [_], _ => rfl
  have z1 : LamS (defScope sOddP) { kind := .function, names := [("made", .free), ("odd", .free)], isGenerator := false, isCoroutine := false } := lamS_by (by decide +kernel)
  refine ⟨_, pss_cons (ps_if (pt_cmpR (op_neD hu) (pe_lamG (T := T) (TT := TBad K (errs a0 a1 a2 a3 a4 a5 a6 a7 a8 a9)) (k := 6) (a := "call") (c := c) (P := tb) (Ng := ["call", "e"]) (t := fun E => tMeth CP "end" (spEndP K C CE CP a3) [] E (tVar 0) (tCons (tVar 1) tNil)) (by rfl) FB.mg FB.kp lk hcd bB scBad rfl (.inl rfl) (bad_gives ER hg hr) TB rfl (by rw [qn]; exact hmT) (by rw [qn]; exact huT) hr hg ?L1 rfl (fun _ _ _ _ _ => rfl) ?b1)
        (pe_lst (pa_cons pe_str (pa_cons (pe_callB (id := "repr") (cr_reprD hg hu) (by rfl) ER.repr (by decide +kernel) (pa_cons (pv 1) pa_nil)) pa_nil))) (nomark _)) (pss_one (ps_ret pe_bl)) pss_nil)
    (pss_cons (ps_if (pt_cmpR (op_neD hu) (pe_lamG (T := T) (TT := TBad K (errs a0 a1 a2 a3 a4 a5 a6 a7 a8 a9)) (k := 6) (a := "call") (c := c) (P := tb) (Ng := ["call", "e"]) (t := fun E => tMeth CP "other" (spOther K CP a3) [] E (tVar 0) (tCons (tVar 1) tNil)) (by rfl) FB.mg FB.kp lk hcd bB scBad rfl (.inl rfl) (bad_gives ER hg hr) TB rfl (by rw [qn]; exact hmT) (by rw [qn]; exact huT) hr hg ?L2 rfl (fun _ _ _ _ _ => rfl) ?b2)
        (pe_lst (pa_cons pe_str (pa_cons (pe_callB (id := "repr") (cr_reprD hg hu) (by rfl) ER.repr (by decide +kernel) (pa_cons (pv 1) pa_nil)) pa_nil))) (nomark _)) (pss_one (ps_ret pe_bl)) pss_nil)
    (pss_cons (ps_if (pt_cmpR (op_neD hu) (pe_lamG (T := T) (TT := TBad K (errs a0 a1 a2 a3 a4 a5 a6 a7 a8 a9)) (k := 6) (a := "call") (c := c) (P := tb) (Ng := ["call", "e"]) (t := fun E => tMeth CP "owner" (spOwner K C CE CP a3) [] E (tVar 0) (tCons (tVar 1) tNil)) (by rfl) FB.mg FB.kp lk hcd bB scBad rfl (.inl rfl) (bad_gives ER hg hr) TB rfl (by rw [qn]; exact hmT) (by rw [qn]; exact huT) hr hg ?L3 rfl (fun _ _ _ _ _ => rfl) ?b3)
        (pe_lst (pa_cons pe_str (pa_cons (pe_callB (id := "repr") (cr_reprD hg hu) (by rfl) ER.repr (by decide +kernel) (pa_cons (pv 1) pa_nil)) pa_nil))) (nomark _)) (pss_one (ps_ret pe_bl)) pss_nil)
    (pss_cons (ps_if (pt_cmpR (op_neD hu) (pe_lamG (T := T) (TT := TBad K (errs a0 a1 a2 a3 a4 a5 a6 a7 a8 a9)) (k := 6) (a := "call") (c := c) (P := tb) (Ng := ["call", "e"]) (t := fun E => tMeth CP "setting" (spSetP K C CE CP a3) [] E (tVar 0) (tCons (tVar 1) tNil)) (by rfl) FB.mg FB.kp lk hcd bB scBad rfl (.inl rfl) (bad_gives ER hg hr) TB rfl (by rw [qn]; exact hmT) (by rw [qn]; exact huT) hr hg ?L4 rfl (fun _ _ _ _ _ => rfl) ?b4)
        (pe_lst (pa_cons pe_str (pa_cons (pe_callB (id := "repr") (cr_reprD hg hu) (by rfl) ER.repr (by decide +kernel) (pa_cons (pv 1) pa_nil)) pa_nil))) (nomark _)) (pss_one (ps_ret pe_bl)) pss_nil)
    (pss_one (ps_ret (pe_cmpR (op_eqD hu) (pe_lamG (T := T) (TT := TBad K (errs a0 a1 a2 a3 a4 a5 a6 a7 a8 a9)) (k := 6) (a := "call") (c := c) (P := tb) (Ng := ["call", "e"]) (t := fun E => tMeth CP "with_end" (spWithEnd K C CE CP a3 a2) [] E (tVar 0) (tCons (tVar 1) (tCons (tC .non) tNil))) (by rfl) FB.mg FB.kp lk hcd bB scBad rfl (.inl rfl) (bad_gives ER hg hr) TB rfl (by rw [qn]; exact hmT) (by rw [qn]; exact huT) hr hg ?L5 rfl (fun _ _ _ _ _ => rfl) ?b5)
        (pe_lst (pa_cons pe_str (pa_cons (pe_callB (id := "repr") (cr_reprD hg hu) (by rfl) ER.repr (by decide +kernel) (pa_cons (pv 1) pa_nil)) pa_nil))) (nomark _))))))), ?_⟩
  case L1 => exact z1
  case L2 => exact z1
  case L3 => exact z1
  case L4 => exact z1
  case L5 => exact z1
  case b1 =>
    intro A' outer' s' H' E' f' c2 hr2 hg2
    exact pe_mC (E := E') (j := 6) SP.end_ SP.T.cl hr2 (by decide) (passes_call (takes_of rfl rfl rfl rfl) fun _ _ _ _ h => h) (pv 0) (pa_cons (pv 1) pa_nil)
  case b2 =>
    intro A' outer' s' H' E' f' c2 hr2 hg2
    exact pe_mC (E := E') (j := 6) SP.other SP.T.cl hr2 (by decide) (passes_call (takes_of rfl rfl rfl rfl) fun _ _ _ _ h => h) (pv 0) (pa_cons (pv 1) pa_nil)
  case b3 =>
    intro A' outer' s' H' E' f' c2 hr2 hg2
    exact pe_mC (E := E') (j := 6) SP.owner SP.T.cl hr2 (by decide) (passes_call (takes_of rfl rfl rfl rfl) fun _ _ _ _ h => h) (pv 0) (pa_cons (pv 1) pa_nil)
  case b4 =>
    intro A' outer' s' H' E' f' c2 hr2 hg2
    exact pe_mC (E := E') (j := 6) SP.setting SP.T.cl hr2 (by decide) (passes_call (takes_of rfl rfl rfl rfl) fun _ _ _ _ h => h) (pv 0) (pa_cons (pv 1) pa_nil)
  case b5 =>
    intro A' outer' s' H' E' f' c2 hr2 hg2
    exact pe_mC (E := E') (j := 6) SP.withE SP.T.cl hr2 (by decide) (passes_call (takes_of rfl rfl rfl rfl) fun _ _ _ _ h => h) (pv 0) (pa_cons (pv 1) (pa_cons pe_non pa_nil))
  have vx : ∀ {Hx : Hp}, ExtN H Hx → EvP (tVar 0) (L2.start nOdP [x, z]) Hx (PactV K C CE CP l r) := fun e1 => p_var rfl mo_pact (mon_pact _ _ _ e1 hx)
  have vz : ∀ {Hx : Hp}, ExtN H Hx → EvP (tVar 1) (L2.start nOdP [x, z]) Hx (Qe d) := fun e1 => q_var rfl (dq_ext e1 hz)
  have rhs : ∀ {Hx : Hp} (l : Str), ExtN H Hx → EN T (tLst (tCons (tC (.str l)) (tCons (tCB (rReprD K) (tCons (tVar 1) tNil)) tNil))) (L2.start nOdP [x, z]) Hx (Qe (.list [.str l, .str d.shown])) := fun {Hx} l e1 => n_of fun Hy e2 => q_lst (ds := [.str l, .str d.shown]) (ps_cons mo_qe q_str (ps_cons mo_qe (.of (ev_reprD (d := d) (toDe (vz (e1.trans e2))) O.rep) mo_qe (.str _)) ps_nil))
  refine n_when (nt_test (n_ne1 (d := .list [.str "name", .str d.shown]) (n_name O.rep fun H1 E Q e1 hE => endP_bad (vx e1) (vz e1) O.name hE) (rhs "name" (ExtN.refl H)) O.s1)) hT fun H1 e1 t1 => ?_
  refine n_when (nt_test (n_ne1 (d := .list [.str "name", .str d.shown]) (n_name O.rep fun Hx E Q ex hE => otherP_bad (vx (e1.trans ex)) (vz (e1.trans ex)) O.name hE) (rhs "name" e1) O.s1)) t1 fun H2 e2 t2 => ?_
  have e02 := e1.trans e2
  refine n_when (nt_test (n_ne1 (d := .list [.str "name", .str d.shown]) (n_name O.rep fun Hx E Q ex hE => ownerP_bad (vx (e02.trans ex)) N (vz (e02.trans ex)) O.own hE) (rhs "name" e02) O.s1)) t2 fun H3 e3 t3 => ?_
  have e03 := e02.trans e3
  refine n_when (nt_test (n_ne1 (d := .list [.str "name", .str d.shown]) (n_name O.rep fun Hx E Q ex hE => settingP_bad (vx (e03.trans ex)) N (vz (e03.trans ex)) O.own hE) (rhs "name" e03) O.s1)) t3 fun H4 e4 t4 => ?_
  have e04 := e03.trans e4
  have last := n_eq (T := T) (K := K) (n_name (a0 := a0) (a1 := a1) (a2 := a2) (a3 := a3) (a4 := a4) (a5 := a5) (a6 := a6) (a7 := a7) (a8 := a8) (a9 := a9) (T := T) (K := K) (σ := L2.start nOdP [x, z]) (H := H4) (t := fun E => tMeth CP "with_end" (spWithEnd K C CE CP a3 a2) [] E (tVar 0) (tCons (tVar 1) (tCons (tC .non) tNil))) O.rep fun Hx E Q ex hE => withEnd_bad (A := .no) (vx (e04.trans ex)) N (vz (e04.trans ex)) O.name (.of ev_c mo_any (noN Hx)) hE) (rhs "name" e04) O.s1 O.s1
  refine last H4 (ExtN.refl H4) t4 _ fun v H5 e5 t5 p => ?_
  have p : v = .bl (PyData.eqv (.list [.str "name", .str d.shown]) (.list [.str "name", .str d.shown])) := p
  rw [SeqAt.eqv_refl _ (SeqAt.canLay_of_shaped O.s1)] at p
  rw [p]
  exact q H5 (e04.trans e5) t5
end
end Lw
set_option maxHeartbeats 2000000
/-! k04: _law_owners. -/
namespace Lw
open PySem PySem.Spec PyProof.Rows L2 Evl Pd Gd Us Chk Wlk LamX LamK LamG
theorem hasW_iff {its : Its'} {s : Str} : hasW its (.str s) = true ↔ ∃ p ∈ its, p.1 = .inr s := by
  show (its.any fun p => decide (p.1 = .inr s)) = true ↔ _
  simp [List.any_eq_true]
section
variable {ws os : List Str} {sp : Es} {s : Str}
theorem own_at (g : GoodE ws os sp) (k : WordsOk ws os) (h : s ∈ ws) : ∃ t, getK (endS sp).own s = .set t ∧ hasW (endS sp).own (.str s) = true := by
  rw [← g.own] at h
  obtain ⟨q, hq, rfl⟩ := List.mem_map.mp h
  have := ord_get (kvs := ownIt sp.own) (smallO g k).2.2 (fun p hp => by
    obtain ⟨u, _, rfl⟩ := List.mem_map.mp hp
    exact ⟨_, rfl⟩) (w := q.1) (t := .set (settingOf (ptsD q.2))) (List.mem_map.mpr ⟨q, hq, rfl⟩)
  exact ⟨_, this.1, this.2⟩
theorem own_in (g : GoodE ws os sp) (h : hasW (endS sp).own (.str s) = true) : s ∈ ws := by
  obtain ⟨p, hp, e⟩ := hasW_iff.mp h
  have : keyD p.1 ∈ (endS sp).own.map (fun p => keyD p.1) := List.mem_map.mpr ⟨p, hp, rfl⟩
  rw [own_words g, e] at this
  obtain ⟨x, hx, ex⟩ := List.mem_map.mp this
  have ex : PyData.str x = .str s := ex
  injection ex with ex
  subst ex
  exact (sortS_perm _).mem_iff.mp hx
theorem own_raw (g : GoodE ws os sp) (k : WordsOk ws os) : hasW (ownIt sp.own) (.str s) = hasW (endS sp).own (.str s) := by
  rw [Bool.eq_iff_iff]
  constructor
  · intro h
    obtain ⟨p, hp, e⟩ := hasW_iff.mp h
    obtain ⟨q, hq, rfl⟩ := List.mem_map.mp hp
    have e : (Sum.inr q.1 : Key) = .inr s := e
    injection e with e
    subst e
    obtain ⟨_, _, h⟩ := own_at (s := q.1) g k (by rw [← g.own]; exact List.mem_map.mpr ⟨q, hq, rfl⟩)
    exact h
  · intro h
    have := own_in g h
    rw [← g.own] at this
    obtain ⟨q, hq, rfl⟩ := List.mem_map.mp this
    exact hasW_iff.mpr ⟨_, List.mem_map.mpr ⟨q, hq, rfl⟩, rfl⟩
end
theorem ev_strQ {te : TE} {σ : L2.St} {H : Hp} {s : Str} (h : EvP te σ H (Qe (.str s))) : Ev te σ H (.str s) := fun H1 e Q q => h H1 e _ fun x H2 e2 p => by
  have p : Dq H2 x (.str s) := p
  cases p
  exact q H2 e2
abbrev sOwners : Stmt := Tp.s__law_owners
abbrev nOwn : List Str := ["p", "made", "words", "word", "name"]
theorem scOwners : FnScope nOwn ["p", "made", "words"] (defScope sOwners) := ⟨rfl, rfl, rfl, by decide +kernel, rfl, by decide +kernel, by decide +kernel⟩
def spOwners (K : PySem.W.Frag) (C CE CP : Addr) : Sp := fun vs H Q _ => vs.length = 3 ∧ ∃ x y z l r wd ws, vs = [x, y, z] ∧ PactSp Sr K l r x H ∧ PactV K C CE CP (endS l) (endS r) y H ∧ Dq H z (.list (List.map PyData.str ws)) ∧ wd ∈ wordsT ∧ GoodE wd.1 wd.2 l ∧ GoodE wd.2 wd.1 r ∧ (∀ s ∈ ws, s ∈ wd.1 ∨ s ∈ wd.2) ∧ ∀ H', Ex H H' → Q (.bl true) H'
section
variable {P : Program} {w : World} {K : PySem.W.Frag} {mg : Str → Option Value} {base : Heap} {C CE CP CN CB CS CD CBE : Addr}
theorem ok_owners (D : Dn K mg "_law_owners" sOwners) (S : SetC P w K mg base C CS) (SM : EndM P w K mg base C CE CD CN) (SP : PactC P w K mg base C CE CP CN CB) : Use P w K mg base 5 "_law_owners" ["p", "made", "words"] (spOwners K C CE CP) := by
  refine use_of D scOwners (fun f fd F => F.binds (ps := ["p", "made", "words"]) fun _ _ _ _ _ _ us hl => match us, hl with | [_, _, _], _ => rfl) (fun vs H Q E h => h.1) (fun f cdv A outer s H vs Q E hr h => ?_)
  obtain ⟨_, x, y, z, l, r, wd, ws, rfl, hp, hy, hz, hw, gl, gr, mem, q⟩ := h
  have hu1 : (A.deeper (envOfC "_law_owners" (defScope sOwners) s.heap.objs.size f cdv)).units + 1 < cLine := by have := hr.un; omega
  have nd := scOwners.nd
  refine ⟨_, pss_cons (ps_for PassesOwn.never rfl (pi_list (pv 2)) (pg_name (i := 3) nd rfl (Or.inl rfl))
      (pss_cons (ps_set (i := 4) nd rfl (Or.inl rfl) (pe_ifExp (pt_cmp (pc_din hu1 (pv 3) (pe_dget hu1 (pe_dget hu1 (pv 0) pe_str (fun _ _ => rfl)) pe_str (fun _ _ => rfl)))) pe_str pe_str))
      (pss_one (ps_if (PW.pt (pw_or (pt_cmpR op_ne (pe_mC (E := fun _ _ _ => False) SP.owner SP.T.cl hr (by decide) (passes_call LamX.takes0 fun _ _ _ _ h => h) (pv 1) (pa_cons (pv 3) pa_nil)) (pv 4) (nomark _)) (pw_or1 (pt_cmpR (op_neSet S hr (by decide)) (pe_mC (E := fun _ _ _ => False) SP.setting SP.T.cl hr (by decide) (passes_call LamX.takes0 fun _ _ _ _ h => h) (pv 1) (pa_cons (pv 3) pa_nil)) (pe_settingM (E := fun _ _ _ => False) SM hr (by decide) (passes_call LamX.takes0 fun _ _ _ _ h => h) (pe_mC (E := fun _ _ _ => False) SP.end_ SP.T.cl hr (by decide) (passes_call LamX.takes0 fun _ _ _ _ h => h) (pv 1) (pa_cons (pv 4) pa_nil)) (pa_cons (pv 3) pa_nil)) (nomark _))))) (pss_one (ps_ret pe_bl)) pss_nil))))
    (pss_one (ps_ret pe_bl)), ?_⟩
  have N := neatP hw gl gr
  have k := words_ok _ hw
  obtain ⟨pp, pa, pb, rfl, hpp, hl, hr2⟩ := hp
  obtain ⟨ep, ds, du, dr, epa, hE⟩ := id hl
  cases epa
  obtain ⟨v1, v2, v3, h1, h2, h3, h4, i1, i2, i3⟩ := id hE.ex
  have kv1 : v1.map (·.1) = (ownIt l.own).map (·.1) := by rw [i1.keys, own_keys, List.map_map]; rfl
  cases hz with
  | @lst lz xs _ zz hlz hd =>
    have := strs_of hd
    subst this
    refine q_forLn (K := K) (a := lz) (xs := ws.map V.str) (ev_var rfl) (sq_of hlz) (fun i σ' H' => ∃ o3 o4, σ' = [some (.ref pp), some y, some (.ref lz), o3, o4] ∧ Ex H H')
      (fun H3 e3 => ⟨none, none, rfl, e3⟩) (fun i σ' H' _ ⟨_, _, _, ex⟩ => sq_of (ex _ _ hlz)) ?turn ?done
    case done =>
      rintro σ' H' ⟨o3, o4, rfl, ex⟩
      exact s_ret ev_c fun H2 e2 => q H2 (ex.trans e2)
    case turn =>
      rintro i v σ' H' hv ⟨o3, o4, rfl, ex⟩
      rw [List.getElem?_map] at hv
      obtain ⟨sw, hsw, rfl⟩ := Option.map_eq_some_iff.mp hv
      have hmem := mem sw (List.mem_of_getElem? hsw)
      obtain ⟨nm, hnm, hn, b, hb, hs1, hs2, hs3, hs4, hs5⟩ : ∃ nm, getK (ownersI (endS l) (endS r)) sw = .d (.str nm) ∧ inT namesT (.str nm) = true ∧ ∃ b, hasW (endS l).own (.str sw) = b ∧ nm = (if b then "left" else "right") ∧ hasW (ownersI (endS l) (endS r)) (.str sw) = true ∧ hasW (selP (endS l) (endS r) nm).own (.str sw) = true ∧ ((selP (endS l) (endS r) nm).own.map (·.1)).Nodup ∧ ∃ t, getK (selP (endS l) (endS r) nm).own sw = .set t ∧ setOf (endS l) (endS r) sw = .set t := by
        cases c : hasW (endS l).own (.str sw) with
        | true =>
          obtain ⟨t, g1, _⟩ := own_at gl k.1 (own_in gl c)
          have e : selP (endS l) (endS r) "left" = endS l := if_pos rfl
          refine ⟨"left", owner_left N c, by decide +kernel, true, rfl, rfl, by rw [hasW_owners, c]; rfl, by rw [e]; exact c, by rw [e]; exact N.nl.so.2.2, t, by rw [e]; exact g1, ?_⟩
          unfold setOf
          rw [if_pos c]
          exact g1
        | false =>
          have m2 : sw ∈ wd.2 := hmem.resolve_left fun m => by
            obtain ⟨_, _, g2⟩ := own_at gl k.1 m
            rw [c] at g2
            cases g2
          obtain ⟨t, g1, g2⟩ := own_at gr k.2 m2
          have e : selP (endS l) (endS r) "right" = endS r := if_neg (by decide)
          refine ⟨"right", owner_right N g2, by decide +kernel, false, rfl, rfl, by rw [hasW_owners, c, g2]; rfl, by rw [e]; exact g2, by rw [e]; exact N.nr.so.2.2, t, by rw [e]; exact g1, ?_⟩
          unfold setOf
          rw [if_neg (by rw [c]; exact fun z => nomatch z)]
          exact g1
      obtain ⟨t, hs5, hs6⟩ := hs5
      have sub2 : ∀ {σ : L2.St} {Hx : Hp}, σ[0]? = some (some (.ref pp)) → Ex H Hx → Ev (tDGet (tDGet (tVar 0) (tC (.str "left"))) (tC (.str "settings"))) σ Hx (.ref ds) := fun {σ Hx} hσ ex => (p_dget (k := .inr "settings") (p_dget (k := .inr "left") (ev_var hσ) ev_c (.inl (ex _ _ hpp)) rfl (mo_is (v := .ref pa)) rfl).ev ev_c (.inl (ex _ _ h1)) rfl (mo_is (v := .ref ds)) rfl).ev
      refine d_asg (i := 4) (P := Is (.str nm)) ?name fun nv H2 e2 hnv => ?_
      case name =>
        have tst : EvT (tTest (tDIn (tVar 3) (tDGet (tDGet (tVar 0) (tC (.str "left"))) (tC (.str "settings"))))) [some (.ref pp), some y, some (.ref lz), some (.str sw), o4] H' b := et_is (et_test fun H6 e6 Q' q' => ⟨.str sw, rfl, sub2 rfl ex H6 e6 _ fun H7 e7 => ⟨ds, _, rfl, DGet.k (k := .inr sw) ((ex.trans (e6.trans e7)) _ _ h2), q' H7 e7⟩⟩) (by rw [has_val kv1 sw, own_raw gl k.1]; exact hb)
        refine p_ife (b := b) tst (fun c => ?_) fun c => ?_
        · subst c
          exact .of ev_c mo_is (by rw [hs1]; rfl)
        · subst c
          exact .of ev_c mo_is (by rw [hs1]; rfl)
      have hnv : nv = V.str nm := hnv
      subst hnv
      have e02 := ex.trans e2
      have vy : ∀ {Hx : Hp}, Ex H2 Hx → EvP (tVar 1) [some (.ref pp), some y, some (.ref lz), some (.str sw), some (.str nm)] Hx (PactV K C CE CP (endS l) (endS r)) := fun e3 => p_var rfl mo_pact (mo_pact _ _ _ (e02.trans e3) hy)
      have ow := p_ownerP (CN := CN) (E := fun _ _ _ => False) (ty := tVar 3) (vy (Ex.refl _)) N (ev_var rfl) hs2
      rw [hnm] at ow
      have s1 := p_settingP (CN := CN) (E := fun _ _ _ => False) (ty := tVar 3) (vy (Ex.refl _)) N (ev_var rfl) hs2
      rw [hs6] at s1
      have s2 := p_settingM (CN := CN) (E := fun _ _ _ => False) (ty := tVar 3) ((p_endP (CN := CN) (E := fun _ _ _ => False) (ty := tVar 4) (vy (Ex.refl _)) (ev_var rfl) hn).imp fun v H' _ p => end_own p) hs4 (ev_var rfl) hs3
      rw [hs5] at s2
      refine s_when (b := false) (et_is (et_or (et_test (ev_op (ev_strQ ow) (ev_var rfl) (rv_ne rfl))) fun _ => et_test (ev_own (neg := true) s1 s2)) ?_) (fun c => nomatch c) fun _ HB eB => ⟨_, _, rfl, e02.trans eB⟩
      simp [EqE.eqS_self]
end
end Lw
set_option maxHeartbeats 4000000
/-! _law_odd (k02): a part of an end that is none. -/
namespace Lw
open PySem PySem.Spec PyProof.Rows L2 Evl Pd Gd Us Chk Wlk
section
variable {K : PySem.W.Frag} {C : Addr} {H : Hp} {its : Its'} {kvs : List (Key × V)} {t : Itm} {v : V} {k : Key}
theorem ItemsV.cons (hv : ItmV K C t v H) (h : ItemsV K C its kvs H) : ItemsV K C ((k, t) :: its) ((k, v) :: kvs) H := ⟨by simp [h.len], fun i k2 t2 hi => by
  cases i with
  | zero =>
    cases hi
    exact ⟨v, rfl, hv⟩
  | succ i => exact h.at_ i k2 t2 hi⟩
theorem itemsV_nil : ItemsV K C [] [] H := ⟨rfl, fun i k t h => by simp at h⟩
end
/-! ### dict displays -/
section
variable {K : PySem.W.Frag} {C : Addr} {σ : L2.St} {H : Hp} {te tk tv ta tb : TE} {trs : List (TE × TE)} {its : Its'} {d : PyData} {O O' : PV} {n m lo lo' : Nat}
def PIt (K : PySem.W.Frag) (C : Addr) (σ : L2.St) (H : Hp) : List (TE × TE) → Its' → Prop
  | [], [] => True
  | p :: r, q :: its => Ev p.1 σ H (kV q.1) ∧ EvP p.2 σ H (ItmV K C q.2) ∧ PIt K C σ H r its
  | _, _ => False
theorem pit_nil : PIt K C σ H [] [] := trivial
theorem pit_cons {k : Key} {t : Itm} (h1 : Ev tk σ H (kV k)) (h2 : EvP tv σ H (ItmV K C t)) (h3 : PIt K C σ H trs its) : PIt K C σ H ((tk, tv) :: trs) ((k, t) :: its) := ⟨h1, h2, h3⟩
theorem p_pairs : ∀ {trs : List (TE × TE)} {its : Its'}, PIt K C σ H trs its → ∀ H1, Ex H H1 → ∀ Q : List (V × V) → Hp → Prop, (∀ kvs H2, Ex H1 H2 → ItemsV K C its kvs H2 → Q (kvs.map fun kv => (kV kv.1, kv.2)) H2) → tPairs trs σ H1 Q
  | [], [], _ => fun H1 _ Q q => q [] H1 (Ex.refl _) itemsV_nil
  | (tk, tv) :: r, (k, t) :: its, ⟨h1, h2, h3⟩ => fun H1 e Q q => h1 H1 e _ fun H2 e2 => h2 H2 (e.trans e2) _ fun y H3 e3 py => p_pairs h3 H3 (e.trans (e2.trans e3)) _ fun kvs H4 e4 hi => q ((k, y) :: kvs) H4 (e2.trans (e3.trans e4)) (Lw.ItemsV.cons (mo_itm _ _ _ e4 py) hi)
theorem p_disp (h : ∀ H1, Ex H H1 → PIt K C σ H1 trs its) (hl : its.length ≤ 15) (nd : (its.map (·.1)).Nodup) : EvP (tDisp trs) σ H (DctV Sr K C its) := fun H1 e Q q p hp =>
  p_pairs (h _ (e.trans (Ex.new hp))) _ (Ex.refl _) _ fun kvs H2 e2 hi => by
    have h2 := e2 _ _ (upd_same (a := p))
    have nk : (kvs.map (·.1)).Nodup := by rw [hi.keys]; exact nd
    refine ⟨h2, kvs, rfl, by rw [hi.len]; exact hl, ?_⟩
    rw [merge_nodup nk]
    exact q (.ref p) _ (((Ex.new hp).trans e2).mut hp) ⟨p, kvs, rfl, upd_same, hi.put h2⟩
theorem p_argK (h : EvP te σ H (DctV Sr K C its)) (sm : Small its) : EvP te σ H (ArgV K C (.dct its)) := h.imp fun _ _ _ p => ⟨p, sm⟩
theorem p_argD (h : EvP te σ H (Qe d)) (few : Few d) (sh : Short d) : EvP te σ H (ArgV K C (.d d)) := h.imp fun _ _ _ p => ⟨p, few, sh⟩
/-! ### lists of values of one kind -/
def AllL (O : PV) (lo n : Nat) : PV := fun x H => ∃ a xs, x = .ref a ∧ H a = some (.lst xs) ∧ (∀ v ∈ xs, O v H) ∧ lo ≤ xs.length ∧ xs.length ≤ n
theorem mo_allL (hm : Mo O) : Mo (AllL O lo n) := fun _ _ _ e ⟨a, xs, h1, h2, h3, h4⟩ => ⟨a, xs, h1, e _ _ h2, fun v hv => hm v _ _ e (h3 v hv), h4⟩
theorem allP_rep : ∀ {n : Nat} {xs : List V} {H : Hp}, AllP (List.replicate n O) xs H → (∀ v ∈ xs, O v H) ∧ xs.length = n
  | 0, [], _, _ => ⟨(fun _ h => nomatch h), rfl⟩
  | n + 1, x :: xs, H, ⟨h1, h2⟩ => by
    obtain ⟨a, b⟩ := allP_rep h2
    refine ⟨fun v hv => ?_, congrArg (· + 1) b⟩
    rcases List.mem_cons.mp hv with rfl | hv
    · exact h1
    · exact a v hv
theorem p_allL {tr : TA} (hm : Mo O) (h : EvPs tr σ H (List.replicate n O)) (hl : n ≤ 1000) : EvP (tLst tr) σ H (AllL O n n) :=
  (p_lst (fun P hP => by rw [(List.mem_replicate.mp hP).2]; exact hm) h (by rw [List.length_replicate]; omega)).imp fun x H1 _ ⟨a, xs, h1, h2, h3⟩ => by
    obtain ⟨c, e⟩ := allP_rep h3
    exact ⟨a, xs, h1, h2, c, by omega, by omega⟩
theorem p_catL (hm : Mo O) (h1 : EvP ta σ H (AllL O lo n)) (h2 : EvP tb σ H (AllL O lo' m)) (hl : n + m ≤ 1000) : EvP (tOp rCat ta tb) σ H (AllL O (lo + lo') (n + m)) := fun H1 e Q q =>
  h1 H1 e _ fun x H2 e2 ⟨a, xs, ex, hx, ax, l1, l2⟩ => h2 H2 (e.trans e2) _ fun y H3 e3 ⟨b, ys, ey, hy, ay, k1, k2⟩ => by
    refine ⟨a, b, xs, ys, ex, ey, e3 _ _ hx, hy, sz_of (by omega), fun p hp => ?_⟩
    have e4 : Ex H3 (upd H3 p (.lst (xs ++ ys))) := Ex.new hp
    refine q (.ref p) _ (e2.trans (e3.trans e4)) ⟨p, xs ++ ys, rfl, upd_same, fun v hv => ?_, by rw [List.length_append]; omega, by rw [List.length_append]; omega⟩
    rcases List.mem_append.mp hv with c | c
    · exact hm v _ _ (e3.trans e4) (ax v c)
    · exact hm v _ _ e4 (ay v c)
theorem p_pickL {E : XK} (hm : Mo O) (h1 : EvP ta σ H (PoolV K)) (h2 : EvP tb σ H (AllL O lo n)) (h0 : 0 < lo) : EvP (tCall (spPick K) [] E (tCons ta (tCons tb tNil))) σ H O := fun H1 e Q q =>
  h1 H1 e _ fun x H2 e2 p1 => h2 H2 (e.trans e2) _ fun y H3 e3 ⟨a, xs, ey, hx, ax, l1, l2⟩ => by
    refine ⟨x, a, xs, by rw [ey]; rfl, mo_pool _ _ _ e3 p1, sq_of hx, fun z => by rw [z] at l1; exact absurd l1 (by simp; omega), fun v H4 i hv e4 => q v H4 (e2.trans (e3.trans e4)) (hm v _ _ e4 (ax v (List.mem_of_getElem? hv)))⟩
/-- [.. for target in a walk] -/
theorem p_lcO {wi : TI} {J : It} {n : Nat} {G : Hp → Prop} {Y : Nat → Hp → V → Hp → Prop} {g : TG} {vs : List Nat} (hm : Mo O) (hw : ∀ D v H ys ys', H D = some (.lst ys) → O v H → O v (upd H D (.lst ys'))) (w : Walk J n G Y) (hn : n ≤ 900)
    (hwi : ∀ H1, Ex H H1 → ∀ R : It → Hp → Prop, (∀ H2, Ex H1 H2 → R J H2) → wi σ H1 R) (hG : ∀ H1, Ex H H1 → G H1)
    (step : ∀ (i : Nat) (x : V) (H1 H2 : Hp), i < n → Ex H H1 → Y i H1 x H2 → Ex H1 H2 ∧ ∃ σ2, (∀ k : L2.St → Hp → Prop, k σ2 H2 → g x (wipe σ vs) H2 k) ∧ wipe σ2 vs = wipe σ vs ∧ EvP te σ2 H2 O) :
    EvP (tLc wi g tYes te vs) σ H (AllL O 0 n) := fun H0 e Q q => hwi H0 e _ fun H1 e1 D hD => by
  refine lc_it w (fun i H' => Ex H1 H' ∧ ∃ ys, H' D = some (.lst ys) ∧ (∀ v ∈ ys, O v H') ∧ ys.length ≤ i) ⟨Ex.new hD, [], upd_same, (fun _ h => nomatch h), Nat.le_refl _⟩ (fun i H' _ p => hG H' ((e.trans e1).trans p.1)) (fun i x H2 H3 hi p y => ?_) fun H' p => ?_
  · obtain ⟨ex, ys, hy, al, hl⟩ := p
    obtain ⟨e3, σ2, gk, hwp, he⟩ := step i x H2 H3 hi ((e.trans e1).trans ex) y
    refine gk _ ⟨hwp, ?_⟩
    unfold tYes
    simp only [if_true]
    refine he H3 (Ex.refl _) _ fun u H4 e4 pu => ?_
    have e34 := e3.trans e4
    have hy4 := e34 _ _ hy
    refine ⟨ys, hy4, sz_lt (by omega), (ex.trans e34).mut hD, ys ++ [u], upd_same, fun v hv => ?_, by simp; omega⟩
    rcases List.mem_append.mp hv with c | c
    · exact hw D v _ _ _ hy4 (hm v _ _ e34 (al v c))
    · rw [List.mem_singleton.mp c]
      exact hw D u _ _ _ hy4 pu
  · obtain ⟨ex, ys, hy, al, hl⟩ := p
    exact q (.ref D) H' (e1.trans ex) ⟨D, ys, rfl, hy, al, Nat.zero_le _, hl⟩
end
theorem allL_imp {O O' : PV} {lo n : Nat} {x : V} {H : Hp} (k : ∀ v, O v H → O' v H) (h : AllL O lo n x H) : AllL O' lo n x H := by
  obtain ⟨a, xs, h1, h2, h3, h4⟩ := h
  exact ⟨a, xs, h1, h2, fun v hv => k v (h3 v hv), h4⟩
/-! ### what is no part of an end -/
def O0 (K : PySem.W.Frag) (C : Addr) : PV := fun x H => ∃ A, ArgV K C A x H ∧ okSets A = false
def O1 (K : PySem.W.Frag) (C : Addr) (ws : List Str) : PV := fun x H => ∃ A, ArgV K C A x H ∧ PlainA A ∧ ∀ own : List Key, (∀ k, k ∈ own ↔ k ∈ ws.map (Sum.inr : Str → Key)) → okUses own A = false
def O2 (K : PySem.W.Frag) (C : Addr) : PV := fun x H => ∃ A, ArgV K C A x H ∧ PlainA A ∧ okRules A = false
def O3 : PV := fun x H => ∃ d, Qe d x H ∧ betw 1 3 d = false
def OddP (K : PySem.W.Frag) (C : Addr) (ws : List Str) : Nat → PV
  | 0 => O0 K C
  | 1 => O1 K C ws
  | 2 => O2 K C
  | _ => O3
section
variable {K : PySem.W.Frag} {C : Addr} {ws : List Str} {σ : L2.St} {H : Hp} {te : TE} {A : Chk.Arg} {d : PyData}
theorem mo_o0 : Mo (O0 K C) := fun _ _ _ e ⟨A, h1, h2⟩ => ⟨A, mo_arg _ _ _ e h1, h2⟩
theorem mo_o1 : Mo (O1 K C ws) := fun _ _ _ e ⟨A, h1, h2⟩ => ⟨A, mo_arg _ _ _ e h1, h2⟩
theorem mo_o2 : Mo (O2 K C) := fun _ _ _ e ⟨A, h1, h2⟩ => ⟨A, mo_arg _ _ _ e h1, h2⟩
theorem mo_o3 : Mo O3 := fun _ _ _ e ⟨d, h1, h2⟩ => ⟨d, mo_qe _ _ _ e h1, h2⟩
theorem p_o0 (h : EvP te σ H (ArgV K C A)) (b : okSets A = false) : EvP te σ H (O0 K C) := h.imp fun _ _ _ p => ⟨A, p, b⟩
theorem p_o1 (h : EvP te σ H (ArgV K C A)) (pl : PlainA A) (b : ∀ own : List Key, (∀ k, k ∈ own ↔ k ∈ ws.map (Sum.inr : Str → Key)) → okUses own A = false) : EvP te σ H (O1 K C ws) := h.imp fun _ _ _ p => ⟨A, p, pl, b⟩
theorem p_o2 (h : EvP te σ H (ArgV K C A)) (pl : PlainA A) (b : okRules A = false) : EvP te σ H (O2 K C) := h.imp fun _ _ _ p => ⟨A, p, pl, b⟩
theorem p_o3 (h : EvP te σ H (Qe d)) (b : betw 1 3 d = false) : EvP te σ H O3 := h.imp fun _ _ _ p => ⟨d, p, b⟩
theorem p_nonD : EvP (tC .non) σ H (ArgV K C (.d .none)) := p_argD (.of ev_c mo_qe .non) (fun _ z => nomatch z) (fun _ z => nomatch z)
theorem p_nilD : EvP (tLst tNil) σ H (ArgV K C (.d (.list []))) := p_argD (q_lst (ds := []) ps_nil) (fun _ z => nomatch z) (fun ds z => by cases z; decide)
/-- {k: v}, one pair of data -/
theorem p_dict1 {tk tv : TE} {k : Key} {d : PyData} (h1 : Ev tk σ H (kV k)) (h2 : EvP tv σ H (Qe d)) (fk : FewK k) (few : Few d) (sh : Short d) : EvP (tDisp [(tk, tv)]) σ H (ArgV K C (.dct [(k, .d d)])) :=
  p_argK (p_disp (fun H1 e => pit_cons (t := .d d) (h1.mono e) (h2.up e) pit_nil) (by simp) (by simp)) ⟨by simp, fun p hp => by rw [List.mem_singleton.mp hp]; exact ⟨fk, few, sh⟩, by simp⟩
theorem plain1 {k : Key} {d : PyData} : PlainA (.dct [(k, .d d)]) := fun p hp => by rw [List.mem_singleton.mp hp]; exact ⟨d, rfl⟩
end
end Lw
set_option maxHeartbeats 2000000
/-! k04: before the law's own body. -/
namespace Lw
open PySem PySem.Spec PyProof.Rows L2 Evl Pd Gd Us Chk Wlk LamX LamK LamG
/-! ### what is no end -/
section
variable {K : PySem.W.Frag} {C CE CP : Addr} {H : Hp}
theorem noE_ty {x : V} {t : String} (h : ∀ H1, Ex H H1 → TyX K H1 x (.type t)) (k : PySem.W.kitOne K (.type t) (.ref CE) = some false) : NoE K CE x H := ⟨_, h, k⟩
theorem noE_none (B : NotB K CE) : NoE K CE .non H := ⟨.type "NoneType", fun _ _ => .base .non, B.non⟩
theorem noE_int (B : NotB K CE) {i : Int} : NoE K CE (.int i) H := ⟨.type "int", fun _ _ => .base (.int i), B.int⟩
theorem noE_str (B : NotB K CE) {s : Str} : NoE K CE (.str s) H := ⟨.type "str", fun _ _ => .base (.str s), B.str⟩
theorem noE_dict (B : NotB K CE) {a : Addr} {kvs : List (Key × V)} (h : H a = some (.dK kvs)) : NoE K CE (.ref a) H := ⟨.type "dict", fun H1 e => .base (.dK (e _ _ h)), B.dict⟩
theorem noE_pact (T : ClsP K CP) (I : C8.InsC K CP) (no : PySem.W.kitOne K (.ref CP) (.ref CE) = some false) {l r : Eg} {x : V} (h : PactV K C CE CP l r x H) : NoE K CE x H := by
  obtain ⟨a, rfl, at_⟩ := h
  obtain ⟨dx, fs, u, v, dd, ws, h0, _⟩ := at_.ex
  exact ⟨.ref CP, fun H1 e => .base (.ins (e _ _ h0) T.cl I.ha I.hn I.htk I.hm), no⟩
end
/-! ### statements -/
section
variable {T : TabT} {K : PySem.W.Frag} {C CE CP a0 a1 a2 a3 a4 a5 a6 a7 a8 a9 : Addr} {σ : L2.St} {H : Hp} {ta tb te tl t0 t1 t2 : TE} {P R : PV} {D : Ends} {tz tu : TS} {E : XK} {d : PyData} {l r : Eg}
theorem q_par {i j : Nat} (hP : Mo P) (h1 : EvP ta σ H P) (h2 : EvP tb σ H R) (k : ∀ x y H1, Ex H H1 → P x H1 → R y H1 → tz D ((σ.set i (some x)).set j (some y)) H1) : tSeq (tPar i j (tCons ta (tCons tb tNil))) tz D σ H :=
  h1 H (Ex.refl H) _ fun x H1 e1 px => h2 H1 e1 _ fun y H2 e2 py => ⟨x, y, rfl, k x y H2 (e1.trans e2) (hP _ _ _ e2 px) py⟩
/-- a call that raises BadPact, told -/
theorem n_badPact {t : XK → TE} {p : Str} (h : ∀ (H1 : Hp) (E : XK) (Q : VK), ExtN H H1 → (∀ o H', Ex H1 H' → H' o = none → E (.ref a2) (some o) (upd H' o (.xd [("part", V.str p)]))) → t E σ H1 Q) :
    EN T (tLam T (TBad K (errs a0 a1 a2 a3 a4 a5 a6 a7 a8 a9)) t) σ H (Qe (.list [.str "pact", .str p])) := fun H1 e1 hT Q q => by
  refine ⟨hT, fun H2 e2 T2 => ?_⟩
  refine h H2 _ _ (e1.trans e2) fun o H3 e3 no3 => ?_
  have x1 : Ex H3 (upd H3 o (.xd [("part", .str p)])) := Ex.new no3
  refine ⟨[⟨a0, "setting", "part", false⟩, ⟨a1, "end", "part", false⟩], ⟨a2, "pact", "part", false⟩, _, o, .str p, .str p, rfl, rfl, rfl, upd_same, rfl, fun pp np => ?_⟩
  have x2 := x1.trans (Ex.new (o := .lst [.str "pact", .str p]) np)
  exact q _ _ (e2.trans (ExtN.of (e3.trans x2))) (T2.ext (e3.trans x2)) (.lst (xs := [.str "pact", .str p]) (show 2 ≤ 100000 by decide) upd_same (.cons (.str _) (.cons (.str _) .nil)))
theorem nt_not2 {t : TT} {b : Bool} (h : ENT T t σ H b) : ENT T (tNot t) σ H (!b) := fun H1 e hT Q q => h H1 e hT _ fun H2 e2 t2 => q H2 e2 t2
theorem nt_B2 {b : Bool} (h : EN T te σ H (Is (.bl b))) : ENT T (tB te) σ H b := fun H1 e hT Q q => h H1 e hT _ fun x H2 e2 t2 p => ⟨b, p, q H2 e2 t2⟩
theorem nt_or2 {t u : TT} {b c : Bool} (h1 : ENT T t σ H b) (h2 : b = false → ENT T u σ H c) : ENT T (tOr t u) σ H (b || c) := fun H1 e hT Q q => h1 H1 e hT _ fun H2 e2 t2 => by
  cases b with
  | true =>
    show Q true H2
    exact q H2 e2 t2
  | false =>
    show u σ H2 Q
    exact h2 rfl H2 (e.trans e2) t2 Q fun H3 e3 t3 => q H3 (e2.trans e3) t3
theorem n_oddP (h0 : ∀ H1, ExtN H H1 → EvP t0 σ H1 (PactV K C CE CP l r)) (h1 : ∀ H1, ExtN H H1 → EvP t1 σ H1 (fun v H' => ∃ d, OddN l r d ∧ Dq H' v d)) (N : NeatP l r) :
    EN T (tCall (spOddP T K C CE CP) [] E (tCons t0 (tCons t1 tNil))) σ H (Is (.bl true)) := fun H1 e hT Q q =>
  h0 H1 e H1 (Ex.refl _) _ fun x H2 e2 px => h1 H1 e H2 e2 _ fun z H4 e4 ⟨d, O, hz⟩ => ⟨rfl, x, z, l, r, d, rfl, mo_pact _ _ _ e4 px, N, hz, O, hT.ext (e2.trans e4), fun H5 e5 t5 => q _ H5 ((ExtN.of (e2.trans e4)).trans e5) t5 rfl⟩
/-- two ends that do not fit -/
def TwoBad (K : PySem.W.Frag) (C CE : Addr) : PV := fun v H => ∃ t x y e1 e2, v = .ref t ∧ H t = some (.tup [x, y]) ∧ AnyV K C CE (.e e1) x H ∧ AnyV K C CE (.e e2) y H ∧ fitW e1 e2 = false
theorem mo_two : Mo (TwoBad K C CE) := fun _ _ _ e ⟨t, x, y, e1, e2, h1, h2, h3, h4, h5⟩ => ⟨t, x, y, e1, e2, h1, e _ _ h2, mo_any _ _ _ e h3, mo_any _ _ _ e h4, h5⟩
theorem mon_any {A : Any} : MoN (AnyV K C CE (.e l)) := fun _ _ _ e h => ⟨mon_end _ _ _ e h.1, h.2⟩
theorem mon_two : MoN (TwoBad K C CE) := fun _ _ _ e ⟨t, x, y, e1, e2, h1, h2, h3, h4, h5⟩ => ⟨t, x, y, e1, e2, h1, st_n e h2, mon_any (A := .no) _ _ _ e h3, mon_any (A := .no) _ _ _ e h4, h5⟩
theorem p_two2 {e1 e2 : Eg} (h1 : EvP ta σ H (AnyV K C CE (.e e1))) (h2 : EvP tb σ H (AnyV K C CE (.e e2))) (f : fitW e1 e2 = false) : EvP (tTup (tCons ta (tCons tb tNil))) σ H (TwoBad K C CE) := fun H1 e Q q =>
  h1 H1 e _ fun x H2 x2 p1 => h2 H2 (e.trans x2) _ fun y H3 x3 p2 => ⟨show (2 : Nat) ≤ sizeLine by decide, fun t nt => q (.ref t) _ (x2.trans (x3.trans (Ex.new nt))) ⟨t, x, y, e1, e2, rfl, upd_same, mo_any _ _ _ (x3.trans (Ex.new nt)) p1, mo_any _ _ _ (Ex.new nt) p2, f⟩⟩
/-- for one, two in [..] -/
theorem q_forTwo {n i j : Nat} (h : EvP tl σ H (AllL (TwoBad K C CE) n n)) (Pv : Hp → L2.St → Hp → Prop) (h0 : ∀ H1, Ex H H1 → Pv H1 σ H1) (hn : ∀ B σ' H', Pv B σ' H' → ExtN B H')
    (hs : ∀ B x y e1 e2 σ' H', AnyV K C CE (.e e1) x H' → AnyV K C CE (.e e2) y H' → fitW e1 e2 = false → Pv B σ' H' → tu { D with nx := Pv B, ct := Pv B, bk := tz D } ((σ'.set i (some x)).set j (some y)) H')
    (hd : ∀ B σ' H', Pv B σ' H' → tz D σ' H') : tSeq (tFor (iList K tl) (gTup K 2 (gCons (gName i) (gCons (gName j) gNil))) tu) tz D σ H := by
  refine h H (Ex.refl H) _ fun v H1 x1 ⟨a, xs, ev, ha, hall, _, _⟩ => ?_
  subst ev
  refine ⟨a, rfl, ⟨xs, sq_of ha⟩, for_list (K := K) (xs := xs) (fun _ σ' H' => Pv H1 σ' H') (h0 H1 x1) (fun _ σ' H' _ p => sq_of (st_n (hn _ _ _ p) ha)) (fun k v σ' H' hv p => ?_) (hd H1)⟩
  obtain ⟨t, x, y, e1, e2, rfl, ht, hx, hy, f⟩ := mon_two _ _ _ (hn _ _ _ p) (hall v (List.mem_of_getElem? hv))
  exact two_go ht (hs H1 x y e1 e2 σ' H' hx hy f p)
end
/-! ### the words -/
theorem strs_inj : ∀ {as bs : List Str}, as.map PyData.str = bs.map PyData.str → as = bs
  | [], [], _ => rfl
  | [], _ :: _, h => by cases h
  | _ :: _, [], h => by cases h
  | a :: as, b :: bs, h => by
    injection h with h1 h2
    injection h1 with h1
    rw [h1, strs_inj h2]
theorem sortS_one (x : Str) : sortS [x] = [x] := List.mergeSort_singleton x
theorem sortS_nil : sortS [] = [] := List.mergeSort_nil
theorem sortD_str (l : List Str) : sortD (l.map PyData.str) = (sortS l).map PyData.str := (List.map_mergeSort (r := leS) (s := PySem.W.dataLe false fun d => PyData.str (txt d)) (f := PyData.str) (l := l) fun a _ b _ => rfl).symm
theorem sort_app {as bs : List Str} (h : as = [] ∨ bs = [] ∨ ∃ x y, as = [x] ∧ bs = [y]) : sortS (as ++ bs) = sortS (sortS as ++ sortS bs) := by
  rcases h with rfl | rfl | ⟨x, y, rfl, rfl⟩
  · rw [sortS_nil, List.nil_append, List.nil_append, sortS_idem]
  · rw [sortS_nil, List.append_nil, List.append_nil, sortS_idem]
  · rw [sortS_one, sortS_one]
theorem fin_app : ∀ wd ∈ wordsT, wd.1 = [] ∨ wd.2 = [] ∨ ∃ x y, wd.1 = [x] ∧ wd.2 = [y] := by
  intro wd h
  unfold wordsT at h
  simp only [List.mem_cons, List.not_mem_nil, or_false] at h
  rcases h with rfl | rfl | rfl | rfl | rfl | rfl <;> simp
theorem fin_perm : ∀ wd ∈ wordsT, (wd.1.Perm wd.2 → False) ∧ (wd.1 = [] → wd.2 = [] → False) := by
  intro wd h
  unfold wordsT at h
  simp only [List.mem_cons, List.not_mem_nil, or_false] at h
  rcases h with rfl | rfl | rfl | rfl | rfl | rfl <;> exact ⟨by decide +kernel, by decide +kernel⟩
theorem own_keyS {ws os : List Str} {sp : Es} (g : GoodE ws os sp) : ((endS sp).own.map fun p => keyS p.1) = sortS ws := by
  have h := own_words g
  have : ((endS sp).own.map fun p => keyS p.1).map PyData.str = ((endS sp).own.map fun p => keyD p.1) := by
    rw [List.map_map]
    refine List.map_congr_left fun p hp => ?_
    have hp : p ∈ ordI (ownIt sp.own) := hp
    unfold ordI at hp
    obtain ⟨x, _, rfl⟩ := List.mem_map.mp hp
    rfl
  rw [h] at this
  exact strs_inj this
theorem words_pact {wd : List Str × List Str} {l r : Es} (gl : GoodE wd.1 wd.2 l) (gr : GoodE wd.2 wd.1 r) : wordsI (ownersI (endS l) (endS r)) = sortS (sortS wd.1 ++ sortS wd.2) := by
  unfold wordsI ownersI ownI
  rw [List.map_append, List.map_map, List.map_map]
  show sortS (((endS l).own.map fun p => keyS p.1) ++ ((endS r).own.map fun p => keyS p.1)) = _
  rw [own_keyS gl, own_keyS gr]
theorem words_law {wd : List Str × List Str} {l r : Es} (hw : wd ∈ wordsT) (gl : GoodE wd.1 wd.2 l) (gr : GoodE wd.2 wd.1 r) : sortD ((wd.1 ++ wd.2).map PyData.str) = (wordsI (ownersI (endS l) (endS r))).map PyData.str := by
  rw [sortD_str, words_pact gl gr, sort_app (fin_app _ hw)]
theorem words_shaped {wd : List Str × List Str} {l r : Es} (hw : wd ∈ wordsT) (gl : GoodE wd.1 wd.2 l) (gr : GoodE wd.2 wd.1 r) : SeqAt.shaped (.list ((wordsI (ownersI (endS l) (endS r))).map PyData.str)) = true := by
  have s := strs_ok _ hw
  obtain ⟨h1, h2⟩ := lay_words (l := (wordsI (ownersI (endS l) (endS r))).map PyData.str) fun d hd => by
    obtain ⟨x, hx, rfl⟩ := List.mem_map.mp hd
    refine ⟨x, rfl, ?_⟩
    rw [words_pact gl gr] at hx
    rcases List.mem_append.mp ((sortS_perm _).mem_iff.mp hx) with h | h
    · exact s.1 x ((sortS_perm _).mem_iff.mp h)
    · exact s.2 x ((sortS_perm _).mem_iff.mp h)
  show (PyData.canLayAll0 _ && decide (PyData.depthAll _ + 1 ≤ 64)) = true
  rw [h1, decide_eq_true (by omega)]
  rfl
theorem fit_perm {ws os ws' os' : List Str} {l r : Es} (gl : GoodE ws os l) (gr : GoodE ws' os' r) (kl : WordsOk ws os) (kr : WordsOk ws' os') (f : fitW (endS l) (endS r) = true) : os.Perm ws' ∧ os'.Perm ws := by
  obtain ⟨h1, h2⟩ := fit_keys (neatS gl kl) (neatS gr kr) f
  have i1 := congrArg (List.map keyD) h1
  have i2 := congrArg (List.map keyD) h2
  rw [List.map_map, List.map_map] at i1 i2
  have j1 : (sortS os).map PyData.str = (sortS ws').map PyData.str := (uses_words gl).symm.trans (i1.trans (own_words gr))
  have j2 : (sortS os').map PyData.str = (sortS ws).map PyData.str := (uses_words gr).symm.trans (i2.trans (own_words gl))
  have q1 := strs_inj j1
  have q2 := strs_inj j2
  exact ⟨(sortS_perm os).symm.trans (by rw [q1]; exact sortS_perm ws'), (sortS_perm os').symm.trans (by rw [q2]; exact sortS_perm ws)⟩
/-- an end with nothing -/
def lone : Es := ⟨[], [], [], 1⟩
theorem good_lone : GoodE [] [] lone := ⟨rfl, (fun _ h => nomatch h), by decide, rfl, (fun _ h => nomatch h), by simp [lone], (fun _ h => nomatch h), (fun _ h => nomatch h), .inl rfl⟩
theorem words_lone : WordsOk [] [] := by
  constructor <;> simp
theorem laid_lone : Laid (endS lone) := laidS good_lone ⟨(fun _ h => nomatch h), fun _ h => nomatch h⟩
theorem neat_lone : NeatP (endS lone) (endS lone) := by
  refine ⟨neatS good_lone words_lone, neatS good_lone words_lone, laid_lone, laid_lone, ?_⟩
  unfold fitW
  rw [uses_eq good_lone good_lone, Bool.and_self]
  exact SeqAt.eqv_refl _ (SeqAt.canLay_of_shaped laid_lone.own)
theorem lone_words : wordsI (ownersI (endS lone) (endS lone)) = [] := by
  have := words_pact (wd := ([], [])) good_lone good_lone
  rw [this, sortS_nil]
  exact sortS_nil
section
variable {wd : List Str × List Str} {l r : Es}
theorem bad_ll (hw : wd ∈ wordsT) (gl : GoodE wd.1 wd.2 l) : fitW (endS l) (endS l) = false := Bool.eq_false_iff.mpr fun f => (fin_perm _ hw).1 (fit_perm gl gl (words_ok _ hw).1 (words_ok _ hw).1 f).1.symm
theorem bad_rr (hw : wd ∈ wordsT) (gr : GoodE wd.2 wd.1 r) : fitW (endS r) (endS r) = false := Bool.eq_false_iff.mpr fun f => (fin_perm _ hw).1 (fit_perm gr gr (words_ok _ hw).2 (words_ok _ hw).2 f).1
theorem bad_lo (hw : wd ∈ wordsT) (gl : GoodE wd.1 wd.2 l) : fitW (endS l) (endS lone) = false := Bool.eq_false_iff.mpr fun f => by
  have := fit_perm gl good_lone (words_ok _ hw).1 words_lone f
  exact (fin_perm _ hw).2 this.2.symm.eq_nil this.1.eq_nil
theorem bad_or (hw : wd ∈ wordsT) (gr : GoodE wd.2 wd.1 r) : fitW (endS lone) (endS r) = false := Bool.eq_false_iff.mpr fun f => by
  have := fit_perm good_lone gr words_lone (words_ok _ hw).2 f
  exact (fin_perm _ hw).2 this.2.eq_nil this.1.symm.eq_nil
end
end Lw
set_option maxHeartbeats 2000000
/-! k04: what the law draws and asks. -/
namespace Lw
open PySem PySem.Spec PyProof.Rows L2 Evl Pd Gd Us Chk Wlk LamX LamK LamG
/-! ### no names, no words -/
def noN : List PyData := [.str "nowhere", .str "", .none, .int 3, .list [.str "left"], .str "Left", .tuple [.str "a"], .bool true]
theorem noN_b : ∀ d ∈ noN, (inT namesT d = false ∧ SeqAt.shaped (.list [.str "name", .str d.shown]) = true) ∧ (d.showable = true ∧ d.hasDict = false) ∧ d.depth ≤ 40 ∧ d.shown.length ≤ sizeLine := by
  intro d hd
  unfold noN at hd
  simp only [List.mem_cons, List.not_mem_nil, or_false] at hd
  rcases hd with rfl | rfl | rfl | rfl | rfl | rfl | rfl | rfl <;> exact ⟨⟨by decide +kernel, by decide +kernel⟩, ⟨by decide +kernel, by decide +kernel⟩, by decide +kernel, by decide +kernel⟩
theorem noN_words : ∀ p ∈ wordsT, (("nowhere" : Str) ∉ p.1 ∧ ("" : Str) ∉ p.1 ∧ ("Left" : Str) ∉ p.1) ∧ (("nowhere" : Str) ∉ p.2 ∧ ("" : Str) ∉ p.2 ∧ ("Left" : Str) ∉ p.2) := by decide +kernel
theorem oddN {wd : List Str × List Str} {l r : Es} (hw : wd ∈ wordsT) (gl : GoodE wd.1 wd.2 l) (gr : GoodE wd.2 wd.1 r) {d : PyData} (hd : d ∈ noN) : OddN (endS l) (endS r) d := by
  obtain ⟨⟨n1, n2⟩, ⟨h1, h2⟩, h3, h4⟩ := noN_b d hd
  obtain ⟨⟨w1, w2, w3⟩, v1, v2, v3⟩ := noN_words _ hw
  have go : ∀ s : Str, s ∉ wd.1 → s ∉ wd.2 → hasW (ownersI (endS l) (endS r)) (.str s) = false := fun s a b => by
    rw [hasW_owners]
    cases c : hasW (endS l).own (.str s) with
    | true => exact absurd (own_in gl c) a
    | false =>
      cases c2 : hasW (endS r).own (.str s) with
      | true => exact absurd (own_in gr c2) b
      | false => rfl
  refine ⟨?_, n1, ⟨h1, h2, h3, h4, fun i e => ?_⟩, n2⟩
  · unfold noN at hd
    simp only [List.mem_cons, List.not_mem_nil, or_false] at hd
    rcases hd with rfl | rfl | rfl | rfl | rfl | rfl | rfl | rfl
    · exact go _ w1 v1
    · exact go _ w2 v2
    · rfl
    · rfl
    · rfl
    · exact go _ w3 v3
    · rfl
    · rfl
  · subst e
    unfold noN at hd
    simp only [List.mem_cons, List.not_mem_nil, or_false] at hd
    rcases hd with h | h | h | h | h | h | h | h <;> cases h
    decide +kernel
/-! ### what is no end, where tables grow -/
def NoN (K : PySem.W.Frag) (CE : Addr) : PV := fun x H => ∃ t, (∀ H1, ExtN H H1 → TyX K H1 x t) ∧ PySem.W.kitOne K t (.ref CE) = some false
theorem dq_strs {H : Hp} : ∀ l : List Str, DqAll H (l.map V.str) (l.map PyData.str)
  | [] => .nil
  | s :: r => .cons (.str s) (dq_strs r)
section
variable {T : TabT} {K : PySem.W.Frag} {C CE CP CN CB a : Addr} {σ : L2.St} {H : Hp} {ta tb td te t0 t1 t2 : TE} {E : XK} {l r : Es} {wd : List Str × List Str} {ws : List Str} {vs : List (Key × V)}
theorem mo_noN : Mo (NoN K CE) := fun _ _ _ e ⟨t, h1, h2⟩ => ⟨t, fun H1 e1 => h1 H1 ((ExtN.of e).trans e1), h2⟩
theorem mon_noN : MoN (NoN K CE) := fun _ _ _ e ⟨t, h1, h2⟩ => ⟨t, fun H1 e1 => h1 H1 (e.trans e1), h2⟩
theorem NoN.noE {x : V} (h : NoN K CE x H) : NoE K CE x H := let ⟨t, h1, h2⟩ := h; ⟨t, fun H1 e => h1 H1 (ExtN.of e), h2⟩
theorem noN_non (B : NotB K CE) : NoN K CE .non H := ⟨.type "NoneType", fun _ _ => .base .non, B.non⟩
theorem noN_int (B : NotB K CE) {i : Int} : NoN K CE (.int i) H := ⟨.type "int", fun _ _ => .base (.int i), B.int⟩
theorem noN_str (B : NotB K CE) {s : Str} : NoN K CE (.str s) H := ⟨.type "str", fun _ _ => .base (.str s), B.str⟩
theorem noN_dict (B : NotB K CE) {a : Addr} {kvs : List (Key × V)} (h : H a = some (.dK kvs)) : NoN K CE (.ref a) H := ⟨.type "dict", fun H1 e => .base (.dK (st_n e h)), B.dict⟩
theorem noN_pact (T : ClsP K CP) (I : C8.InsC K CP) (no : PySem.W.kitOne K (.ref CP) (.ref CE) = some false) {l r : Eg} {x : V} (h : PactV K C CE CP l r x H) : NoN K CE x H := by
  obtain ⟨a, rfl, at_⟩ := h
  obtain ⟨dx, fs, u, v, dd, ws, h0, _⟩ := at_.ex
  exact ⟨.ref CP, fun H1 e => .base (.ins (st_n e h0) T.cl I.ha I.hn I.htk I.hm), no⟩
/-- list(d), a dict of texts -/
theorem p_listK (h : Ev td σ H (.ref a)) (hd : H a = some (.dK vs)) (hk : vs.map (·.1) = ws.map Sum.inr) (hl : ws.length ≤ 1000) : EvP (tCB rListDK (tCons td tNil)) σ H (Qe (.list (ws.map PyData.str))) := fun H1 e Q q =>
  h H1 e _ fun H2 e2 => ⟨a, vs, rfl, .inl ((e.trans e2) _ _ hd), fun p hp => by
    have ek : (vs.map fun kv => kV kv.1) = ws.map V.str := by
      have : (vs.map fun kv => kV kv.1) = (vs.map (·.1)).map kV := by rw [List.map_map]; rfl
      rw [this, hk, List.map_map]
      rfl
    rw [ek]
    exact q (.ref p) _ (e2.trans (Ex.new hp)) (.lst (by rw [List.length_map]; omega) upd_same (dq_strs ws))⟩
/-- {} -/
theorem p_new00 : EvP tDNewK σ H (ArgV K C (.dct [])) := fun H1 e Q q p hp => q (.ref p) _ (Ex.new hp) ⟨⟨p, [], rfl, upd_same, itemsV_nil⟩, by simp, (fun p hp => nomatch hp), List.nodup_nil⟩
theorem p_madeP (h : EvP te σ H (PactSp Sr K l r)) (hw : wd ∈ wordsT) (gl : GoodE wd.1 wd.2 l) (gr : GoodE wd.2 wd.1 r) : EvP (tCall (spMadeP K C CE CP) [] E (tCons te tNil)) σ H (PactV K C CE CP (endS l) (endS r)) :=
  p_call (Ps := [PactSp Sr K l r]) (ps_cons mo_pactSp h ps_nil) fun xs H6 e ps Q' q' => by
    match xs, ps with
    | [y], ⟨py, _⟩ => exact ⟨rfl, y, l, r, wd, rfl, py, hw, gl, gr, fun v H7 e7 p => q' v H7 e7 p⟩
theorem ev_owners (h0 : EvP t0 σ H (PactSp Sr K l r)) (h1 : EvP t1 σ H (PactV K C CE CP (endS l) (endS r))) (h2 : EvP t2 σ H (Qe (.list (ws.map PyData.str)))) (hw : wd ∈ wordsT) (gl : GoodE wd.1 wd.2 l) (gr : GoodE wd.2 wd.1 r) (hm : ∀ s ∈ ws, s ∈ wd.1 ∨ s ∈ wd.2) :
    Ev (tCall (spOwners K C CE CP) [] E (tCons t0 (tCons t1 (tCons t2 tNil)))) σ H (.bl true) := fun H1 e Q q =>
  h0 H1 e _ fun x H2 e2 px => h1 H2 (e.trans e2) _ fun y H3 e3 py => h2 H3 (e.trans (e2.trans e3)) _ fun z H4 e4 pz => ⟨rfl, x, y, z, l, r, wd, ws, rfl, mo_pactSp _ _ _ (e3.trans e4) px, mo_pact _ _ _ e4 py, pz, hw, gl, gr, hm, fun H5 e5 => q H5 (e2.trans (e3.trans (e4.trans e5)))⟩
theorem words_mem (gl : GoodE wd.1 wd.2 l) (gr : GoodE wd.2 wd.1 r) : ∀ s ∈ wordsI (ownersI (endS l) (endS r)), s ∈ wd.1 ∨ s ∈ wd.2 := fun s hs => by
  rw [words_pact gl gr] at hs
  rcases List.mem_append.mp ((sortS_perm _).mem_iff.mp hs) with h | h
  · exact .inl ((sortS_perm _).mem_iff.mp h)
  · exact .inr ((sortS_perm _).mem_iff.mp h)
/-- the keys of a drawn end's dict of settings -/
theorem sit_keys {at_ : AtP} {own : List (Str × Ds)} {vs : List (Key × V)} {H : Hp} (h : SIt (SetSp at_) own vs H) : vs.map (·.1) = (own.map (·.1)).map Sum.inr := by
  rw [h.keys, List.map_map]
  rfl
end
end Lw
set_option maxHeartbeats 4000000
/-! k04: the law's own body. -/
namespace Lw
open PySem PySem.Spec PyProof.Rows L2 Evl Pd Gd Us Chk Wlk LamX LamK LamG
abbrev sLaw : Stmt := Tp.s_law
abbrev nL : List Str := ["script", "k", "pool", "p", "left", "right", "made", "words", "bare", "other", "none", "lone", "one", "two"]
theorem scLaw : FnScope nL ["script"] (defScope sLaw) := ⟨rfl, rfl, rfl, by decide +kernel, rfl, by decide +kernel, by decide +kernel⟩
def spLawS (T : TabT) (K : PySem.W.Frag) : Sp := fun vs H Q _ => vs.length = 1 ∧ ∃ (a : Addr) (ns : List Int), vs = [.ref a] ∧ SqL K H a (ns.map V.int) ∧ ns.length ≤ 63 ∧ Tabs T H ∧ ∀ H', Q (.bl true) H'
/-- all that the law calls -/
structure Calls (P : Program) (w : World) (K : PySem.W.Frag) (mg : Str → Option Value) (base : Heap) (C CE CP a0 a1 a2 a3 a4 a5 a6 a7 a8 a9 aX : Addr) (T : TabT) : Prop where
  turn : Use P w K mg base 3 "_law_turn_pool" ["script", "k"] (spTurn K)
  pick : Use P w K mg base 2 "_law_pick" ["pool", "some"] (spPick K)
  pact : Use P w K mg base 5 "_law_pact" ["pool"] (spPact K)
  made : Use P w K mg base 9 "_law_made_end" ["end"] (spMadeE K C CE)
  madeP : Use P w K mg base 10 "_law_made" ["p"] (spMadeP K C CE CP)
  owners : Use P w K mg base 5 "_law_owners" ["p", "made", "words"] (spOwners K C CE CP)
  odd : UseG P w K mg base 9 "_law_odd" ["made", "odd"] (spOddP T K C CE CP)
  srt : UseG P w K mg base 1 "_law_sorted" ["some"] (spSrt T)
  bad : ∃ g, FunB K mg "_law_bad" sBad g
  cls : EndC P w K mg base C CE a4 a1
  clsP : PactC P w K mg base C CE CP a3 a2
  insP : C8.InsC K CP
  no : PySem.W.kitOne K (.ref CP) (.ref CE) = some false
  nb : NotB K CE
  nbP : NotB K CP
  errs : Errs K mg a0 a1 a2 a3 a4 a5 a6 a7 a8 a9 aX
  range : mg "range" = none
  list : mg "list" = none
abbrev tL1 (K : PySem.W.Frag) (C CE CP a2 : Addr) : XK → TE := fun E => tMake CP (spInitP K C CE CP a2) [] E (tCons (tVar 10) (tCons (tC .non) tNil))
abbrev tL2 (K : PySem.W.Frag) (C CE CP a3 a2 : Addr) : XK → TE := fun E => tMeth CP "with_end" (spWithEnd K C CE CP a3 a2) [] E (tVar 6) (tCons (tC (.str "right")) (tCons (tVar 10) tNil))
abbrev tL3 (K : PySem.W.Frag) (C CE CP a2 : Addr) : XK → TE := fun E => tMake CP (spInitP K C CE CP a2) [] E (tCons (tVar 12) (tCons (tVar 13) tNil))
section
variable {P : Program} {w : World} {K : PySem.W.Frag} {mg : Str → Option Value} {base : Heap} {C CE CP a0 a1 a2 a3 a4 a5 a6 a7 a8 a9 aX f c tb : Addr} {fd : FuncData} {T : TabT}
theorem ok_law (F : FunC K "law" "law" sLaw f fd c) (TB : TabB base mg c tb) (hmT : (tb, ("law.<locals>.<lambda>" : Str)) ∈ T) (huT : ∀ p ∈ T, p.1 = tb → p.2 = ("law.<locals>.<lambda>" : Str)) (S : Calls P w K mg base C CE CP a0 a1 a2 a3 a4 a5 a6 a7 a8 a9 aX T) : FnG P w K mg base CX0 13 f fd ["script"] (spLawS T K) := by
  refine okGC F scLaw (fun vs H Q E h => h.1) (fun A outer s H vs Q E hr hg h => ?_)
  obtain ⟨_, a, ns, rfl, hS, hn, hT, q⟩ := h
  obtain ⟨g, FB⟩ := S.bad
  obtain ⟨oc, od, kV, doc, pm, an, cd, ct, osl, lk, hcd⟩ := FB.ex
  have hu : (A.deeper (envOfC "law" (defScope sLaw) s.heap.objs.size f (.ref c))).units + 64 < cLine := by have := hr.un; omega
  have hu1 : (A.deeper (envOfC "law" (defScope sLaw) s.heap.objs.size f (.ref c))).units + 1 < cLine := by omega
  have nd := scLaw.nd
  have qn : ∀ (E : XK), (cxOf CX0 P w K mg base nL "law" (defScope sLaw) f (.ref c) A outer s H E).nox.env.qual ++ "<lambda>" = ("law.<locals>.<lambda>" : Str) := fun _ => by kernel_rfl
  have bB : L2.Binds K (PySem.W.fnOf "_law_bad" "_law_bad" (defArgs sBad) (defBody sBad) (defScope sBad) .none kV doc pm an cd ct) ["call"] [] := (⟨⟨oc, od, kV, doc, pm, an, cd, ct, osl, rfl, lk, hcd⟩, FB.kp⟩ : Fun K "_law_bad" "_law_bad" sBad g _).binds (ps := ["call"]) fun _ _ _ _ _ _ us hl => match us, hl with | [_], _ => rfl
  have SC := S.cls
  have SP := S.clsP
  have z1 : LamS (defScope sLaw) { kind := .function, names := [("none", .free), ("Pact", .globalImplicit)], isGenerator := false, isCoroutine := false } := lamS_by (by decide +kernel)
  have z2 : LamS (defScope sLaw) { kind := .function, names := [("made", .free), ("none", .free)], isGenerator := false, isCoroutine := false } := lamS_by (by decide +kernel)
  have z3 : LamS (defScope sLaw) { kind := .function, names := [("one", .free), ("two", .free), ("Pact", .globalImplicit)], isGenerator := false, isCoroutine := false } := lamS_by (by decide +kernel)
  refine ⟨_, pss_cons (ps_for PassesOwn.never rfl (pi_range1 (by rfl) S.range (pa_cons pe_int pa_nil)) (pg_name (i := 1) nd rfl (Or.inl rfl))
      (pss_cons (ps_set (i := 2) nd rfl (Or.inl rfl) (pe_use S.turn hr (by decide) (by rfl) (pa_cons (pv 0) (pa_cons (pv 1) pa_nil))))
      (pss_cons (ps_set (i := 3) nd rfl (Or.inl rfl) (pe_use S.pact hr (by decide) (by rfl) (pa_cons (pv 2) pa_nil)))
      (pss_cons (ps_par (i := 4) (j := 5) rfl nd rfl rfl (by decide) rfl rfl (pa_cons (pe_use S.made hr (by decide) (by rfl) (pa_cons (pe_dget hu1 (pv 3) pe_str (fun _ _ => rfl)) pa_nil)) (pa_cons (pe_use S.made hr (by decide) (by rfl) (pa_cons (pe_dget hu1 (pv 3) pe_str (fun _ _ => rfl)) pa_nil)) pa_nil)) ?par)
      (pss_cons (ps_set (i := 6) nd rfl (Or.inr rfl) (pe_use S.madeP hr (by decide) (by rfl) (pa_cons (pv 3) pa_nil)))
      (pss_cons (ps_if (PW.pt (pw_or (pt_cmpR (op_neEnd SC hr (by decide)) (pe_leftP SP hr (by decide) (pv 6)) (pv 4) (nomark _)) (pw_or (pt_cmpR (op_neEnd SC hr (by decide)) (pe_rightP SP hr (by decide) (pv 6)) (pv 5) (nomark _)) (pw_or (pt_cmpR (op_neEnd SC hr (by decide)) (pe_mC (E := fun _ _ _ => False) SP.end_ SP.T.cl hr (by decide) (passes_call LamX.takes0 fun _ _ _ _ h => h) (pv 6) (pa_cons pe_str pa_nil)) (pv 4) (nomark _)) (pw_or1 (pt_cmpR (op_neEnd SC hr (by decide)) (pe_mC (E := fun _ _ _ => False) SP.end_ SP.T.cl hr (by decide) (passes_call LamX.takes0 fun _ _ _ _ h => h) (pv 6) (pa_cons pe_str pa_nil)) (pv 5) (nomark _))))))) (pss_one (ps_ret pe_bl)) pss_nil)
      (pss_cons (ps_set (i := 7) nd rfl (Or.inl rfl) (pe_useG S.srt hr (by decide) hg (by rfl) (pa_cons (pe_op op_cat (pe_callTy (call_listD rfl) (by rfl) S.list Chk.boot_list (pa_cons (pe_dget hu1 (pe_dget hu1 (pv 3) pe_str (fun _ _ => rfl)) pe_str (fun _ _ => rfl)) pa_nil)) (pe_callTy (call_listD rfl) (by rfl) S.list Chk.boot_list (pa_cons (pe_dget hu1 (pe_dget hu1 (pv 3) pe_str (fun _ _ => rfl)) pe_str (fun _ _ => rfl)) pa_nil))) pa_nil)))
      (pss_cons (ps_if (PW.pt (pw_or (pt_cmpR (op_neD hu) (pe_lst (pa_cons (pe_mC (E := fun _ _ _ => False) SP.other SP.T.cl hr (by decide) (passes_call LamX.takes0 fun _ _ _ _ h => h) (pv 6) (pa_cons pe_str pa_nil)) (pa_cons (pe_mC (E := fun _ _ _ => False) SP.other SP.T.cl hr (by decide) (passes_call LamX.takes0 fun _ _ _ _ h => h) (pv 6) (pa_cons pe_str pa_nil)) pa_nil))) (pe_lst (pa_cons pe_str (pa_cons pe_str pa_nil))) (nomark _)) (pw_or1 (pt_cmpR (op_neD hu) (pe_wordsPc SP hr (by decide) (pv 6)) (pv 7) (nomark _))))) (pss_one (ps_ret pe_bl)) pss_nil)
      (pss_cons (ps_if (PW.pt (pw_or (pt_cmpR (op_eqPactD SP hr (by decide)) (pv 6) (pv 3) (nomark _)) (pw_or1 (pt_cmpR (op_nePact SP hr (by decide)) (pv 6) (pe_use S.madeP hr (by decide) (by rfl) (pa_cons (pv 3) pa_nil)) (nomark _))))) (pss_one (ps_ret pe_bl)) pss_nil)
      (pss_cons (ps_if (pt_not (pt_val (pe_use S.owners hr (by decide) (by rfl) (pa_cons (pv 3) (pa_cons (pv 6) (pa_cons (pv 7) pa_nil)))))) (pss_one (ps_ret pe_bl)) pss_nil)
      (pss_cons (ps_if (pt_not (pt_val (pe_useG S.odd hr (by decide) hg (by rfl) (pa_cons (pv 6) (pa_cons (pe_use S.pick hr (by decide) (by rfl) (pa_cons (pv 2) (pa_cons (pe_lst (pa_cons pe_str (pa_cons pe_str (pa_cons pe_non (pa_cons pe_int (pa_cons (pe_lst (pa_cons pe_str pa_nil)) (pa_cons pe_str (pa_cons (pe_tup (pa_cons pe_str pa_nil)) (pa_cons pe_bl pa_nil))))))))) pa_nil))) pa_nil))))) (pss_one (ps_ret pe_bl)) pss_nil)
      (pss_cons (ps_set (i := 8) nd rfl (Or.inl rfl) (pe_withE (E := fun _ _ _ => False) SC hr (by decide) hg (passes_call LamX.takes0 fun _ _ _ _ h => h) (pv 4) (pa_cons pe_str (pa_cons (pe_lst pa_nil) pa_nil))))
      (pss_cons (ps_set (i := 9) nd rfl (Or.inl rfl) (pe_mC (E := fun _ _ _ => False) SP.withE SP.T.cl hr (by decide) (passes_call LamX.takes0 fun _ _ _ _ h => h) (pv 6) (pa_cons pe_str (pa_cons (pv 8) pa_nil))))
      (pss_cons (ps_if (PW.pt (pw_or (pt_cmpR (op_neEnd SC hr (by decide)) (pe_leftP SP hr (by decide) (pv 9)) (pv 8) (nomark _)) (pw_or (pt_cmpR (op_neEnd SC hr (by decide)) (pe_rightP SP hr (by decide) (pv 9)) (pv 5) (nomark _)) (pw_or (pt_cmpR (op_neEnd SC hr (by decide)) (pe_leftP SP hr (by decide) (pv 6)) (pv 4) (nomark _)) (pw_or1 (pt_cmpR op_ne (pe_cmpR (op_eqPact SP hr (by decide)) (pv 9) (pv 6) (nomark _)) (pe_cmpR (op_eqEnd SC hr (by decide)) (pv 8) (pv 4) (nomark _)) (nomark _))))))) (pss_one (ps_ret pe_bl)) pss_nil)
      (pss_cons (ps_set (i := 10) nd rfl (Or.inr rfl) (pe_use S.pick hr (by decide) (by rfl) (pa_cons (pv 2) (pa_cons (pe_lst (pa_cons pe_non (pa_cons pe_int (pa_cons pe_str (pa_cons (pv 6) (pa_cons (pe_dget hu1 (pv 3) pe_str (fun _ _ => rfl)) pa_nil)))))) pa_nil))))
      (pss_cons (ps_if (pt_cmpR (op_neD hu) (pe_lamG (T := T) (TT := TBad K (errs a0 a1 a2 a3 a4 a5 a6 a7 a8 a9)) (k := 10) (a := "call") (c := c) (P := tb) (Ng := ["call", "e"]) (t := (tL1 K C CE CP a2)) (by rfl) FB.mg FB.kp lk hcd bB scBad rfl (.inl rfl) (bad_gives S.errs hg hr) TB rfl (by rw [qn]; exact hmT) (by rw [qn]; exact huT) hr hg ?L1 rfl (fun _ _ _ _ _ => rfl) ?b1) (pe_lst (pa_cons pe_str (pa_cons pe_str pa_nil))) (nomark _)) (pss_one (ps_ret pe_bl)) pss_nil)
      (pss_cons (ps_if (pt_cmpR (op_neD hu) (pe_lamG (T := T) (TT := TBad K (errs a0 a1 a2 a3 a4 a5 a6 a7 a8 a9)) (k := 10) (a := "call") (c := c) (P := tb) (Ng := ["call", "e"]) (t := (tL2 K C CE CP a3 a2)) (by rfl) FB.mg FB.kp lk hcd bB scBad rfl (.inl rfl) (bad_gives S.errs hg hr) TB rfl (by rw [qn]; exact hmT) (by rw [qn]; exact huT) hr hg ?L2 rfl (fun _ _ _ _ _ => rfl) ?b2) (pe_lst (pa_cons pe_str (pa_cons pe_str pa_nil))) (nomark _)) (pss_one (ps_ret pe_bl)) pss_nil)
      (pss_cons (ps_set (i := 11) nd rfl (Or.inl rfl) (pe_end (E := fun _ _ _ => False) SC hr (by decide) (by rfl) (passes_call LamX.takes0 fun _ _ _ _ h => h) (pa_cons pe_dnewK (pa_cons pe_dnewK (pa_cons pe_dnewK (pa_cons pe_int pa_nil))))))
      (pss_cons (ps_for PassesOwn.never rfl (pi_list (pe_lst (pa_cons (pe_tup (pa_cons (pv 4) (pa_cons (pv 4) pa_nil))) (pa_cons (pe_tup (pa_cons (pv 5) (pa_cons (pv 5) pa_nil))) (pa_cons (pe_tup (pa_cons (pv 4) (pa_cons (pv 11) pa_nil))) (pa_cons (pe_tup (pa_cons (pv 11) (pa_cons (pv 5) pa_nil))) pa_nil)))))) (pg_tup rfl (pgs_cons (pg_name (i := 12) nd rfl (Or.inr rfl)) (pgs_cons (pg_name (i := 13) nd rfl (Or.inr rfl)) pgs_nil))) (pss_one (ps_if (pt_cmpR (op_neD hu) (pe_lamG (T := T) (TT := TBad K (errs a0 a1 a2 a3 a4 a5 a6 a7 a8 a9)) (k := 10) (a := "call") (c := c) (P := tb) (Ng := ["call", "e"]) (t := (tL3 K C CE CP a2)) (by rfl) FB.mg FB.kp lk hcd bB scBad rfl (.inl rfl) (bad_gives S.errs hg hr) TB rfl (by rw [qn]; exact hmT) (by rw [qn]; exact huT) hr hg ?L3 rfl (fun _ _ _ _ _ => rfl) ?b3) (pe_lst (pa_cons pe_str (pa_cons pe_str pa_nil))) (nomark _)) (pss_one (ps_ret pe_bl)) pss_nil)))
      (pss_one (ps_if (PW.pt (pw_or (pt_not (pt_cmpR (op_eqPact SP hr (by decide)) (pe_mC (E := fun _ _ _ => False) SP.withE SP.T.cl hr (by decide) (passes_call LamX.takes0 fun _ _ _ _ h => h) (pv 6) (pa_cons pe_str (pa_cons (pv 4) pa_nil))) (pv 6) (nomark _))) (pw_or1 (pt_cmpR (op_neD hu) (pe_wordsPc SP hr (by decide) (pe_pact (E := fun _ _ _ => False) SP hr (by decide) (by rfl) (passes_call LamX.takes0 fun _ _ _ _ h => h) (pa_cons (pv 11) (pa_cons (pv 11) pa_nil)))) (pe_lst pa_nil) (nomark _))))) (pss_one (ps_ret pe_bl)) pss_nil)))))))))))))))))))))
    (pss_one (ps_ret pe_bl)), ?_⟩
  case par => rfl
  case L1 => exact z1
  case L2 => exact z2
  case L3 => exact z3
  case b1 =>
    intro A' outer' s' H' E' f' c2 hr2 hg2
    exact pe_pact (E := E') (j := 10) SP hr2 (by decide) (by rfl) (passes_call (takes_of rfl rfl rfl rfl) fun _ _ _ _ h => h) (pa_cons (pv 10) (pa_cons pe_non pa_nil))
  case b2 =>
    intro A' outer' s' H' E' f' c2 hr2 hg2
    exact pe_mC (E := E') (j := 10) SP.withE SP.T.cl hr2 (by decide) (passes_call (takes_of rfl rfl rfl rfl) fun _ _ _ _ h => h) (pv 6) (pa_cons pe_str (pa_cons (pv 10) pa_nil))
  case b3 =>
    intro A' outer' s' H' E' f' c2 hr2 hg2
    exact pe_pact (E := E') (j := 10) SP hr2 (by decide) (by rfl) (passes_call (takes_of rfl rfl rfl rfl) fun _ _ _ _ h => h) (pa_cons (pv 12) (pa_cons (pv 13) pa_nil))
  refine q_forR1 (n := 6) (ea_cons ev_c ea_nil) (by decide) (fun _ σ' H' => ∃ o1 o2 o3 o4 o5 o6 o7 o8 o9 o10 o11 o12 o13, σ' = [some (V.ref a), o1, o2, o3, o4, o5, o6, o7, o8, o9, o10, o11, o12, o13] ∧ ExtN H H' ∧ Tabs T H')
    (fun H1 e1 => ⟨_, _, _, _, _, _, _, _, _, _, _, _, _, rfl, ExtN.of e1, hT.ext e1⟩) ?turn ?after
  case after =>
    rintro σ' H1 ⟨o1, o2, o3, o4, o5, o6, o7, o8, o9, o10, o11, o12, o13, rfl, g1, T1⟩
    exact s_ret ev_c fun H2 _ => q H2
  case turn =>
    rintro i σ' H1 hi ⟨o1, o2, o3, o4, o5, o6, o7, o8, o9, o10, o11, o12, o13, rfl, g1, T1⟩
    have hS1 : SqL K H1 a (ns.map V.int) := ext_sql g1 hS
    refine d_asg (P := PoolV K) ?pool fun po H2 e2 hpo => ?_
    case pool =>
      exact p_call (P := PoolV K) (Ps := [Is (.ref a), Is (.int (i : Int))]) (ps_cons mo_is (p_is rfl) (ps_cons mo_is (p_is rfl) ps_nil)) fun xs H3 e ps Q' q' => by
        match xs, ps with
        | [y, z], ⟨py, pz, _⟩ => exact ⟨rfl, a, ns, i, by rw [show y = _ from py, show z = _ from pz], ex_l e hS1, by omega, by omega, by omega, fun x H4 e4 p => q' x H4 e4 p⟩
    refine d_asg (P := fun y H' => ∃ l r, GoodP l r ∧ PactSp Sr K l r y H') ?pact fun pv0 H3 e3 hpv => ?_
    case pact =>
      exact p_call (Ps := [PoolV K]) (ps_cons mo_pool (p_var rfl mo_pool hpo) ps_nil) fun xs H4 e ps Q' q' => by
        match xs, ps with
        | [y], ⟨py, _⟩ => exact ⟨rfl, y, rfl, py, fun r H5 l r' e5 gp pp => q' r H5 e5 ⟨l, r', gp, pp⟩⟩
    obtain ⟨l, r, ⟨wd, hwd, gl, gr⟩, hps⟩ := hpv
    obtain ⟨pp, pa, pb, rfl, hpp, hl, hrr⟩ := id hps
    have N := neatP hwd gl gr
    have k := words_ok _ hwd
    refine q_par mo_end (p_madeE (p_dget (k := .inr "left") (ev_var rfl) ev_c (.inl hpp) rfl mo_endSp hl) gl k.1) (p_madeE (p_dget (k := .inr "right") (ev_var rfl) ev_c (.inl hpp) rfl mo_endSp hrr) gr k.2) fun vl vr H4 e4 hvl hvr => ?_
    refine d_asg (P := PactV K C CE CP (endS l) (endS r)) (p_madeP (p_var rfl mo_pactSp (mo_pactSp _ _ _ e4 hps)) hwd gl gr) fun vm H5 e5 hvm => ?_
    have e35 := e4.trans e5
    have g05 : ExtN H H5 := g1.trans (ExtN.of (e2.trans (e3.trans e35)))
    have T5 : Tabs T H5 := T1.ext (e2.trans (e3.trans e35))
    have hpo5 : PoolV K po H5 := mo_pool _ _ _ (e3.trans e35) hpo
    have hps5 : PactSp Sr K l r (.ref pp) H5 := mo_pactSp _ _ _ e35 hps
    have hpp5 := e35 _ _ hpp
    have hl5 : EndSp Sr K l (.ref pa) H5 := mo_endSp _ _ _ e35 hl
    have hr5 : EndSp Sr K r (.ref pb) H5 := mo_endSp _ _ _ e35 hrr
    have hvl5 := mo_end _ _ _ e5 hvl
    have hvr5 := mo_end _ _ _ e5 hvr
    clear hS1 hpo hps hpp hl hrr hvl hvr e35 e5 e4 e3 e2 T1 g1
    obtain ⟨ep, ds, du, dr, epa, hE⟩ := id hl5
    cases epa
    obtain ⟨v1, v2, v3, h1, h2, h3, h4, i1, i2, i3⟩ := id hE.ex
    obtain ⟨fp, fs, fu, fr, epb, hF⟩ := id hr5
    cases epb
    obtain ⟨w1, w2, w3, k1, k2, k3, k4, j1, j2, j3⟩ := id hF.ex
    have hpp5 : H5 pp = some (.dK (pactKs pa pb)) := hpp5
    have h1 : H5 pa = some (.dK (endKs ds du dr l.most)) := h1
    have h2 : H5 ds = some (.dK v1) := h2
    have k1 : H5 pb = some (.dK (endKs fs fu fr r.most)) := k1
    have k2 : H5 fs = some (.dK w1) := k2
    clear h3 h4 k3 k4 i2 i3 j2 j3
    have sl : eqE (endS l) (endS l) = true := eqE_of N.nl N.nl rfl rfl rfl fun _ _ => rfl
    have sr : eqE (endS r) (endS r) = true := eqE_of N.nr N.nr rfl rfl rfl fun _ _ => rfl
    have nmL : inT namesT (.str "left") = true := by decide +kernel
    have nmR : inT namesT (.str "right") = true := by decide +kernel
    have vpo : ∀ {σ : L2.St} {Hx : Hp}, σ[2]? = some (some po) → ExtN H5 Hx → EvP (tVar 2) σ Hx (PoolV K) := fun hσ ex => p_var hσ mo_pool (mon_pool _ _ _ ex hpo5)
    have vp : ∀ {σ : L2.St} {Hx : Hp}, σ[3]? = some (some (.ref pp)) → ExtN H5 Hx → EvP (tVar 3) σ Hx (PactSp Sr K l r) := fun hσ ex => p_var hσ mo_pactSp (mon_pactSp _ _ _ ex hps5)
    have vL : ∀ {σ : L2.St} {Hx : Hp}, σ[4]? = some (some vl) → ExtN H5 Hx → EvP (tVar 4) σ Hx (EndV K C CE (endS l)) := fun hσ ex => p_var hσ mo_end (mon_end _ _ _ ex hvl5)
    have vR : ∀ {σ : L2.St} {Hx : Hp}, σ[5]? = some (some vr) → ExtN H5 Hx → EvP (tVar 5) σ Hx (EndV K C CE (endS r)) := fun hσ ex => p_var hσ mo_end (mon_end _ _ _ ex hvr5)
    have vM : ∀ {σ : L2.St} {Hx : Hp}, σ[6]? = some (some vm) → ExtN H5 Hx → EvP (tVar 6) σ Hx (PactV K C CE CP (endS l) (endS r)) := fun hσ ex => p_var hσ mo_pact (mon_pact _ _ _ ex hvm)
    have aL : ∀ {σ : L2.St} {Hx : Hp}, σ[4]? = some (some vl) → ExtN H5 Hx → EvP (tVar 4) σ Hx (AnyV K C CE (.e (endS l))) := fun hσ ex => p_var hσ mo_any ⟨mon_end _ _ _ ex hvl5, N.nl, N.ll⟩
    have aR : ∀ {σ : L2.St} {Hx : Hp}, σ[5]? = some (some vr) → ExtN H5 Hx → EvP (tVar 5) σ Hx (AnyV K C CE (.e (endS r))) := fun hσ ex => p_var hσ mo_any ⟨mon_end _ _ _ ex hvr5, N.nr, N.lr⟩
    have enL : ∀ {σ : L2.St} {Hx : Hp}, σ[6]? = some (some vm) → ExtN H5 Hx → EvP (tMeth CP "end" (spEndP K C CE CP a3) [] (fun _ _ _ => False) (tVar 6) (tCons (tC (.str "left")) tNil)) σ Hx (EndV K C CE (endS l)) := fun {σ Hx} hσ ex => by
      have h := p_endP (CN := a3) (E := fun _ _ _ => False) (ty := tC (.str "left")) (s := "left") (vM hσ ex) ev_c nmL
      rw [show selP (endS l) (endS r) "left" = endS l from if_pos rfl] at h
      exact h
    have enR : ∀ {σ : L2.St} {Hx : Hp}, σ[6]? = some (some vm) → ExtN H5 Hx → EvP (tMeth CP "end" (spEndP K C CE CP a3) [] (fun _ _ _ => False) (tVar 6) (tCons (tC (.str "right")) tNil)) σ Hx (EndV K C CE (endS r)) := fun {σ Hx} hσ ex => by
      have h := p_endP (CN := a3) (E := fun _ _ _ => False) (ty := tC (.str "right")) (s := "right") (vM hσ ex) ev_c nmR
      rw [show selP (endS l) (endS r) "right" = endS r from if_neg (by decide)] at h
      exact h
    have oL : othN "left" = "right" := if_pos rfl
    have oR : othN "right" = "left" := if_neg (by decide)
    -- the two ends
    refine n_when (nt_of (b := false) fun Hx ex => et_is (et_or (et_test (ev_ownE (neg := true) (p_leftP (vM rfl ex)) (vL rfl ex) N.nl N.nl)) fun _ => et_or (et_test (ev_ownE (neg := true) (p_rightP (vM rfl ex)) (vR rfl ex) N.nr N.nr)) fun _ => et_or (et_test (ev_ownE (neg := true) (enL rfl ex) (vL rfl ex) N.nl N.nl)) fun _ => et_test (ev_ownE (neg := true) (enR rfl ex) (vR rfl ex) N.nr N.nr)) (by simp [sl, sr])) T5 fun H6 e6 T6 => ?_
    -- the words
    have sL : ∀ {σ : L2.St} {Hx : Hp}, σ[3]? = some (some (.ref pp)) → ExtN H5 Hx → EvP (tCB rListDK (tCons (tDGet (tDGet (tVar 3) (tC (.str "left"))) (tC (.str "settings"))) tNil)) σ Hx (Qe (.list (wd.1.map PyData.str))) := fun {σ Hx} hσ ex =>
      p_listK (p_dget (k := .inr "settings") (p_dget (k := .inr "left") (ev_var hσ) ev_c (.inl (st_n ex hpp5)) rfl (mo_is (v := .ref pa)) rfl).ev ev_c (.inl (st_n ex h1)) rfl (mo_is (v := .ref ds)) rfl).ev (st_n ex h2) (by rw [sit_keys i1, gl.own]) (by have := k.1.lw; omega)
    have sR : ∀ {σ : L2.St} {Hx : Hp}, σ[3]? = some (some (.ref pp)) → ExtN H5 Hx → EvP (tCB rListDK (tCons (tDGet (tDGet (tVar 3) (tC (.str "right"))) (tC (.str "settings"))) tNil)) σ Hx (Qe (.list (wd.2.map PyData.str))) := fun {σ Hx} hσ ex =>
      p_listK (p_dget (k := .inr "settings") (p_dget (k := .inr "right") (ev_var hσ) ev_c (.inl (st_n ex hpp5)) rfl (mo_is (v := .ref pb)) rfl).ev ev_c (.inl (st_n ex k1)) rfl (mo_is (v := .ref fs)) rfl).ev (st_n ex k2) (by rw [sit_keys j1, gr.own]) (by have := k.2.lw; omega)
    refine n_asg (i := 7) (P := Qe (.list (sortD (wd.1.map PyData.str ++ wd.2.map PyData.str)))) (n_srt (n_of fun Hx ex => q_cat (sL rfl (e6.trans ex)) (sR rfl (e6.trans ex)) (by have := k.1.lw; have := k.2.lw; simp only [List.length_map]; omega)) fun d hd => ?showy) T6 fun vw H7 e7 T7 hvw => ?_
    case showy =>
      rcases List.mem_append.mp hd with hd | hd
      · obtain ⟨s, _, rfl⟩ := List.mem_map.mp hd
        exact .inl ⟨s, rfl⟩
      · obtain ⟨s, _, rfl⟩ := List.mem_map.mp hd
        exact .inl ⟨s, rfl⟩
    rw [← List.map_append, words_law hwd gl gr] at hvw
    have e57 := e6.trans e7
    clear e6 e7 T6
    refine n_when (nt_is (nt_or2 (nt_test (n_ne1 (d := .list [.str "right", .str "left"]) (n_of fun Hx ex => q_lst (ds := [.str "right", .str "left"]) (ps_cons mo_qe (ev_qS (ev_is (ev_otherP (s := "left") (vM rfl (e57.trans ex)) ev_c nmL) (congrArg V.str oL))) (ps_cons mo_qe (ev_qS (ev_is (ev_otherP (s := "right") (vM rfl (e57.trans ex)) ev_c nmR) (congrArg V.str oR))) ps_nil))) (n_of fun Hx ex => q_lst (ds := [.str "right", .str "left"]) (ps_cons mo_qe q_str (ps_cons mo_qe q_str ps_nil))) (by decide +kernel)))
      fun _ => nt_test (n_ne1 (d := .list ((wordsI (ownersI (endS l) (endS r))).map PyData.str)) (n_of fun Hx ex => p_wordsPc (vM rfl (e57.trans ex)) N) (n_of fun Hx ex => q_var rfl (dq_ext ex hvw)) (words_shaped hwd gl gr))) rfl) T7 fun H8 e8 T8 => ?_
    have e58 := e57.trans e8
    have hvw := dq_ext e8 hvw
    clear e57 e8 T7
    -- == and !=
    refine n_when (nt_of (b := false) fun Hx ex => et_is (et_or (et_test (ev_ownPD (vM rfl (e58.trans ex)) (ev_var rfl) (st_n (e58.trans ex) hpp5) N S.nbP)) fun _ => et_test (ev_ownP (neg := true) (vM rfl (e58.trans ex)) (p_madeP (vp rfl (e58.trans ex)) hwd gl gr) N N)) (by simp [sl, sr])) T8 fun H9 e9 T9 => ?_
    have e59 := e58.trans e9
    have hvw := dq_ext e9 hvw
    clear e58 e9 T8
    refine n_when (nt_of (b := false) fun Hx ex => et_is (et_not (et_B (ev_owners (vp rfl (e59.trans ex)) (vM rfl (e59.trans ex)) (q_var rfl (dq_ext ex hvw)) hwd gl gr (words_mem gl gr)))) rfl) T9 fun HA eA TA => ?_
    have e5A := e59.trans eA
    clear e59 eA T9 hvw
    refine n_when (nt_is (nt_not2 (nt_B2 (n_oddP (fun Hx ex => vM rfl (e5A.trans ex)) (fun Hx ex => (p_pick (vpo rfl (e5A.trans ex)) (q_lst (ds := noN) (ps_cons mo_qe q_str (ps_cons mo_qe q_str (ps_cons mo_qe (.of ev_c mo_qe .non) (ps_cons mo_qe q_int (ps_cons mo_qe (q_lst (ds := [.str "left"]) (ps_cons mo_qe q_str ps_nil)) (ps_cons mo_qe q_str (ps_cons mo_qe (q_tup (ds := [.str "a"]) (ps_cons mo_qe q_str ps_nil)) (ps_cons mo_qe q_bl ps_nil))))))))) (by decide)).imp fun v H' _ ⟨d, hd, hv⟩ => ⟨d, oddN hwd gl gr hd, hv⟩) N))) rfl) TA fun HB eB TB1 => ?_
    have e5B := e5A.trans eB
    clear e5A eB TA
    -- another end
    have few0 : Few (.list []) := fun _ z => nomatch z
    have sh0 : Short (.list []) := fun ds z => by cases z; decide
    have back : ("back" : Str) ∈ deedsT := by decide
    obtain ⟨bareE, ebare⟩ : ∃ b, b = withE (endS l) "back" (.list []) := ⟨_, rfl⟩
    have NPB : NeatP bareE (endS r) := by
      have ow := own_with (s := "back") (d := .list []) (std_start gl k.1)
      rw [← ebare] at ow
      refine ⟨ebare ▸ neat_with N.nl back few0 sh0 rfl, N.nr, ⟨?_, ?_⟩, N.lr, ?_⟩
      · rw [ow.1]
        exact N.ll.own
      · rw [ow.2.1]
        exact N.ll.uses
      · have := N.fit
        unfold fitW usesD Chk.wordsD at this ⊢
        rw [ow.1, ow.2.1]
        exact this
    refine d_asg (P := EndV K C CE bareE) (ebare ▸ p_withE (dp := .list []) (s := "back") (vL rfl e5B) N.nl ev_c back (q_lst (ds := []) ps_nil) few0 sh0 rfl) fun vb HC eC hvb => ?_
    have e5C := e5B.trans (ExtN.of eC)
    have TC := TB1.ext eC
    refine d_asg (P := PactV K C CE CP bareE (endS r)) (p_withEnd (A := .e bareE) (s := "left") (vM rfl e5C) N ev_c nmL (p_var rfl mo_any ⟨hvb, NPB.nl, NPB.ll⟩) (if_pos rfl) (if_pos rfl) NPB.fit) fun vo HD eD hvo => ?_
    have e5D := e5C.trans (ExtN.of eD)
    have TD := TC.ext eD
    have hvbD := mo_end _ _ _ eD hvb
    clear e5B eC TB1 e5C eD TC hvb
    have sb : eqE bareE bareE = true := eqE_of NPB.nl NPB.nl rfl rfl rfl fun _ _ => rfl
    refine n_when (nt_of (b := false) fun Hx ex => et_is (et_or (et_test (ev_ownE (neg := true) (p_leftP (p_var rfl mo_pact (mon_pact _ _ _ ex hvo))) (p_var rfl mo_end (mon_end _ _ _ ex hvbD)) NPB.nl NPB.nl)) fun _ => et_or (et_test (ev_ownE (neg := true) (p_rightP (p_var rfl mo_pact (mon_pact _ _ _ ex hvo))) (vR rfl (e5D.trans ex)) N.nr N.nr)) fun _ => et_or (et_test (ev_ownE (neg := true) (p_leftP (vM rfl (e5D.trans ex))) (vL rfl (e5D.trans ex)) N.nl N.nl)) fun _ => et_test (ev_op (ev_ownP (neg := false) (p_var rfl mo_pact (mon_pact _ _ _ ex hvo)) (vM rfl (e5D.trans ex)) NPB N) (ev_ownE (neg := false) (p_var rfl mo_end (mon_end _ _ _ ex hvbD)) (vL rfl (e5D.trans ex)) NPB.nl N.nl) (rv_ne rfl))) (by
      simp [sl, sr, sb])) TD fun HE eE TE1 => ?_
    have e5E := e5D.trans eE
    clear e5D eE TD hvo hvbD
    -- what is no end
    have five : ∀ {σ : L2.St}, σ[3]? = some (some (.ref pp)) → σ[6]? = some (some vm) → EvPs (tCons (tC .non) (tCons (tC (.int 3)) (tCons (tC (.str "left")) (tCons (tVar 6) (tCons (tDGet (tVar 3) (tC (.str "left"))) tNil))))) σ HE (List.replicate 5 (NoN K CE)) := fun {σ} hσ3 hσ6 =>
      ps_cons mo_noN (.of ev_c mo_noN (noN_non S.nb)) (ps_cons mo_noN (.of ev_c mo_noN (noN_int S.nb)) (ps_cons mo_noN (.of ev_c mo_noN (noN_str S.nb)) (ps_cons mo_noN ((vM hσ6 e5E).imp fun v H' _ p => noN_pact SP.T S.insP S.no p) (ps_cons mo_noN (p_dget (k := .inr "left") (ev_var hσ3) ev_c (.inl (st_n e5E hpp5)) rfl mo_noN (noN_dict S.nb (st_n e5E h1))) ps_nil))))
    refine d_asg (P := NoN K CE) (p_pickL mo_noN (vpo rfl e5E) (p_allL (n := 5) mo_noN (five rfl rfl) (by decide)) (by decide)) fun vn HF eF hvn => ?_
    have e5F := e5E.trans (ExtN.of eF)
    have TF := TE1.ext eF
    clear e5E eF TE1 five
    have bad1 : ∀ {σ : L2.St} {Hx : Hp}, σ[10]? = some (some vn) → ExtN HF Hx → EN T (tLam T (TBad K (errs a0 a1 a2 a3 a4 a5 a6 a7 a8 a9)) (tL1 K C CE CP a2)) σ Hx (Qe (.list [.str "pact", .str "left"])) := fun {σ Hx} hσ ex => n_badPact fun Hy E Q ey hE => by
      have ev : EvPs (tCons (tVar 10) (tCons (tC .non) tNil)) σ Hy [AnyV K C CE .no, AnyV K C CE .no] := ps_cons mo_any (p_var hσ mo_any (NoN.noE (mon_noN _ _ _ (ex.trans ey) hvn))) (ps_cons mo_any (.of ev_c mo_any (NoN.noE (noN_non S.nb))) ps_nil)
      exact make_badP ev rfl hE
    have bad2 : ∀ {σ : L2.St} {Hx : Hp}, σ[6]? = some (some vm) → σ[10]? = some (some vn) → ExtN HF Hx → EN T (tLam T (TBad K (errs a0 a1 a2 a3 a4 a5 a6 a7 a8 a9)) (tL2 K C CE CP a3 a2)) σ Hx (Qe (.list [.str "pact", .str "right"])) := fun {σ Hx} hσ6 hσ ex => n_badPact fun Hy E Q ey hE => by
      have ev : EvP (tVar 10) σ Hy (AnyV K C CE .no) := p_var hσ mo_any (NoN.noE (mon_noN _ _ _ (ex.trans ey) hvn))
      exact withEnd_badP (A := .no) (s := "right") (vM hσ6 (e5F.trans (ex.trans ey))) N ev_c nmR ev (by
        rw [show newA (endS l) .no "right" = .e (endS l) from if_neg (by decide), show newB (endS r) .no "right" = .no from if_neg (by decide)]
        rfl) hE
    have two : ∀ {σ : L2.St} {Hx : Hp} {s : Str}, EN T (tLst (tCons (tC (.str "pact")) (tCons (tC (.str s)) tNil))) σ Hx (Qe (.list [.str "pact", .str s])) := fun {σ Hx s} => n_of fun Hy _ => q_lst (ds := [.str "pact", .str s]) (ps_cons mo_qe q_str (ps_cons mo_qe q_str ps_nil))
    refine n_when (nt_test (n_ne1 (bad1 rfl (ExtN.refl _)) two (by decide +kernel))) TF fun HG eG TG => ?_
    refine n_when (nt_test (n_ne1 (bad2 rfl rfl eG) two (by decide +kernel))) TG fun HI eI TI => ?_
    have e5I := e5F.trans (eG.trans eI)
    clear bad1 bad2 e5F eG eI TG TF hvn
    -- ends that do not fit
    refine d_asg (P := EndV K C CE (endS lone)) (p_makeE (p := ptsS lone) (ps_cons mo_arg p_new00 (ps_cons mo_arg p_new00 (ps_cons mo_arg p_new00 (ps_cons mo_de (.of ev_c mo_de (.int 1)) ps_nil)))) (plainU lone) (plainR lone) (rightS good_lone words_lone)) fun vo2 HJ eJ hlo => ?_
    have e5J := e5I.trans (ExtN.of eJ)
    have TJ := TI.ext eJ
    clear e5I eJ TI
    have aO : ∀ {σ : L2.St} {Hx : Hp}, σ[11]? = some (some vo2) → ExtN HJ Hx → EvP (tVar 11) σ Hx (AnyV K C CE (.e (endS lone))) := fun hσ ex => p_var hσ mo_any ⟨mon_end _ _ _ ex hlo, neat_lone.nl, laid_lone⟩
    have four : ∀ {σ : L2.St}, σ[4]? = some (some vl) → σ[5]? = some (some vr) → σ[11]? = some (some vo2) → EvPs (tCons (tTup (tCons (tVar 4) (tCons (tVar 4) tNil))) (tCons (tTup (tCons (tVar 5) (tCons (tVar 5) tNil))) (tCons (tTup (tCons (tVar 4) (tCons (tVar 11) tNil))) (tCons (tTup (tCons (tVar 11) (tCons (tVar 5) tNil))) tNil)))) σ HJ (List.replicate 4 (TwoBad K C CE)) := fun {σ} s4 s5 s11 =>
      ps_cons mo_two (p_two2 (aL s4 e5J) (aL s4 e5J) (bad_ll hwd gl)) (ps_cons mo_two (p_two2 (aR s5 e5J) (aR s5 e5J) (bad_rr hwd gr)) (ps_cons mo_two (p_two2 (aL s4 e5J) (aO s11 (ExtN.refl _)) (bad_lo hwd gl)) (ps_cons mo_two (p_two2 (aO s11 (ExtN.refl _)) (aR s5 e5J) (bad_or hwd gr)) ps_nil)))
    refine q_forTwo (n := 4) (i := 12) (j := 13) (p_allL mo_two (four rfl rfl rfl) (by decide)) (fun B σ' H' => ExtN HJ B ∧ Tabs T H' ∧ ExtN B H' ∧ ∃ o12 o13, σ' = [some (V.ref a), some (.int (i : Int)), some po, some (.ref pp), some vl, some vr, some vm, some vw, some vb, some vo, some vn, some vo2, o12, o13]) (fun B eB => ⟨ExtN.of eB, TJ.ext eB, ExtN.refl _, _, _, rfl⟩) (fun B σ' H' p => p.2.2.1) ?pair ?fin
    case pair =>
      rintro B x y e1 e2 σ' H' hx hy ff ⟨b1, b2, b3, o12', o13', rfl⟩
      have bad3 : ∀ {σ : L2.St}, σ[12]? = some (some x) → σ[13]? = some (some y) → EN T (tLam T (TBad K (errs a0 a1 a2 a3 a4 a5 a6 a7 a8 a9)) (tL3 K C CE CP a2)) σ H' (Qe (.list [.str "pact", .str "words"])) := fun {σ} s12 s13 => n_badPact fun Hy E Q ey hE => by
        have ev : EvPs (tCons (tVar 12) (tCons (tVar 13) tNil)) σ Hy [AnyV K C CE (.e e1), AnyV K C CE (.e e2)] := ps_cons mo_any (p_var s12 mo_any (mon_any (A := .no) _ _ _ ey hx)) (ps_cons mo_any (p_var s13 mo_any (mon_any (A := .no) _ _ _ ey hy)) ps_nil)
        exact make_badP ev (by rw [wrongP_ee, ff]; rfl) hE
      exact n_whenE (nt_test (n_ne1 (bad3 rfl rfl) two (by decide +kernel))) b2 fun HK eK TK => ⟨b1, TK, b3.trans eK, _, _, rfl⟩
    case fin =>
      rintro B σ' HK ⟨b1, TK, b3, o12', o13', rfl⟩
      have e5K := e5J.trans (b1.trans b3)
      have eJK := b1.trans b3
      refine n_whenE (nt_of (b := false) fun Hx ex => et_is (et_or (et_not (et_test (ev_ownP (neg := false) (p_withEnd (A := .e (endS l)) (s := "left") (vM rfl (e5K.trans ex)) N ev_c nmL (aL rfl (e5K.trans ex)) (if_pos rfl) (if_pos rfl) N.fit) (vM rfl (e5K.trans ex)) N N))) fun _ => et_test (de_ne (d := .list ((wordsI (ownersI (endS lone) (endS lone))).map PyData.str)) (e := .list []) ?_ (by decide +kernel) (toDe (p_wordsPc (p_makeP (ps_cons mo_any (aO rfl (eJK.trans ex)) (ps_cons mo_any (aO rfl (eJK.trans ex)) ps_nil)) neat_lone.fit) neat_lone)) (toDe (q_lst (ds := []) ps_nil)))) ?_) TK fun HL eL TL => ⟨_, _, _, _, _, _, _, _, _, _, _, _, _, rfl, g05.trans (e5K.trans eL), TL⟩
      · rw [lone_words]
        decide +kernel
      · rw [lone_words]
        simp [sl, sr]
        decide +kernel
end
end Lw
set_option maxHeartbeats 1000000
/-! What a top has left of the package. -/
namespace Lw
open PySem PySem.Spec PyProof.Rows L2 Evl Pd Gd Us Chk Wlk LamX LamK
section
variable {P : Program} {w : World} {K : PySem.W.Frag} {mg : Str → Option Value} {base : Heap} {C CE a0 a1 a2 a3 a4 a5 a6 a7 a8 a9 aX : Addr}
/-- the class Setting -/
structure RawS (K : PySem.W.Frag) (mg : Str → Option Value) (C CB : Addr) : Prop where
  mS : mg "Setting" = some (.ref C)
  T : ClsS K C
  make : ∃ fI fd, Mk K C fI ∧ Fun K "__init__" "Setting.__init__" mInit fI fd
  lets : ∃ f fd, Meth K C "lets" f ∧ Fun K "lets" "Setting.lets" mLets f fd
  chs : ∃ f fd, Meth K C "changes" f ∧ Fun K "changes" "Setting.changes" mChanges f fd
  eq : ∃ f fd, OwnNe.EqC K C f ∧ Fun K "__eq__" "Setting.__eq__" mEq f fd
  ins : C8.InsC K C
  nb : NotB K C
  nl : PySem.W.notFirst K C (.type "list") = true
  kind : ∃ p g fd, PropOf K C "kind" p g ∧ Fun K "kind" "Setting.kind" mKind g fd
  size : ∃ p g fd, PropOf K C "size" p g ∧ Fun K "size" "Setting.size" mSize g fd
  start : ∃ p g fd, PropOf K C "start" p g ∧ Fun K "start" "Setting.start" mStart g fd
  hold : ∃ p g fd, PropOf K C "hold" p g ∧ Fun K "hold" "Setting.hold" mHold g fd
  mB : mg "BadSetting" = some (.ref CB)
  err : ∃ fB, Err.ErrC K CB fB "part"
/-- the class End -/
structure RawE (K : PySem.W.Frag) (mg : Str → Option Value) (CE CB CD : Addr) : Prop where
  mE : mg "End" = some (.ref CE)
  T : ClsE K CE
  make : ∃ fI fd, Mk K CE fI ∧ Fun K "__init__" "End.__init__" mInitE fI fd
  words : ∃ f fd, Meth K CE "words" f ∧ Fun K "words" "End.words" mWords f fd
  pairs : ∃ f fd, Meth K CE "pairs" f ∧ Fun K "pairs" "End.pairs" mPairs f fd
  withP : ∃ f fd, Meth K CE "with_pairs" f ∧ Fun K "with_pairs" "End.with_pairs" mWith f fd
  eq : ∃ f fd, OwnNe.EqC K CE f ∧ Fun K "__eq__" "End.__eq__" mEqE f fd
  ins : C8.InsC K CE
  nl : PySem.W.notFirst K CE (.type "list") = true
  most : ∃ p g fd, PropOf K CE "most" p g ∧ Fun K "most" "End.most" mMost g fd
  mB : mg "BadEnd" = some (.ref CB)
  err : ∃ fB, Err.ErrC K CB fB "part"
  mD : mg "BadDeed" = some (.ref CD)
  errD : ∃ fD, Err.ErrC K CD fD "value"
/-- the defs of the package -/
structure RawP (K : PySem.W.Frag) (mg : Str → Option Value) : Prop where
  B : Bc mg
  dict : mg "dict" = none
  sorted : mg "sorted" = none
  integer : Us.Dn K mg "is_integer" sIsInteger
  between : Us.Dn K mg "is_between" sIsBetween
  oneOf : Us.Dn K mg "is_one_of" sIsOneOf
  word : Us.Dn K mg "is_word" sIsWord
  row : Us.Dn K mg "is_row" sIsRow
  pair : Us.Dn K mg "is_pair" sIsPair
  changes : Us.Dn K mg "are_changes" sAreChanges
  hold : Us.Dn K mg "is_hold" sIsHold
  wrong : Us.DnY K mg "wrong_part_settings" "wrong_part" sWrongPart
  settings : Us.Dn K mg "are_settings" sAreSettings
  uses : Us.Dn K mg "are_uses" sAreUses
  pairs : Us.Dn K mg "are_pairs" sArePairs
  rules : Us.Dn K mg "are_rules" sAreRules
  wrongE : Us.DnY K mg "wrong_part_ends" "wrong_part" sWrongEnd
  check : Us.Dn K mg "check_deed" sCheckDeed
  sorts : TxG K mg "SORTS" Chk.sorts
  holds : TxG K mg "HOLDS" Chk.holds
  deeds : TxG K mg "DEEDS" deedsT
  usesT : TxG K mg "USES" Chk.usesT
  letters : StG mg "LETTERS" letters
  greatest : IntG mg "GREATEST" 3
structure Pkg (P : Program) (w : World) (K : PySem.W.Frag) (mg : Str → Option Value) (base : Heap) (C CE CB CBE CD : Addr) : Prop where
  S : SetC P w K mg base C CB
  E : EndC P w K mg base C CE CD CBE
theorem pkg_of {CB CBE CD : Addr} (R : RawP K mg) (RS : RawS K mg C CB) (RE : RawE K mg CE CBE CD) : Pkg P w K mg base C CE CB CBE CD := by
  have B := R.B
  have B2 : Bd mg := ⟨R.dict, R.sorted⟩
  have ui : Use P w K mg base 1 "is_integer" ["value"] (spAsk K 1 (rInteger K)) := ok_integer R.integer B
  have ub : Use P w K mg base 2 "is_between" ["value", "low", "high"] (spAsk K 3 (rBetween K)) := ok_between R.between ui
  have uo : Use P w K mg base 1 "is_one_of" ["value", "texts"] (spAsk K 2 (rOneOf K)) := ok_oneOf R.oneOf B
  have ur : Use P w K mg base 1 "is_row" ["value", "many"] (spAsk K 2 (rRow K)) := ok_row R.row B
  have up : Use P w K mg base 3 "is_pair" ["value", "low", "high"] (spAsk K 3 (rPair K)) := ok_pair R.pair ur ub
  have uc : Use P w K mg base 4 "are_changes" ["value", "size"] (spAsk K 2 (rChanges K)) := ok_changes R.changes B up
  have uh : Use P w K mg base 2 "is_hold" ["value", "sort"] (spAsk K 2 (rHold K)) := ok_hold R.hold R.holds uo
  have uw := ok_wrong (P := P) (w := w) (base := base) R.wrong R.sorts uo ub uc uh
  have S : SetC P w K mg base C CB := by
    obtain ⟨fI, fdI, mk, FI⟩ := RS.make
    obtain ⟨fL, fdL, mL, FL⟩ := RS.lets
    obtain ⟨fC, fdC, mC, FC⟩ := RS.chs
    obtain ⟨fE, fdE, mE, FE⟩ := RS.eq
    obtain ⟨p1, g1, fd1, P1, F1⟩ := RS.kind
    obtain ⟨p2, g2, fd2, P2, F2⟩ := RS.size
    obtain ⟨p3, g3, fd3, P3, F3⟩ := RS.start
    obtain ⟨p4, g4, fd4, P4, F4⟩ := RS.hold
    obtain ⟨fB, EB⟩ := RS.err
    exact {
      mS := RS.mS
      T := RS.T
      make := ⟨fI, fdI, mk, FI.binds (ps := psInit) (fun _ _ _ _ _ _ us hl => match us, hl with | [_, _, _, _, _, _], _ => rfl), ok_init FI EB RS.mB RS.T uw⟩
      lets := ⟨fL, fdL, mL, FL.binds (ps := ["self", "one", "other"]) (fun _ _ _ _ _ _ us hl => match us, hl with | [_, _, _], _ => rfl), ok_lets FL RS.T ui⟩
      chs := ⟨fC, fdC, mC, FC.binds (ps := ["self"]) (fun _ _ _ _ _ _ us hl => match us, hl with | [_], _ => rfl), ok_chs FC RS.T R.sorted B.list B.str⟩
      eq := ⟨fE, fdE, mE, FE.binds (ps := ["self", "other"]) (fun _ _ _ _ _ _ us hl => match us, hl with | [_, _], _ => rfl), ok_eqS FE B RS.mS RS.T RS.ins RS.nb.list⟩
      nl := RS.nl
      kind := ⟨p1, g1, fd1, P1, F1.binds (ps := ["self"]) (fun _ _ _ _ _ _ us hl => match us, hl with | [_], _ => rfl), ok_get F1 scKind rfl RS.T.cl RS.T.kind⟩
      size := ⟨p2, g2, fd2, P2, F2.binds (ps := ["self"]) (fun _ _ _ _ _ _ us hl => match us, hl with | [_], _ => rfl), ok_get F2 scSize rfl RS.T.cl RS.T.size⟩
      start := ⟨p3, g3, fd3, P3, F3.binds (ps := ["self"]) (fun _ _ _ _ _ _ us hl => match us, hl with | [_], _ => rfl), ok_get F3 scStart rfl RS.T.cl RS.T.start⟩
      hold := ⟨p4, g4, fd4, P4, F4.binds (ps := ["self"]) (fun _ _ _ _ _ _ us hl => match us, hl with | [_], _ => rfl), ok_get F4 scHoldP rfl RS.T.cl RS.T.hold⟩ }
  refine ⟨S, ?_⟩
  have uwd : Use P w K mg base 1 "is_word" ["value"] (spAsk K 1 (rWord K)) := ok_word R.word B R.letters
  have uss : Use P w K mg base 3 "are_settings" ["value"] (spAsk K 1 (rSettings K C)) := ok_settings R.settings B B2 S RS.ins RS.nb uwd
  have uus : Use P w K mg base 2 "are_uses" ["value", "settings"] (spAsk K 2 (rUses K C)) := ok_uses R.uses B B2 R.usesT uwd uo
  have ups : Use P w K mg base 4 "are_pairs" ["value"] (spAsk K 1 (rPairs K)) := ok_pairs R.pairs B R.greatest up
  have urs : Use P w K mg base 5 "are_rules" ["value"] (spAsk K 1 (rRules K C)) := ok_rules R.rules B B2 R.deeds uo ups
  have uwe : Use P w K mg base 6 "wrong_part_ends" ["settings", "uses", "rules", "most"] (spWrongE K C) := ok_wrongE R.wrongE B R.greatest uss uus urs ub
  obtain ⟨fD, ED⟩ := RE.errD
  obtain ⟨fB, EB⟩ := RE.err
  have ucd : UseX P w K mg base 2 "check_deed" ["deed"] (spCheck CD) := ok_check R.check R.deeds ED RE.mD uo
  obtain ⟨fI, fdI, mk, FI⟩ := RE.make
  obtain ⟨fW, fdW, mW, FW⟩ := RE.words
  obtain ⟨fP, fdP, mP, FP⟩ := RE.pairs
  obtain ⟨fH, fdH, mH, FH⟩ := RE.withP
  obtain ⟨fQ, fdQ, mQ, FQ⟩ := RE.eq
  obtain ⟨p1, g1, fd1, P1, F1⟩ := RE.most
  have MK : ∃ fI fdI, Mk K CE fI ∧ L2.Binds K fdI psInitE [] ∧ FnOk P w K mg base (L2.CX P w) 7 fI fdI psInitE (spInitE K C CE CBE) := ⟨fI, fdI, mk, FI.binds (ps := psInitE) (fun _ _ _ _ _ _ us hl => match us, hl with | [_, _, _, _, _], _ => rfl), ok_initE FI EB RE.mB RE.T B B2 uwe⟩
  have MP : ∃ fP fdP, Meth K CE "pairs" fP ∧ L2.Binds K fdP ["self", "deed"] [] ∧ FnG P w K mg base (L2.CX P w) 3 fP fdP ["self", "deed"] (spPairs K C CE CD) := ⟨fP, fdP, mP, FP.binds (ps := ["self", "deed"]) (fun _ _ _ _ _ _ us hl => match us, hl with | [_, _], _ => rfl), ok_pairsE FP RE.T B B2 ucd⟩
  exact {
    mE := RE.mE
    T := RE.T
    make := MK
    words := ⟨fW, fdW, mW, FW.binds (ps := ["self"]) (fun _ _ _ _ _ _ us hl => match us, hl with | [_], _ => rfl), ok_words FW RE.T B⟩
    pairs := MP
    withP := ⟨fH, fdH, mH, FH.binds (ps := ["self", "deed", "pairs"]) (fun _ _ _ _ _ _ us hl => match us, hl with | [_, _, _], _ => rfl), ok_with FH RE.T B RE.mE ucd MK MP⟩
    eq := ⟨fQ, fdQ, mQ, FQ.binds (ps := ["self", "other"]) (fun _ _ _ _ _ _ us hl => match us, hl with | [_, _], _ => rfl), ok_eqE FQ B RE.mE RE.T RE.ins S⟩
    nl := RE.nl
    most := ⟨p1, g1, fd1, P1, F1.binds (ps := ["self"]) (fun _ _ _ _ _ _ us hl => match us, hl with | [_], _ => rfl), ok_get F1 scMost rfl RE.T.cl RE.T.most⟩ }
end
end Lw
set_option maxHeartbeats 1000000
/-! What a top has left of the other methods of End, and of the class Pact. -/
namespace Lw
open PySem PySem.Spec PyProof.Rows L2 Evl Pd Gd Us Chk Wlk LamX LamK
section
variable {P : Program} {w : World} {K : PySem.W.Frag} {mg : Str → Option Value} {base : Heap} {C CE CP CS CBE CD CN CB : Addr}
/-- the other methods of End -/
structure RawEM (K : PySem.W.Frag) (mg : Str → Option Value) (CE CN : Addr) : Prop where
  setting : ∃ f fd, Meth K CE "setting" f ∧ Fun K "setting" "End.setting" mSetting f fd
  use : ∃ f fd, Meth K CE "use" f ∧ Fun K "use" "End.use" mUse f fd
  lets : ∃ f fd, Meth K CE "lets" f ∧ Fun K "lets" "End.lets" mLetsE f fd
  used : ∃ f fd, Meth K CE "used_words" f ∧ Fun K "used_words" "End.used_words" mUsedW f fd
  nb : NotB K CE
  mN : mg "BadName" = some (.ref CN)
  errN : ∃ fN, Err.ErrC K CN fN "value"
/-- the class Pact -/
structure RawT (K : PySem.W.Frag) (mg : Str → Option Value) (CP CB : Addr) : Prop where
  mP : mg "Pact" = some (.ref CP)
  T : ClsP K CP
  make : ∃ fI fd, Mk K CP fI ∧ Fun K "__init__" "Pact.__init__" mInitP fI fd
  left : ∃ p g fd, PropOf K CP "left" p g ∧ Fun K "left" "Pact.left" mLeft g fd
  right : ∃ p g fd, PropOf K CP "right" p g ∧ Fun K "right" "Pact.right" mRight g fd
  end_ : ∃ f fd, Meth K CP "end" f ∧ Fun K "end" "Pact.end" mEndP f fd
  other : ∃ f fd, Meth K CP "other" f ∧ Fun K "other" "Pact.other" mOther f fd
  words : ∃ f fd, Meth K CP "words" f ∧ Fun K "words" "Pact.words" mWordsP f fd
  owner : ∃ f fd, Meth K CP "owner" f ∧ Fun K "owner" "Pact.owner" mOwner f fd
  setting : ∃ f fd, Meth K CP "setting" f ∧ Fun K "setting" "Pact.setting" mSettingP f fd
  withE : ∃ f fd, Meth K CP "with_end" f ∧ Fun K "with_end" "Pact.with_end" mWithEnd f fd
  eq : ∃ f fd, OwnNe.EqC K CP f ∧ Fun K "__eq__" "Pact.__eq__" mEqP f fd
  ins : C8.InsC K CP
  nl : PySem.W.notFirst K CP (.type "list") = true
  nd : PySem.W.notFirst K CP (.type "dict") = true
  nb : NotB K CP
  wrong : Us.DnY K mg "wrong_part_pacts" "wrong_part" sWrongP
  check : Us.Dn K mg "check_name" sCheckName
  names : TxG K mg "NAMES" namesT
  mB : mg "BadPact" = some (.ref CB)
  err : ∃ fB, Err.ErrC K CB fB "part"
structure Pkg2 (P : Program) (w : World) (K : PySem.W.Frag) (mg : Str → Option Value) (base : Heap) (C CE CP CS CBE CD CN CB : Addr) : Prop where
  S : SetC P w K mg base C CS
  E : EndC P w K mg base C CE CD CBE
  EM : EndM P w K mg base C CE CD CN
  U : UsedM P w K mg base C CE
  T : PactC P w K mg base C CE CP CN CB
theorem pkg2_of (R : RawP K mg) (RS : RawS K mg C CS) (RE : RawE K mg CE CBE CD) (RM : RawEM K mg CE CN) (RT : RawT K mg CP CB) : Pkg2 P w K mg base C CE CP CS CBE CD CN CB := by
  have B := R.B
  have B2 : Bd mg := ⟨R.dict, R.sorted⟩
  obtain ⟨S, E⟩ := pkg_of (P := P) (w := w) (base := base) R RS RE
  have ui : Use P w K mg base 1 "is_integer" ["value"] (spAsk K 1 (rInteger K)) := ok_integer R.integer B
  have ub : Use P w K mg base 2 "is_between" ["value", "low", "high"] (spAsk K 3 (rBetween K)) := ok_between R.between ui
  have uo : Use P w K mg base 1 "is_one_of" ["value", "texts"] (spAsk K 2 (rOneOf K)) := ok_oneOf R.oneOf B
  have uoD : Use P w K mg base 1 "is_one_of" ["value", "texts"] (spAsk K 2 (rOneOfD K)) := ok_oneOfD R.oneOf B
  obtain ⟨fX, ED⟩ := RE.errD
  obtain ⟨fY, EN⟩ := RM.errN
  obtain ⟨fZ, EB⟩ := RT.err
  have ucd : UseX P w K mg base 2 "check_deed" ["deed"] (spCheck CD) := ok_check R.check R.deeds ED RE.mD uo
  obtain ⟨g1, h1, m1, F1⟩ := RM.setting
  obtain ⟨g2, h2, m2, F2⟩ := RM.use
  obtain ⟨g3, h3, m3, F3⟩ := RM.lets
  obtain ⟨g4, h4, m4, F4⟩ := RM.used
  have SM : EndM P w K mg base C CE CD CN := {
    cl := RE.T.cl
    setting := ⟨g1, h1, m1, F1.binds (ps := ["self", "word"]) (fun _ _ _ _ _ _ us hl => match us, hl with | [_, _], _ => rfl), ok_settingM F1 RE.T EN RM.mN uoD⟩
    use := ⟨g2, h2, m2, F2.binds (ps := ["self", "word"]) (fun _ _ _ _ _ _ us hl => match us, hl with | [_, _], _ => rfl), ok_useM F2 RE.T EN RM.mN uoD⟩
    lets := ⟨g3, h3, m3, F3.binds (ps := nLetsE) (fun _ _ _ _ _ _ us hl => match us, hl with | [_, _, _, _], _ => rfl), ok_letsE F3 RE.T R.greatest ucd ub⟩ }
  have SU : UsedM P w K mg base C CE := ⟨g4, h4, m4, F4.binds (ps := ["self"]) (fun _ _ _ _ _ _ us hl => match us, hl with | [_], _ => rfl), ok_usedW F4 RE.T B⟩
  have uwp : Use P w K mg base 3 "wrong_part_pacts" ["left", "right"] (spWrongP K C CE) := ok_wrongP RT.wrong B E SU RE.ins
  have ucn : UseX P w K mg base 2 "check_name" ["name"] (spCheckN CN) := ok_checkN RT.check RT.names EN RM.mN uo
  obtain ⟨fI, fdI, mk, FI⟩ := RT.make
  have MK : ∃ fI fdI, Mk K CP fI ∧ L2.Binds K fdI psInitP [] ∧ FnOk P w K mg base (L2.CX P w) 4 fI fdI psInitP (spInitP K C CE CP CB) := ⟨fI, fdI, mk, FI.binds (ps := psInitP) (fun _ _ _ _ _ _ us hl => match us, hl with | [_, _, _], _ => rfl), ok_initP FI EB RT.mB RT.T E uwp⟩
  obtain ⟨p1, q1, d1, P1, D1⟩ := RT.left
  obtain ⟨p2, q2, d2, P2, D2⟩ := RT.right
  obtain ⟨e1, d3, n1, D3⟩ := RT.end_
  obtain ⟨e2, d4, n2, D4⟩ := RT.other
  obtain ⟨e3, d5, n3, D5⟩ := RT.words
  obtain ⟨e4, d6, n4, D6⟩ := RT.owner
  obtain ⟨e5, d7, n5, D7⟩ := RT.setting
  obtain ⟨e6, d8, n6, D8⟩ := RT.withE
  obtain ⟨e7, d9, n7, D9⟩ := RT.eq
  have ME : MC P w K mg base CP "end" 3 ["self", "name"] (spEndP K C CE CP CN) := ⟨e1, d3, n1, D3.binds (ps := ["self", "name"]) (fun _ _ _ _ _ _ us hl => match us, hl with | [_, _], _ => rfl), ok_endP D3 RT.T ucn⟩
  have MO : MC P w K mg base CP "owner" 2 ["self", "word"] (spOwner K C CE CP CN) := ⟨e4, d6, n4, D6.binds (ps := ["self", "word"]) (fun _ _ _ _ _ _ us hl => match us, hl with | [_, _], _ => rfl), ok_owner D6 RT.T EN RM.mN uoD⟩
  exact ⟨S, E, SM, SU, {
    mP := RT.mP
    T := RT.T
    make := MK
    left := ⟨p1, q1, d1, P1, D1.binds (ps := ["self"]) (fun _ _ _ _ _ _ us hl => match us, hl with | [_], _ => rfl), ok_get D1 scLeft rfl RT.T.cl RT.T.left⟩
    right := ⟨p2, q2, d2, P2, D2.binds (ps := ["self"]) (fun _ _ _ _ _ _ us hl => match us, hl with | [_], _ => rfl), ok_get D2 scRight rfl RT.T.cl RT.T.right⟩
    end_ := ME
    other := ⟨e2, d4, n2, D4.binds (ps := ["self", "name"]) (fun _ _ _ _ _ _ us hl => match us, hl with | [_, _], _ => rfl), ok_other D4 ucn⟩
    words := ⟨e3, d5, n3, D5.binds (ps := ["self"]) (fun _ _ _ _ _ _ us hl => match us, hl with | [_], _ => rfl), ok_wordsP D5 RT.T B B2⟩
    owner := MO
    setting := ⟨e5, d7, n5, D7.binds (ps := ["self", "word"]) (fun _ _ _ _ _ _ us hl => match us, hl with | [_, _], _ => rfl), ok_settingP D7 RT.T SM ME MO⟩
    withE := ⟨e6, d8, n6, D8.binds (ps := ["self", "name", "end"]) (fun _ _ _ _ _ _ us hl => match us, hl with | [_, _, _], _ => rfl), ok_withEnd D8 RT.T RT.mP ucn MK⟩
    eq := ⟨e7, d9, n7, D9.binds (ps := ["self", "other"]) (fun _ _ _ _ _ _ us hl => match us, hl with | [_, _], _ => rfl), ok_eqP D9 B RT.mP RT.T RT.ins E⟩
    nl := RT.nl
    nd := RT.nd }⟩
/-- the defs of a law that draw -/
structure RawDr (K : PySem.W.Frag) (mg : Str → Option Value) : Prop where
  max : mg "max" = none
  range : mg "range" = none
  numbers : Us.Dn K mg "_law_numbers" sNumbers
  pool : Us.Dn K mg "_law_pool" sPool
  draw : Us.Dn K mg "_law_draw" sDraw
  pick : Us.Dn K mg "_law_pick" sPick
  lchanges : Us.Dn K mg "_law_changes" sChanges
  setting : Us.Dn K mg "_law_setting" sSetting
  some : Us.Dn K mg "_law_some_pairs" sSome
  end_ : Us.Dn K mg "_law_end" sEnd
  pact : Us.Dn K mg "_law_pact" sPact
  made : Us.Dn K mg "_law_made_end" sMadeE
  turn : Us.Dn K mg "_law_turn_pool" sTurnPool
structure Draws (P : Program) (w : World) (K : PySem.W.Frag) (mg : Str → Option Value) (base : Heap) (C CE : Addr) : Prop where
  pl : Use P w K mg base 2 "_law_pool" ["cell", "salt", "many"] (spPool K)
  dr : Use P w K mg base 1 "_law_draw" ["pool", "many"] (spDraw K)
  pk : Use P w K mg base 2 "_law_pick" ["pool", "some"] (spPick K)
  pact : Use P w K mg base 5 "_law_pact" ["pool"] (spPact K)
  made : Use P w K mg base 9 "_law_made_end" ["end"] (spMadeE K C CE)
  turn : Use P w K mg base 3 "_law_turn_pool" ["script", "k"] (spTurn K)
theorem draws_of (R : RawP K mg) (RL : RawDr K mg) (S : SetC P w K mg base C CS) (E : EndC P w K mg base C CE CD CBE) : Draws P w K mg base C CE := by
  have B := R.B
  have B2 : Bd mg := ⟨R.dict, R.sorted⟩
  have bt : Bt mg := ⟨B.len, B.int, RL.range, RL.max⟩
  obtain ⟨fN, fdN, gN, kN, FN⟩ := RL.numbers.ex
  obtain ⟨fP, fdP, gP, kP, FP⟩ := RL.pool.ex
  obtain ⟨fD, fdD, gD, kD, FD⟩ := RL.draw.ex
  obtain ⟨fK, fdK, gK, kK, FK⟩ := RL.pick.ex
  have bN : L2.Binds K fdN ["cell", "salt", "sizes"] [] := FN.binds (ps := ["cell", "salt", "sizes"]) fun _ _ _ _ _ _ us hl => match us, hl with | [_, _, _], _ => rfl
  have bP : L2.Binds K fdP ["cell", "salt", "many"] [] := FP.binds (ps := ["cell", "salt", "many"]) fun _ _ _ _ _ _ us hl => match us, hl with | [_, _, _], _ => rfl
  have bD : L2.Binds K fdD ["pool", "many"] [] := FD.binds (ps := ["pool", "many"]) fun _ _ _ _ _ _ us hl => match us, hl with | [_, _], _ => rfl
  have bK : L2.Binds K fdK ["pool", "some"] [] := FK.binds (ps := ["pool", "some"]) fun _ _ _ _ _ _ us hl => match us, hl with | [_, _], _ => rfl
  have oN := ok_numbers (P := P) (w := w) (base := base) FN bt
  have oD := ok_draw (P := P) (w := w) (base := base) FD bt
  have uPl : Use P w K mg base 2 "_law_pool" ["cell", "salt", "many"] (spPool K) := ⟨fP, fdP, gP, kP, bP, ok_pool FP oN gN kN bN⟩
  have uDr : Use P w K mg base 1 "_law_draw" ["pool", "many"] (spDraw K) := ⟨fD, fdD, gD, kD, bD, oD⟩
  have uPk : Use P w K mg base 2 "_law_pick" ["pool", "some"] (spPick K) := ⟨fK, fdK, gK, kK, bK, ok_pick FK bt oD gD kD bD⟩
  have uCh : Use P w K mg base 2 "_law_changes" ["pool", "size"] (spCh K) := ok_ch RL.lchanges uDr
  have uSt : Use P w K mg base 3 "_law_setting" ["pool", "sort"] (spSetting K) := ok_setting RL.setting uDr uCh uPk
  have uSo : Use P w K mg base 2 "_law_some_pairs" ["pool"] (spSome K) := ok_some RL.some bt uDr
  have uEn : Use P w K mg base 4 "_law_end" ["pool", "words", "others"] (spEnd K) := ok_end RL.end_ bt uDr uPk uSt uSo
  exact ⟨uPl, uDr, uPk, ok_pact RL.pact uDr uEn, ok_madeE RL.made B B2 S E, ok_turn RL.turn bt uPl⟩
end
end Lw
set_option maxHeartbeats 1000000
/-! k04: what the top has left. -/
namespace Lw
open PySem PySem.Spec PyProof.Rows L2 Evl Pd Gd Us Chk Wlk LamX LamK
section
variable {P : Program} {w : World} {K : PySem.W.Frag} {mg : Str → Option Value} {base : Heap} {C CE CP a0 a1 a2 a3 a4 a5 a6 a7 a8 a9 aX : Addr}
/-- the defs of the law -/
structure RawL (K : PySem.W.Frag) (mg : Str → Option Value) (CE CP cS cO : Addr) : Prop where
  dr : RawDr K mg
  madeP : Us.Dn K mg "_law_made" sMadeP
  owners : Us.Dn K mg "_law_owners" sOwners
  no : PySem.W.kitOne K (.ref CP) (.ref CE) = some false
  srt : ∃ f fd, mg "_law_sorted" = .some (.ref f) ∧ PySem.W.keepIn K (.ref f) = true ∧ FunC K "_law_sorted" "_law_sorted" sSorted f fd cS
  odd : ∃ f fd, mg "_law_odd" = .some (.ref f) ∧ PySem.W.keepIn K (.ref f) = true ∧ FunC K "_law_odd" "_law_odd" sOddP f fd cO
  bad : ∃ g, FunB K mg "_law_bad" sBad g
abbrev qS : Str := "_law_sorted.<locals>.<lambda>"
abbrev qO : Str := "_law_odd.<locals>.<lambda>"
abbrev qL : Str := "law.<locals>.<lambda>"
structure Apt (PS PO PT : Addr) : Prop where
  so : PS ≠ PO
  st : PS ≠ PT
  ot : PO ≠ PT
theorem apt_uniq {PS PO PT : Addr} (A : Apt PS PO PT) : ∀ p ∈ [(PS, qS), (PO, qO), (PT, qL)], (p.1 = PS → p.2 = qS) ∧ (p.1 = PO → p.2 = qO) ∧ (p.1 = PT → p.2 = qL) := by
  intro p hp
  simp only [List.mem_cons, List.not_mem_nil, or_false] at hp
  rcases hp with rfl | rfl | rfl
  · exact ⟨fun _ => rfl, fun z => absurd z A.so, fun z => absurd z A.st⟩
  · exact ⟨fun z => absurd z.symm A.so, fun _ => rfl, fun z => absurd z A.ot⟩
  · exact ⟨fun z => absurd z.symm A.st, fun z => absurd z.symm A.ot, fun _ => rfl⟩
theorem calls_of {cS cO PS PO PT : Addr} (R : RawP K mg) (RS : RawS K mg C a0) (RE : RawE K mg CE a1 a4) (RM : RawEM K mg CE a3) (RT : RawT K mg CP a2) (RL : RawL K mg CE CP cS cO) (ER : Errs K mg a0 a1 a2 a3 a4 a5 a6 a7 a8 a9 aX) (ne : Apt PS PO PT) (TS : TabB base mg cS PS) (TO : TabB base mg cO PO) : Calls P w K mg base C CE CP a0 a1 a2 a3 a4 a5 a6 a7 a8 a9 aX [(PS, qS), (PO, qO), (PT, qL)] := by
  obtain ⟨S, E, SM, SU, SP⟩ := pkg2_of (P := P) (w := w) (base := base) R RS RE RM RT
  obtain ⟨uPl, uDr, uPk, uPa, uMa, uTu⟩ := draws_of (P := P) (w := w) (base := base) R RL.dr S E
  have uq := apt_uniq ne
  obtain ⟨fS, fdS, gS, kS, FS⟩ := RL.srt
  obtain ⟨fO, fdO, gO, kO, FO⟩ := RL.odd
  have bS : L2.Binds K fdS ["some"] [] := FunC.binds FS kS (fun F => F.binds (ps := ["some"]) fun _ _ _ _ _ _ us hl => match us, hl with | [_], _ => rfl)
  have bO : L2.Binds K fdO ["made", "odd"] [] := FunC.binds FO kO (fun F => F.binds (ps := ["made", "odd"]) fun _ _ _ _ _ _ us hl => match us, hl with | [_, _], _ => rfl)
  exact {
    turn := uTu
    pick := uPk
    pact := uPa
    made := uMa
    madeP := ok_madeP RL.madeP SP uMa
    owners := ok_owners RL.owners S SM SP
    odd := ⟨fO, fdO, gO, kO, bO, ok_oddP FO TO (List.mem_cons_of_mem _ List.mem_cons_self) (fun p hp => (uq p hp).2.1) SP (fun H => noE_none RM.nb) RL.bad ER⟩
    srt := ⟨fS, fdS, gS, kS, bS, ok_sorted FS TS List.mem_cons_self (fun p hp => (uq p hp).1) R.sorted R.B.str⟩
    bad := RL.bad
    cls := E
    clsP := SP
    insP := RT.ins
    no := RL.no
    nb := RM.nb
    nbP := RT.nb
    errs := ER
    range := RL.dr.range
    list := R.B.list }
theorem law_of {l : PySem.W.OpenLaw} {h : Heap} {cS cO cT PS PO PT fa : Addr} (R : RawP K mg) (RS : RawS K mg C a0) (RE : RawE K mg CE a1 a4) (RM : RawEM K mg CE a3) (RT : RawT K mg CP a2) (RL : RawL K mg CE CP cS cO) (ER : Errs K mg a0 a1 a2 a3 a4 a5 a6 a7 a8 a9 aX) (ne : Apt PS PO PT) (L : ∃ fd, mg "law" = some (.ref fa) ∧ FunC K "law" "law" sLaw fa fd cT)
    (tS : h.get? PS = some tabObj) (tO : h.get? PO = some tabObj) (tT : h.get? PT = some tabObj) (nS : K.lookup PS = none) (nO : K.lookup PO = none) (nT : K.lookup PT = none)
    (hS : PySem.W.CodeHd h cS PS) (hO : PySem.W.CodeHd h cO PO) (hT : PySem.W.CodeHd h cT PT) : LawG l w K 13 63 "script" mg fa h := by
  obtain ⟨fd, _, F⟩ := L
  have uq := apt_uniq ne
  have i1 : (cS, PS) ∈ [(cS, PS), (cO, PO), (cT, PT)] := List.mem_cons_self
  have i2 : (cO, PO) ∈ [(cS, PS), (cO, PO), (cT, PT)] := List.mem_cons_of_mem _ List.mem_cons_self
  have i3 : (cT, PT) ∈ [(cS, PS), (cO, PO), (cT, PT)] := List.mem_cons_of_mem _ (List.mem_cons_of_mem _ List.mem_cons_self)
  refine ⟨fd, [(cS, PS), (cO, PO), (cT, PT)], spLawS [(PS, qS), (PO, qO), (PT, qL)] K, ?_, ?_, ?_, ?_, fun H a ns hl hH hS' => ⟨rfl, a, ns, rfl, hS', hl, ?_, fun _ => rfl⟩, fun base _ _ TB => ok_law F (TB (cT, PT) i3) (List.mem_cons_of_mem _ (List.mem_cons_of_mem _ List.mem_cons_self)) (fun p hp => (uq p hp).2.2) (calls_of R RS RE RM RT RL ER ne (TB (cS, PS) i1) (TB (cO, PO) i2))⟩
  · intro p hp
    simp only [List.mem_cons, List.not_mem_nil, or_false] at hp
    rcases hp with rfl | rfl | rfl <;> assumption
  · intro p hp
    simp only [List.mem_cons, List.not_mem_nil, or_false] at hp
    rcases hp with rfl | rfl | rfl <;> assumption
  · intro p hp
    simp only [List.mem_cons, List.not_mem_nil, or_false] at hp
    rcases hp with rfl | rfl | rfl <;> assumption
  · obtain ⟨oc, od, kV, doc, pm, an, ct, osl, rfl, lk, hcd⟩ := F.ex
    exact fun s v => .of_eq rfl
  · intro p hp
    simp only [List.mem_cons, List.not_mem_nil, or_false] at hp
    rcases hp with rfl | rfl | rfl
    · exact TabS.nil (hH (cS, PS) i1)
    · exact TabS.nil (hH (cO, PO) i2)
    · exact TabS.nil (hH (cT, PT) i3)
end
end Lw
open PySem PySem.W PyProof.Rows
set_option maxRecDepth 100000 in
set_option maxHeartbeats 0 in
theorem PySem.Challenge.cw_answeredsettings_k04_pacts_made_and_read_holds : PySem.Challenge.rw_answeredsettings_k04_pacts_made_and_read.Holds := by
  w_on; o_law; k_head; (case hw => w_witness2)
  k_fill
  refine Gd.walk_ofTG (l := PySem.Challenge.rw_answeredsettings_k04_pacts_made_and_read) (n := 63) (k := 13) (x := "script") rfl (by decide) rfl ⟨rfl, by decide, by decide⟩ (fun w h Y => PySem.W.km_in_of Y) ?F
  case F =>
    intro w mg fa h Y KX G hmg
    have hT8 := PySem.W.km_tabs_of Y
    clear Y
    refine' Lw.law_of (PS := 596) (PO := 658) (PT := 672)
      ⟨⟨(PySem.W.mg_none_of KX G ?z0), (PySem.W.mg_none_of KX G ?z1), (PySem.W.mg_none_of KX G ?z2), (PySem.W.mg_none_of KX G ?z3), (PySem.W.mg_none_of KX G ?z4), (PySem.W.mg_none_of KX G ?z5), (PySem.W.mg_none_of KX G ?z6), (PySem.W.mg_none_of KX G ?z7)⟩, (PySem.W.mg_none_of KX G ?zd), (PySem.W.mg_none_of KX G ?zs), (Lw.dnU KX G ?d0_a ?d0_l ?d0_c ?d0_k), (Lw.dnU KX G ?d1_a ?d1_l ?d1_c ?d1_k), (Lw.dnU KX G ?d2_a ?d2_l ?d2_c ?d2_k), (Lw.dnU KX G ?d3_a ?d3_l ?d3_c ?d3_k), (Lw.dnU KX G ?d4_a ?d4_l ?d4_c ?d4_k), (Lw.dnU KX G ?d5_a ?d5_l ?d5_c ?d5_k), (Lw.dnU KX G ?d6_a ?d6_l ?d6_c ?d6_k), (Lw.dnU KX G ?d7_a ?d7_l ?d7_c ?d7_k), (Lw.dnYU KX G ?dw_a ?dw_l ?dw_c ?dw_k), (Lw.dnU KX G ?e0_a ?e0_l ?e0_c ?e0_k), (Lw.dnU KX G ?e1_a ?e1_l ?e1_c ?e1_k), (Lw.dnU KX G ?e2_a ?e2_l ?e2_c ?e2_k), (Lw.dnU KX G ?e3_a ?e3_l ?e3_c ?e3_k), (Lw.dnYU KX G ?ew_a ?ew_l ?ew_c ?ew_k), (Lw.dnU KX G ?ec_a ?ec_l ?ec_c ?ec_k), (Lw.txgU KX G ?t0_a ?t0_l ?t0_z ?t0_v), (Lw.txgU KX G ?t1_a ?t1_l ?t1_z ?t1_v), (Lw.txgU KX G ?t2_a ?t2_l ?t2_z ?t2_v), (Lw.txgU KX G ?t3_a ?t3_l ?t3_z ?t3_v), (Lw.stgU KX G ?lt_a ?lt_v), (Lw.intgU KX G ?gr_a ?gr_v)⟩
      ⟨(PySem.W.mg_of KX G ?mS), ⟨⟨?cspg, ?cshd, ?cspo, ?cssa⟩, ?n0, ?n1, ?n2, ?n3, ?n4⟩, ⟨_, _, ⟨?smk, ?smi, ?smf, ?smkp⟩, (L2.fun_mk ?smI_l ?smI_c ?smI_k)⟩, ⟨_, _, ⟨?ml_at, ?ml_fn, ?ml_kp⟩, (L2.fun_mk ?ml_l ?ml_c ?ml_k)⟩, ⟨_, _, ⟨?mc_at, ?mc_fn, ?mc_kp⟩, (L2.fun_mk ?mc_l ?mc_c ?mc_k)⟩, ⟨_, _, ⟨?eq1, ?eq2, ?eq3, ?eq4⟩, (L2.fun_mk ?eq_l ?eq_c ?eq_k)⟩, ⟨⟨?ipg, ?ihd, ?ipo, ?isa⟩, ?i1, ?i2, ?i3, ?i4, ?i5⟩, ⟨?nb0, ?nb1, ?nb2, ?nb3, ?nb4, ?nb5, ?nb6⟩, ?nl, (Lw.propU ?p0_at ?p0_get ?p0_tak ?p0_rec ?p0_l ?p0_c ?p0_k), (Lw.propU ?p1_at ?p1_get ?p1_tak ?p1_rec ?p1_l ?p1_c ?p1_k), (Lw.propU ?p2_at ?p2_get ?p2_tak ?p2_rec ?p2_l ?p2_c ?p2_k), (Lw.propU ?p3_at ?p3_get ?p3_tak ?p3_rec ?p3_l ?p3_c ?p3_k), (PySem.W.mg_of KX G ?mB), ⟨_, Lw.errU (g := "part") ?x_b ?x_sa ?x_ga ?x_gg ?x_nf ?x_i ?x_t ?x_l ?x_c ?x_kC ?x_eC ?x_tC ?x_hC⟩⟩
      ⟨(PySem.W.mg_of KX G ?mE), ⟨⟨?cepg, ?cehd, ?cepo, ?cesa⟩, ?o0, ?o1, ?o2, ?o3⟩, ⟨_, _, ⟨?qmk, ?qmi, ?qmf, ?qmkp⟩, (L2.fun_mk ?qmI_l ?qmI_c ?qmI_k)⟩, ⟨_, _, ⟨?mw_at, ?mw_fn, ?mw_kp⟩, (L2.fun_mk ?mw_l ?mw_c ?mw_k)⟩, ⟨_, _, ⟨?mp_at, ?mp_fn, ?mp_kp⟩, (L2.fun_mk ?mp_l ?mp_c ?mp_k)⟩, ⟨_, _, ⟨?mh_at, ?mh_fn, ?mh_kp⟩, (L2.fun_mk ?mh_l ?mh_c ?mh_k)⟩, ⟨_, _, ⟨?eqe1, ?eqe2, ?eqe3, ?eqe4⟩, (L2.fun_mk ?eqe_l ?eqe_c ?eqe_k)⟩, ⟨⟨?jpg, ?jhd, ?jpo, ?jsa⟩, ?j1, ?j2, ?j3, ?j4, ?j5⟩, ?nle, (Lw.propU ?pm_at ?pm_get ?pm_tak ?pm_rec ?pm_l ?pm_c ?pm_k), (PySem.W.mg_of KX G ?mBE), ⟨_, Lw.errU (g := "part") ?y_b ?y_sa ?y_ga ?y_gg ?y_nf ?y_i ?y_t ?y_l ?y_c ?y_kC ?y_eC ?y_tC ?y_hC⟩, (PySem.W.mg_of KX G ?mD), ⟨_, Lw.errU (g := "value") ?v_b ?v_sa ?v_ga ?v_gg ?v_nf ?v_i ?v_t ?v_l ?v_c ?v_kC ?v_eC ?v_tC ?v_hC⟩⟩
      ⟨⟨_, _, ⟨?ga_at, ?ga_fn, ?ga_kp⟩, (L2.fun_mk ?ga_l ?ga_c ?ga_k)⟩, ⟨_, _, ⟨?gb_at, ?gb_fn, ?gb_kp⟩, (L2.fun_mk ?gb_l ?gb_c ?gb_k)⟩, ⟨_, _, ⟨?gd_at, ?gd_fn, ?gd_kp⟩, (L2.fun_mk ?gd_l ?gd_c ?gd_k)⟩, ⟨_, _, ⟨?ge_at, ?ge_fn, ?ge_kp⟩, (L2.fun_mk ?ge_l ?ge_c ?ge_k)⟩, ⟨?nc0, ?nc1, ?nc2, ?nc3, ?nc4, ?nc5, ?nc6⟩, (PySem.W.mg_of KX G ?mN), ⟨_, Lw.errU (g := "value") ?u_b ?u_sa ?u_ga ?u_gg ?u_nf ?u_i ?u_t ?u_l ?u_c ?u_kC ?u_eC ?u_tC ?u_hC⟩⟩
      ⟨(PySem.W.mg_of KX G ?mPa), ⟨⟨?cppg, ?cphd, ?cppo, ?cpsa⟩, ?q0, ?q1, ?q2⟩, ⟨_, _, ⟨?pkmk, ?pkmi, ?pkmf, ?pkmkp⟩, (L2.fun_mk ?pkmI_l ?pkmI_c ?pkmI_k)⟩, (Lw.propU ?pl_at ?pl_get ?pl_tak ?pl_rec ?pl_l ?pl_c ?pl_k), (Lw.propU ?pr_at ?pr_get ?pr_tak ?pr_rec ?pr_l ?pr_c ?pr_k), ⟨_, _, ⟨?h0_at, ?h0_fn, ?h0_kp⟩, (L2.fun_mk ?h0_l ?h0_c ?h0_k)⟩, ⟨_, _, ⟨?h1_at, ?h1_fn, ?h1_kp⟩, (L2.fun_mk ?h1_l ?h1_c ?h1_k)⟩, ⟨_, _, ⟨?h2_at, ?h2_fn, ?h2_kp⟩, (L2.fun_mk ?h2_l ?h2_c ?h2_k)⟩, ⟨_, _, ⟨?h3_at, ?h3_fn, ?h3_kp⟩, (L2.fun_mk ?h3_l ?h3_c ?h3_k)⟩, ⟨_, _, ⟨?h4_at, ?h4_fn, ?h4_kp⟩, (L2.fun_mk ?h4_l ?h4_c ?h4_k)⟩, ⟨_, _, ⟨?h5_at, ?h5_fn, ?h5_kp⟩, (L2.fun_mk ?h5_l ?h5_c ?h5_k)⟩, ⟨_, _, ⟨?eqp1, ?eqp2, ?eqp3, ?eqp4⟩, (L2.fun_mk ?eqp_l ?eqp_c ?eqp_k)⟩, ⟨⟨?jppg, ?jphd, ?jppo, ?jpsa⟩, ?jp1, ?jp2, ?jp3, ?jp4, ?jp5⟩, ?nlp, ?ndp, ⟨?np0, ?np1, ?np2, ?np3, ?np4, ?np5, ?np6⟩, (Lw.dnYU KX G ?wp_a ?wp_l ?wp_c ?wp_k), (Lw.dnU KX G ?cn_a ?cn_l ?cn_c ?cn_k), (Lw.txgU KX G ?t4_a ?t4_l ?t4_z ?t4_v), (PySem.W.mg_of KX G ?mBP), ⟨_, Lw.errU (g := "part") ?w_b ?w_sa ?w_ga ?w_gg ?w_nf ?w_i ?w_t ?w_l ?w_c ?w_kC ?w_eC ?w_tC ?w_hC⟩⟩
      ⟨⟨(PySem.W.mg_none_of KX G ?zm), (PySem.W.mg_none_of KX G ?zr), (Lw.dnU KX G ?l0_a ?l0_l ?l0_c ?l0_k), (Lw.dnU KX G ?l1_a ?l1_l ?l1_c ?l1_k), (Lw.dnU KX G ?l2_a ?l2_l ?l2_c ?l2_k), (Lw.dnU KX G ?l3_a ?l3_l ?l3_c ?l3_k), (Lw.dnU KX G ?l4_a ?l4_l ?l4_c ?l4_k), (Lw.dnU KX G ?l5_a ?l5_l ?l5_c ?l5_k), (Lw.dnU KX G ?l6_a ?l6_l ?l6_c ?l6_k), (Lw.dnU KX G ?l7_a ?l7_l ?l7_c ?l7_k), (Lw.dnU KX G ?l8_a ?l8_l ?l8_c ?l8_k), (Lw.dnU KX G ?l9_a ?l9_l ?l9_c ?l9_k), (Lw.dnU KX G ?l10_a ?l10_l ?l10_c ?l10_k)⟩, (Lw.dnU KX G ?lm_a ?lm_l ?lm_c ?lm_k), (Lw.dnU KX G ?lo_a ?lo_l ?lo_c ?lo_k), ?kno, ⟨_, _, (PySem.W.mg_of KX G ?fs_a), ?fs_k, Lw.funC ?fs_l ?fs_c⟩, ⟨_, _, (PySem.W.mg_of KX G ?fo_a), ?fo_k, Lw.funC ?fo_l ?fo_c⟩, ⟨_, Lw.funB KX G ?b_a ?b_l ?b_c ?b_k⟩⟩
      ⟨(PySem.W.mg_of KX G ?m0), (PySem.W.mg_of KX G ?m1), (PySem.W.mg_of KX G ?m2), (PySem.W.mg_of KX G ?m3), (PySem.W.mg_of KX G ?m4), (PySem.W.mg_of KX G ?m5), (PySem.W.mg_of KX G ?m6), (PySem.W.mg_of KX G ?m7), (PySem.W.mg_of KX G ?m8), (PySem.W.mg_of KX G ?m9), (PySem.W.mg_of KX G ?mX), (Lw.xf_of ?xf), (fun l1 r l2 e => Lw.ex_of (seen := []) ?ex l1 r l2 e), (PySem.W.mg_none_of KX G ?zp)⟩
      ⟨by decide, by decide, by decide⟩ (Lw.lawC KX G hmg ?wl_a ?wl_l ?wl_c) (hT8 596 (by simp)) (hT8 658 (by simp)) (hT8 672 (by simp)) ?nS ?nO ?nT (PySem.W.codeHd_of_K KX ?hS) (PySem.W.codeHd_of_K KX ?hO) (PySem.W.codeHd_of_K KX ?hT)
    (case z0 => k_is); (case z1 => k_is); (case z2 => k_is); (case z3 => k_is); (case z4 => k_is); (case z5 => k_is); (case z6 => k_is); (case z7 => k_is)
    (case zd => k_is); (case zs => k_is); (case d0_a => k_is); (case d0_l => k_is); (case d0_c => k_is); (case d0_k => k_is); (case d1_a => k_is); (case d1_l => k_is)
    (case d1_c => k_is); (case d1_k => k_is); (case d2_a => k_is); (case d2_l => k_is); (case d2_c => k_is); (case d2_k => k_is); (case d3_a => k_is); (case d3_l => k_is)
    (case d3_c => k_is); (case d3_k => k_is); (case d4_a => k_is); (case d4_l => k_is); (case d4_c => k_is); (case d4_k => k_is); (case d5_a => k_is); (case d5_l => k_is)
    (case d5_c => k_is); (case d5_k => k_is); (case d6_a => k_is); (case d6_l => k_is); (case d6_c => k_is); (case d6_k => k_is); (case d7_a => k_is); (case d7_l => k_is)
    (case d7_c => k_is); (case d7_k => k_is); (case dw_a => k_is); (case dw_l => k_is); (case dw_c => k_is); (case dw_k => k_is); (case e0_a => k_is); (case e0_l => k_is)
    (case e0_c => k_is); (case e0_k => k_is); (case e1_a => k_is); (case e1_l => k_is); (case e1_c => k_is); (case e1_k => k_is); (case e2_a => k_is); (case e2_l => k_is)
    (case e2_c => k_is); (case e2_k => k_is); (case e3_a => k_is); (case e3_l => k_is); (case e3_c => k_is); (case e3_k => k_is); (case ew_a => k_is); (case ew_l => k_is)
    (case ew_c => k_is); (case ew_k => k_is); (case ec_a => k_is); (case ec_l => k_is); (case ec_c => k_is); (case ec_k => k_is); (case t0_a => k_is); (case t0_l => k_is)
    (case t0_z => decide +kernel); (case t0_v => exact .cons ⟨_, rfl⟩ (.cons ⟨_, rfl⟩ (.cons ⟨_, rfl⟩ (.nil)))); (case t1_a => k_is); (case t1_l => k_is); (case t1_z => decide +kernel); (case t1_v => exact .cons ⟨_, rfl⟩ (.cons ⟨_, rfl⟩ (.cons ⟨_, rfl⟩ (.nil)))); (case t2_a => k_is); (case t2_l => k_is)
    (case t2_z => decide +kernel); (case t2_v => exact .cons ⟨_, rfl⟩ (.cons ⟨_, rfl⟩ (.cons ⟨_, rfl⟩ (.cons ⟨_, rfl⟩ (.cons ⟨_, rfl⟩ (.nil)))))); (case t3_a => k_is); (case t3_l => k_is); (case t3_z => decide +kernel); (case t3_v => exact .cons ⟨_, rfl⟩ (.cons ⟨_, rfl⟩ (.nil))); (case lt_a => k_is); (case lt_v => exact ⟨_, rfl⟩)
    (case gr_a => k_is); (case gr_v => exact ⟨_, rfl⟩); (case mS => k_is); (case cspg => k_is); (case cshd => k_is); (case cspo => k_is); (case cssa => k_is); (case n0 => unfold L2.NoAttr; k_is)
    (case n1 => unfold L2.NoAttr; k_is); (case n2 => unfold L2.NoAttr; k_is); (case n3 => unfold L2.NoAttr; k_is); (case n4 => unfold L2.NoAttr; k_is); (case smk => k_is); (case smi => k_is); (case smf => k_is); (case smkp => k_is)
    (case smI_l => k_is); (case smI_c => k_is); (case smI_k => k_is); (case ml_at => k_is); (case ml_fn => k_is); (case ml_kp => k_is); (case ml_l => k_is); (case ml_c => k_is)
    (case ml_k => k_is); (case mc_at => k_is); (case mc_fn => k_is); (case mc_kp => k_is); (case mc_l => k_is); (case mc_c => k_is); (case mc_k => k_is); (case eq1 => k_is)
    (case eq2 => k_is); (case eq3 => k_is); (case eq4 => k_is); (case eq_l => k_is); (case eq_c => k_is); (case eq_k => k_is); (case ipg => k_is); (case ihd => k_is)
    (case ipo => k_is); (case isa => k_is); (case i1 => k_is); (case i2 => k_is); (case i3 => k_is); (case i4 => k_is); (case i5 => kernel_rfl); (case nb0 => kernel_rfl)
    (case nb1 => kernel_rfl); (case nb2 => kernel_rfl); (case nb3 => kernel_rfl); (case nb4 => kernel_rfl); (case nb5 => kernel_rfl); (case nb6 => kernel_rfl); (case nl => kernel_rfl); (case p0_at => k_is)
    (case p0_get => k_is); (case p0_tak => k_is); (case p0_rec => k_is); (case p0_l => k_is); (case p0_c => k_is); (case p0_k => k_is); (case p1_at => k_is); (case p1_get => k_is)
    (case p1_tak => k_is); (case p1_rec => k_is); (case p1_l => k_is); (case p1_c => k_is); (case p1_k => k_is); (case p2_at => k_is); (case p2_get => k_is); (case p2_tak => k_is)
    (case p2_rec => k_is); (case p2_l => k_is); (case p2_c => k_is); (case p2_k => k_is); (case p3_at => k_is); (case p3_get => k_is); (case p3_tak => k_is); (case p3_rec => k_is)
    (case p3_l => k_is); (case p3_c => k_is); (case p3_k => k_is); (case mB => k_is); (case x_b => k_is); (case x_sa => k_is); (case x_ga => k_is); (case x_gg => k_is)
    (case x_nf => k_is); (case x_i => k_is); (case x_t => k_is); (case x_l => k_is); (case x_c => k_is); (case x_kC => k_is); (case x_eC => k_is); (case x_tC => k_is)
    (case x_hC => k_is); (case mE => k_is); (case cepg => k_is); (case cehd => k_is); (case cepo => k_is); (case cesa => k_is); (case o0 => unfold L2.NoAttr; k_is); (case o1 => unfold L2.NoAttr; k_is)
    (case o2 => unfold L2.NoAttr; k_is); (case o3 => unfold L2.NoAttr; k_is); (case qmk => k_is); (case qmi => k_is); (case qmf => k_is); (case qmkp => k_is); (case qmI_l => k_is); (case qmI_c => k_is)
    (case qmI_k => k_is); (case mw_at => k_is); (case mw_fn => k_is); (case mw_kp => k_is); (case mw_l => k_is); (case mw_c => k_is); (case mw_k => k_is); (case mp_at => k_is)
    (case mp_fn => k_is); (case mp_kp => k_is); (case mp_l => k_is); (case mp_c => k_is); (case mp_k => k_is); (case mh_at => k_is); (case mh_fn => k_is); (case mh_kp => k_is)
    (case mh_l => k_is); (case mh_c => k_is); (case mh_k => k_is); (case eqe1 => k_is); (case eqe2 => k_is); (case eqe3 => k_is); (case eqe4 => k_is); (case eqe_l => k_is)
    (case eqe_c => k_is); (case eqe_k => k_is); (case jpg => k_is); (case jhd => k_is); (case jpo => k_is); (case jsa => k_is); (case j1 => k_is); (case j2 => k_is)
    (case j3 => k_is); (case j4 => k_is); (case j5 => kernel_rfl); (case nle => kernel_rfl); (case pm_at => k_is); (case pm_get => k_is); (case pm_tak => k_is); (case pm_rec => k_is)
    (case pm_l => k_is); (case pm_c => k_is); (case pm_k => k_is); (case mBE => k_is); (case y_b => k_is); (case y_sa => k_is); (case y_ga => k_is); (case y_gg => k_is)
    (case y_nf => k_is); (case y_i => k_is); (case y_t => k_is); (case y_l => k_is); (case y_c => k_is); (case y_kC => k_is); (case y_eC => k_is); (case y_tC => k_is)
    (case y_hC => k_is); (case mD => k_is); (case v_b => k_is); (case v_sa => k_is); (case v_ga => k_is); (case v_gg => k_is); (case v_nf => k_is); (case v_i => k_is)
    (case v_t => k_is); (case v_l => k_is); (case v_c => k_is); (case v_kC => k_is); (case v_eC => k_is); (case v_tC => k_is); (case v_hC => k_is); (case ga_at => k_is)
    (case ga_fn => k_is); (case ga_kp => k_is); (case ga_l => k_is); (case ga_c => k_is); (case ga_k => k_is); (case gb_at => k_is); (case gb_fn => k_is); (case gb_kp => k_is)
    (case gb_l => k_is); (case gb_c => k_is); (case gb_k => k_is); (case gd_at => k_is); (case gd_fn => k_is); (case gd_kp => k_is); (case gd_l => k_is); (case gd_c => k_is)
    (case gd_k => k_is); (case ge_at => k_is); (case ge_fn => k_is); (case ge_kp => k_is); (case ge_l => k_is); (case ge_c => k_is); (case ge_k => k_is); (case nc0 => kernel_rfl)
    (case nc1 => kernel_rfl); (case nc2 => kernel_rfl); (case nc3 => kernel_rfl); (case nc4 => kernel_rfl); (case nc5 => kernel_rfl); (case nc6 => kernel_rfl); (case mN => k_is); (case u_b => k_is)
    (case u_sa => k_is); (case u_ga => k_is); (case u_gg => k_is); (case u_nf => k_is); (case u_i => k_is); (case u_t => k_is); (case u_l => k_is); (case u_c => k_is)
    (case u_kC => k_is); (case u_eC => k_is); (case u_tC => k_is); (case u_hC => k_is); (case mPa => k_is); (case cppg => k_is); (case cphd => k_is); (case cppo => k_is)
    (case cpsa => k_is); (case q0 => unfold L2.NoAttr; k_is); (case q1 => unfold L2.NoAttr; k_is); (case q2 => unfold L2.NoAttr; k_is); (case pkmk => k_is); (case pkmi => k_is); (case pkmf => k_is); (case pkmkp => k_is)
    (case pkmI_l => k_is); (case pkmI_c => k_is); (case pkmI_k => k_is); (case pl_at => k_is); (case pl_get => k_is); (case pl_tak => k_is); (case pl_rec => k_is); (case pl_l => k_is)
    (case pl_c => k_is); (case pl_k => k_is); (case pr_at => k_is); (case pr_get => k_is); (case pr_tak => k_is); (case pr_rec => k_is); (case pr_l => k_is); (case pr_c => k_is)
    (case pr_k => k_is); (case h0_at => k_is); (case h0_fn => k_is); (case h0_kp => k_is); (case h0_l => k_is); (case h0_c => k_is); (case h0_k => k_is); (case h1_at => k_is)
    (case h1_fn => k_is); (case h1_kp => k_is); (case h1_l => k_is); (case h1_c => k_is); (case h1_k => k_is); (case h2_at => k_is); (case h2_fn => k_is); (case h2_kp => k_is)
    (case h2_l => k_is); (case h2_c => k_is); (case h2_k => k_is); (case h3_at => k_is); (case h3_fn => k_is); (case h3_kp => k_is); (case h3_l => k_is); (case h3_c => k_is)
    (case h3_k => k_is); (case h4_at => k_is); (case h4_fn => k_is); (case h4_kp => k_is); (case h4_l => k_is); (case h4_c => k_is); (case h4_k => k_is); (case h5_at => k_is)
    (case h5_fn => k_is); (case h5_kp => k_is); (case h5_l => k_is); (case h5_c => k_is); (case h5_k => k_is); (case eqp1 => k_is); (case eqp2 => k_is); (case eqp3 => k_is)
    (case eqp4 => k_is); (case eqp_l => k_is); (case eqp_c => k_is); (case eqp_k => k_is); (case jppg => k_is); (case jphd => k_is); (case jppo => k_is); (case jpsa => k_is)
    (case jp1 => k_is); (case jp2 => k_is); (case jp3 => k_is); (case jp4 => k_is); (case jp5 => kernel_rfl); (case nlp => kernel_rfl); (case ndp => kernel_rfl); (case np0 => kernel_rfl)
    (case np1 => kernel_rfl); (case np2 => kernel_rfl); (case np3 => kernel_rfl); (case np4 => kernel_rfl); (case np5 => kernel_rfl); (case np6 => kernel_rfl); (case wp_a => k_is); (case wp_l => k_is)
    (case wp_c => k_is); (case wp_k => k_is); (case cn_a => k_is); (case cn_l => k_is); (case cn_c => k_is); (case cn_k => k_is); (case t4_a => k_is); (case t4_l => k_is)
    (case t4_z => decide +kernel); (case t4_v => exact .cons ⟨_, rfl⟩ (.cons ⟨_, rfl⟩ (.nil))); (case mBP => k_is); (case w_b => k_is); (case w_sa => k_is); (case w_ga => k_is); (case w_gg => k_is); (case w_nf => k_is)
    (case w_i => k_is); (case w_t => k_is); (case w_l => k_is); (case w_c => k_is); (case w_kC => k_is); (case w_eC => k_is); (case w_tC => k_is); (case w_hC => k_is)
    (case zm => k_is); (case zr => k_is); (case l0_a => k_is); (case l0_l => k_is); (case l0_c => k_is); (case l0_k => k_is); (case l1_a => k_is); (case l1_l => k_is)
    (case l1_c => k_is); (case l1_k => k_is); (case l2_a => k_is); (case l2_l => k_is); (case l2_c => k_is); (case l2_k => k_is); (case l3_a => k_is); (case l3_l => k_is)
    (case l3_c => k_is); (case l3_k => k_is); (case l4_a => k_is); (case l4_l => k_is); (case l4_c => k_is); (case l4_k => k_is); (case l5_a => k_is); (case l5_l => k_is)
    (case l5_c => k_is); (case l5_k => k_is); (case l6_a => k_is); (case l6_l => k_is); (case l6_c => k_is); (case l6_k => k_is); (case l7_a => k_is); (case l7_l => k_is)
    (case l7_c => k_is); (case l7_k => k_is); (case l8_a => k_is); (case l8_l => k_is); (case l8_c => k_is); (case l8_k => k_is); (case l9_a => k_is); (case l9_l => k_is)
    (case l9_c => k_is); (case l9_k => k_is); (case l10_a => k_is); (case l10_l => k_is); (case l10_c => k_is); (case l10_k => k_is); (case lm_a => k_is); (case lm_l => k_is)
    (case lm_c => k_is); (case lm_k => k_is); (case lo_a => k_is); (case lo_l => k_is); (case lo_c => k_is); (case lo_k => k_is); (case kno => kernel_rfl); (case fs_a => k_is)
    (case fs_k => k_is); (case fs_l => k_is); (case fs_c => k_is); (case fo_a => k_is); (case fo_k => k_is); (case fo_l => k_is); (case fo_c => k_is); (case b_a => k_is)
    (case b_l => k_is); (case b_c => k_is); (case b_k => k_is); (case m0 => k_is); (case m1 => k_is); (case m2 => k_is); (case m3 => k_is); (case m4 => k_is)
    (case m5 => k_is); (case m6 => k_is); (case m7 => k_is); (case m8 => k_is); (case m9 => k_is); (case mX => k_is); (case xf => kernel_rfl); (case ex => kernel_rfl)
    (case zp => k_is); (case wl_a => k_is); (case wl_l => k_is); (case wl_c => k_is); (case nS => kernel_rfl); (case nO => kernel_rfl); (case nT => kernel_rfl); (case hS => kernel_rfl)
    (case hO => kernel_rfl); (case hT => kernel_rfl)
