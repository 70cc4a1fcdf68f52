import PyProof.Rows.All
import Wide.All
import OpenK.AllK
import Wide.FinOn
import PyProof.EqAt
import PyProof.EqKinds
import PyProof.TupleCall
import KE.KIsAll
import HandS.Base
import HandS.Call
import HandS.List
import HandS.Ends
import HandS.Exc
import HandS.ExcInit
import HandS.ForExc
import HandS.IsInst
import HandS.Defaults
import HandS.MakeKwOnly
import KE.KIsNot
import OpenK.KDescr
import HandS.ExcIs
import HandS.ForMost
import HandS.More
import HandS.DictComp
import HandS.DeepEq
import HandS.Evl
import PyProof.NeKinds
import HandS.DictTup
import HandS.Conv
import HandS.DictEq
import HandS.SortKw
import KE.SortKeyHeap
import PyProof.ReprRoads
import HandS.Property
import HandS.Codes
import HandS.TryMany
import HandS.WordsExc
import HandS.OwnEq
import PyProof.InstNe
import KE.KRevSl
import HandS.Deep
import HandS.RaiseMore
import HandS.Lambda
import HandS.ExcField
import HandS.EndTab
import PySem.Challenge.RW_answeredsettings_k01_settings_made
set_option Elab.async false
set_option linter.all false
set_option maxRecDepth 100000
set_option maxHeartbeats 4000000
/-! Own errors over Exception: made by position or by name, kept as values. -/
namespace Err
open PySem PySem.W PySem.Calls PyProof.Rows PySem.HandSPX PySem.Builtin PySem.Builtin.ObjectAttr
/-- the chain above an own error: own classes, then the three built-in ones -/
inductive OwnMro : List Value → Prop
  | base : OwnMro [.type "Exception", .type "BaseException", .type "object"]
  | cons (c : Addr) {r : List Value} : OwnMro r → OwnMro (.ref c :: r)
theorem OwnMro.has {l : List Value} (m : OwnMro l) (X : String) : l.contains (.type X) = ([.type "Exception", .type "BaseException", .type "object"] : List Value).contains (.type X) := by
  induction m with
  | base => rfl
  | cons c _ ih => rw [List.contains_cons, ih]; rfl
theorem OwnMro.goes {l : List Value} (m : OwnMro l) (self : Value) : refuseLoop self "__setattr__" l = pure () := by
  induction m with
  | base => exact F.store_Exception.passes self
  | cons c _ ih => rw [refuseLoop_ref]; exact ih
theorem OwnMro.some {l : List Value} (m : OwnMro l) : l.isEmpty = false := by cases m <;> rfl
/-- the object of an error that is being made: t its arguments -/
abbrev raw (C t : Addr) (d : Option Addr) : Obj := { cls := .ref C, dict := d, data := .fields #[.ref t, .none, .none, .none, .bool false, .none] }
section
variable {prog : Program} {w : World} {A : Around} {E : Value → Shared → Prop} {R : Result → Shared → Prop} {hp : Heap} {g : Array GenState} {dr : Drawn} {tk : Nat} {os : OsState}
variable {nm q : Str} {C N : Addr} {bs bm bmB : List Value} {hdct : Bool} {sn : List Str} {sub : List Value} {ab : Bool} {col : Option Bool} {dd : Option Addr} {k0 k1 k2 k3 k5 : Option Value} {B newId initId : String}
/-- the maker is asked whether it may be called: with names, too -/
theorem may_new {M : Model} (FB : ExcBaseFacts B newId initId bmB) (hT : ∀ X : String, bm.contains (.type X) = bmB.contains (.type X)) {us : List Value} {kw : List (Str × Value)} {Q : Unit → Shared → Prop}
    (hC : hp.get? C = Option.some (excClassObj nm q C N bs bm hdct sn sub ab col dd k0 k1 k2 k3 k5 newId)) (hq : Q () ⟨hp, g, dr, tk, os⟩) :
    wpAny M A (checkBuiltinCall newId ⟨.ref C :: us, kw⟩) Q E ⟨hp, g, dr, tk, os⟩ := by
  have has : (Value.ref C :: bm).contains (.type B) = true := by rw [List.contains_cons, hT, FB.hasB, Bool.or_true]
  have st := FB.noStar
  simp only [checkBuiltinCall, FB.newKind, FB.newSplit, FB.newRow]
  repeat (first
    | refine wpAny_loadPart_at hC ?_
    | (refine wpAny_isSubtype_exc hC ?_
       rw [has])
    | refine wpAny_staticBase_exc hC ?_
    | refine wpAny_madeBy_exc hC ?_
    | simp only [bne_self_eq_false, Bool.false_eq_true, if_false]
    | wp_step)
  exact hq
theorem new_any (FB : ExcBaseFacts B newId initId bmB) (hT : ∀ X : String, bm.contains (.type X) = bmB.contains (.type X)) {us : List Value} {kw : List (Str × Value)}
    (hC : hp.get? C = Option.some (excClassObj nm q C N bs bm hdct sn sub ab col dd k0 k1 k2 k3 k5 newId))
    (hq : R (.ok (.ret (.ref (hp.objs.size + 1)))) ⟨(hp.push (kdv_tup us)).push (raw C hp.objs.size none), g, dr, tk, os⟩) (hl : us.length ≤ sizeLine) :
    codeAny (model prog w) A (.builtin newId ⟨.ref C :: us, kw⟩) R ⟨hp, g, dr, tk, os⟩ := by
  have he := FB.ends
  have b1 : (Value.ref C :: bm).contains (.type B) = true := by rw [List.contains_cons, hT, FB.hasB, Bool.or_true]
  have b2 : (Value.ref C :: bm).contains (.type "AttributeError") = false := by rw [List.contains_cons, hT, FB.noAttr]; rfl
  have b3 : (Value.ref C :: bm).contains (.type "NameError") = false := by rw [List.contains_cons, hT, FB.noName]; rfl
  refine codeAny_builtinAt FB.entry ?_
  unfold Builtin.«BaseException.__new__»
  refine PySem.wpAt_bind ?_
  show PySem.wpAt _ _ _ (stack >>= _) _ _ _
  refine PySem.wpAt_bind (PySem.wpAt_stack fun p below => PySem.wpAt_of_wpAny ?_)
  wp_walk
  refine wpAt_of_wpAny ?_
  rw [FB.owner]
  repeat (first
    | with_reducible refine wpAny_madeHere_exc FB.canon hC ?_
    | with_reducible refine wpAny_loadPart_at hC ?_
    | (with_reducible refine wpAny_isSubtype_exc hC ?_
       first | rw [b1] | rw [b2] | rw [b3])
    | wp_step)
  show R _ _
  rw [Heap.size_push]
  exact hq
theorem type_call_any (FB : ExcBaseFacts B newId initId bmB) (hT : ∀ X : String, bm.contains (.type X) = bmB.contains (.type X)) {us : List Value} {kw : List (Str × Value)} {fI : Addr} {Q : Fin → Shared → Prop}
    (hC : hp.get? C = Option.some (excClassObj nm q C N bs bm hdct sn sub ab col dd k0 k1 k2 k3 k5 newId)) (hi : Looks (model prog w) hp (typeLookup (.ref C) "__init__") (Option.some (.ref fI)))
    (hb : ∀ self, Looks (model prog w) hp (bindSpecial (.ref fI) self) (.ref fI, [self])) (hl : us.length ≤ sizeLine)
    (hq : codeAny (model prog w) A (.call (.ref fI) ⟨.ref (hp.objs.size + 1) :: us, kw⟩)
      (fun r s' => match r with | .ok (.ret v) => v = .none ∧ Q (.done (.ret (.ref (hp.objs.size + 1)))) s' | .ok _ => False | .error e => E e s') ⟨(hp.push (kdv_tup us)).push (raw C hp.objs.size none), g, dr, tk, os⟩) :
    wpAny (model prog w) A (Builtin.«type.__call__» ⟨.ref C :: us, kw⟩) Q E ⟨hp, g, dr, tk, os⟩ := by
  repeat (first
    | with_reducible refine wpAny_loadPart_at hC ?_
    | with_reducible refine wpAny_madeBy_exc hC ?_
    | wp_step)
  refine codeAny_call_builtin_code (Code.quiet_builtin _ FB.quiet) (may_new FB hT hC ?_)
  refine new_any FB hT hC ?_ hl
  show wpAny _ _ _ _ _ _
  have keep : ∀ b o, hp.get? b = Option.some o → ((hp.push (kdv_tup us)).push (raw C hp.objs.size none)).get? b = Option.some o := fun b o e => Heap.get?_push_of_some _ (Heap.get?_push_of_some _ e)
  have hC1 := keep _ _ hC
  have here : ((hp.push (kdv_tup us)).push (raw C hp.objs.size none)).get? (hp.objs.size + 1) = Option.some (raw C hp.objs.size none) := by heap_get
  have self : (Value.ref C :: bm).contains (.ref C) = true := by simp
  have i1 := hi.keeps keep
  have b1 := (hb (.ref (hp.objs.size + 1))).keeps keep
  unfold isInstance
  repeat (first
    | with_reducible refine wpAny_loadPart_at here ?_
    | (with_reducible refine wpAny_isSubtype_exc hC1 ?_
       rw [self])
    | wp_step)
  show wpAny _ _ (typeLookup (.ref C) _) _ _ _
  refine i1.at (wpAny_holding (wpAny_bind (b1.at ?_)))
  refine wpAny_bind (wpAny_call (codeAny_mono hq fun r s' z => ?_))
  rcases r with e | (v | _ | _ | _) <;> first | exact z | exact z.elim | skip
  obtain ⟨rfl, z⟩ := z
  first
    | exact wpAny_pure (wpAny_pure z)
    | (wp_walk
       exact z)
theorem call_any (FB : ExcBaseFacts B newId initId bmB) (hT : ∀ X : String, bm.contains (.type X) = bmB.contains (.type X)) {us : List Value} {kw : List (Str × Value)} {fI : Addr}
    (hC : hp.get? C = Option.some (excClassObj nm q C N bs bm hdct sn sub ab col dd k0 k1 k2 k3 k5 newId)) (hi : Looks (model prog w) hp (typeLookup (.ref C) "__init__") (Option.some (.ref fI)))
    (hb : ∀ self, Looks (model prog w) hp (bindSpecial (.ref fI) self) (.ref fI, [self])) (hl : us.length ≤ sizeLine)
    (hq : codeAny (model prog w) (A.under (.builtin "type.__call__" ⟨.ref C :: us, kw⟩)) (.call (.ref fI) ⟨.ref (hp.objs.size + 1) :: us, kw⟩) (InitBack (hp.objs.size + 1) R) ⟨(hp.push (kdv_tup us)).push (raw C hp.objs.size none), g, dr, tk, os⟩) :
    codeAny (model prog w) A (.call (.ref C) ⟨us, kw⟩) R ⟨hp, g, dr, tk, os⟩ := by
  have l1 := tc_lookup
  have l2 := tc_bind (.ref C)
  have ty : (⟨hp, g, dr, tk, os⟩ : Shared).TypeIs (.ref C) "type" := ⟨_, hC, rfl⟩
  have l3 := tc_sub
  refine codeAny_of_tree ?_
  show wpAny _ _ (callAny (.ref C) _) _ _ _
  repeat (any_goals (first
    | assumption
    | with_reducible refine wpAny_loadPart_at hC ?_
    | wp_step))
  refine ⟨rfl, ?_⟩
  have chk : ∀ {M : Model} {Q : Unit → Shared → Prop} {E : Value → Shared → Prop} {A : Around}, Q () ⟨hp, g, dr, tk, os⟩ → wpAny M A (checkBuiltinCall "type.__call__" ⟨.ref C :: us, kw⟩) Q E ⟨hp, g, dr, tk, os⟩ := by
    intro M Q E A hq
    simp only [checkBuiltinCall, tc_kind, tc_split]
    repeat (any_goals (first
      | assumption
      | with_reducible refine wpAny_loadPart_at hC ?_
      | with_reducible refine wpAny_onRaise ?_
      | with_reducible refine wpAny_map ?_
      | wp_step))
  refine codeAny_call_builtin_at (Code.quiet_builtin _ (by decide +kernel)) entry_typeCall (chk (type_call_any FB hT hC hi hb hl ?_))
  refine codeAny_mono hq fun r s' z => ?_
  rcases r with e | (v | _ | _ | _) <;> exact z
end
/-! ### self.f = v on a bare error -/
section
variable {prog : Program} {w : World} {A : Around} {E : Value → Shared → Prop} {R : Result → Shared → Prop} {hp : Heap} {g : Array GenState} {dr : Drawn} {tk : Nat} {os : OsState}
theorem put_first {M : Model} {dx : Addr} {f : Str} {t : Tok} {v : Value} {Q : Fin → Shared → Prop} (he : hp.Ns dx (fun _ => none))
    (hq : ∀ h' tk', h'.Ns1 dx (fun y => if y = f then Option.some v else none) → Heap.SameBut dx hp h' → Q (.done (.ret .none)) ⟨h', g, dr, tk', os⟩) : wpAny M A (storeInDict dx (.str f t) f v) Q E ⟨hp, g, dr, tk, os⟩ := by
  unfold storeInDict newKeyGuard
  refine wpAny_bind (wpAny_pure (wpAny_bind (wpAny_nsSet1 (Heap.Ns1.of_empty he) fun h' n1 sb => ?_)))
  obtain ⟨o, es, ep, ho, hd, hc⟩ := n1.count (Within.cons f v Within.nil)
  have small : es.size ≤ sizeLine + 1 := Nat.le_trans hc (by rw [List.length_cons, List.length_nil, sizeLine_eq]; omega)
  refine wpAny_bind (wpAny_lookBehind ho (by rw [hd]; exact pastItsLine_dict small) ?_)
  wp_walk
  exact hq h' _ n1 sb
theorem set_first {K : Frag} {f : Str} {t : Tok} {v : Value} {x C : Addr} {fv : Array Value} {cd : ClassData} (X : K.In hp) (hx : hp.get? x = Option.some { cls := .ref C, data := .fields fv }) (hcd : clsIn K C = Option.some cd) (hm : OwnMro cd.mro) (hh : cd.hasDict = true)
    (hn : findIn K (.ref C) f = Option.some none)
    (hq : ∀ h' tk' dx, (∀ b o, b ≠ x → hp.get? b = Option.some o → h'.get? b = Option.some o) → hp.objs.size ≤ dx → dx ≠ x → h'.get? x = Option.some { cls := .ref C, dict := Option.some dx, data := .fields fv } →
      h'.Ns1 dx (fun y => if y = f then Option.some v else none) → R (.ok (.ret .none)) ⟨h', g, dr, tk', os⟩) :
    codeAny (model prog w) A (.call (.builtin "object.__setattr__") ⟨[.ref x, .str f t, v], []⟩) R ⟨hp, g, dr, tk, os⟩ := by
  have I : InstAt hp x { cls := .ref C, data := .fields fv } C none := ⟨hx, rfl, rfl, trivial⟩
  have S := F.store_object
  have some_ := hm.some
  have top : cd.mro.contains (.type "object") = true := (hm.has "object").trans (by decide +kernel)
  have xs : x ≠ hp.objs.size := Nat.ne_of_lt (Heap.lt_size hx)
  have isObj : Looks (model prog w) hp (isInstance (.ref x) (.type "object")) true :=
    I.type.andThen (looks_mroIn X (by unfold mroIn; rw [hcd, Option.bind_some, if_neg (by rw [some_]; decide), top]))
  refine codeAny_call_builtin S.slot.plain S.entry (@check_slot (model prog w) _ _ ⟨hp, g, dr, tk, os⟩ "object.__setattr__" "object" "__setattr__" (.ref x) [.str f t, v] [] _ S.kind S.split isObj (S.args (.ref x) (.str f t) v) ?_)
  have mro_ : Looks (model prog w) hp (mroOf (.ref C)) cd.mro := (looks_clsIn X hcd).andThen .now
  have taker : Looks (model prog w) hp (storeTaker? none) none := .now
  have data_ : Looks (model prog w) hp (classData C) cd := looks_clsIn X hcd
  rw [osa_eq, refuse_eq]
  refine wpAny_bind (wpAny_bind (I.type.at (wpAny_bind (mro_.at ?_))))
  rw [hm.goes]
  refine wpAny_pure (wpAny_bind (I.type.at (wpAny_bind ((looks_findIn X hn).at (wpAny_bind (taker.at ?_))))))
  show wpAny _ _ (storeInOwnDict (.ref x) (.ref C) (.str f t) f v false) _ _ _
  obtain ⟨nm, bs, mro, ns, qn, hd, sn, sb, ab, col, del⟩ := cd
  dsimp only at hh
  subst hh
  unfold storeInOwnDict ownDictForStores
  repeat (first
    | with_reducible refine put_first ?_ ?_
    | with_reducible refine wpAny_loadPart_at hx ?_
    | with_reducible refine data_.at ?_
    | wp_step)
  · exact ⟨_, #[], _, (Heap.get?_update_ne _ _ _ _ xs.symm).trans (Heap.get?_push_at rfl rfl), rfl, fun e he => absurd he (by simp), fun _ => rfl⟩
  · intro h' tk' n1 sb
    have x1 : (hp.push { cls := .type "dict", data := .dict #[] }).get? x = Option.some { cls := .ref C, data := .fields fv } := Heap.get?_push_of_some _ hx
    refine hq h' tk' hp.objs.size (fun b o hb ho => ?_) (Nat.le_refl _) xs.symm ?_ n1
    · exact (sb.2 b (Nat.ne_of_lt (Heap.lt_size ho))).trans ((Heap.get?_update_ne _ _ _ _ hb).trans (Heap.get?_push_of_some _ ho))
    · exact (sb.2 x xs).trans (Heap.get?_update_self _ x1 rfl)
end
/-! ### what the top has written of an own error C with the field f; its __init__ at fI -/
def iA (f : Str) (p1 p2 : Pos) : Arguments := { posonlyargs := [], args := [{ arg := "self", annotation := none, pos := p1 }, { arg := f, annotation := none, pos := p2 }], vararg := none, kwonlyargs := [], kw_defaults := [], kwarg := none, defaults := [] }
def iB (f : Str) (q1 q2 q3 q4 : Pos) : List Stmt := [.Assign [.Attribute (.Name "self" q1) f q2] (.Name f q3) q4]
def iS (f : Str) : Scope := { kind := .function, names := [(PySem.Str.ofString "self", .local), (f, .local)], isGenerator := false, isCoroutine := false, more := [] }
structure ErrC (K : Frag) (C fI : Addr) (f : Str) : Prop where
  cls : ∃ nm q N bs bm sn sub ab col dd k0 k1 k2 k3 k5, K.lookup C = Option.some (excClassObj nm q C N bs bm true sn sub ab col dd k0 k1 k2 k3 k5 "Exception.__new__") ∧ OwnMro bm
  sa : findIn K (.ref C) "__setattr__" = Option.some (Option.some (.builtin "object.__setattr__"))
  ga : findIn K (.ref C) "__getattribute__" = Option.some (Option.some (.builtin "BaseException.__getattribute__"))
  gg : findIn K (.ref C) "__getattr__" = Option.some none
  noF : findIn K (.ref C) f = Option.some none
  iC : findIn K (.ref C) "__init__" = Option.some (Option.some (.ref fI))
  tC : typeIn K (.ref fI) = Option.some (.type "function")
  kC : keepIn K (.ref C) = true
  exC : subIn K (.ref C) (.type "BaseException") = Option.some true
  tyC : typeIn K (.ref C) = Option.some (.type "type")
  hdC : hasDictIn K C = true
  fn : ∃ (qn : Str) (oc : Value) (od : Option Addr) (doc pm : Value) (an : Option Addr) (cdv ct : Value) (osl : Array (Option Value)) (p1 p2 q1 q2 q3 q4 : Pos),
    K.lookup fI = Option.some ⟨oc, od, .func (fnOf "__init__" qn (iA f p1 p2) (iB f q1 q2 q3 q4) (iS f) .none .none doc pm an cdv ct), osl⟩ ∧ codeIn K cdv qn = true
/-- a made error -/
structure Made (h h' : Heap) (e C d : Addr) (f : Str) (v : Value) : Prop where
  keep : ∀ b o, h.get? b = Option.some o → h'.get? b = Option.some o
  new : h.objs.size ≤ e
  obj : ∃ t0, h'.get? e = Option.some (raw C t0 (Option.some d))
  dbig : h.objs.size ≤ d
  dne : d ≠ e
  ns : h'.Ns1 d (fun y => if y = f then Option.some v else none)
/-- a field's name that does not get in the way -/
structure Plain (f : Str) : Prop where
  ns : ¬ (f = "self")
  nd : (f == ("__debug__" : Str)) = false
section
variable {prog : Program} {w : World} {A : Around} {E : Value → Shared → Prop} {R : Result → Shared → Prop} {s : Shared} {K : Frag} {C fI : Addr} {f : Str}
theorem ld_own {M : Model} {sh : Shared} {name : Str} {scope : Scope} {L a : Addr} {cd : Value} {m : Str → Option Value} {x : Str} {pos : Pos} {v : Value} {Q : Value → Shared → Prop} (hn : sh.heap.Ns L m) (hk : scope.kind = .function) (hl : (envOfC name scope L a cd).kindOf x = Option.some .local)
    (hd : (x == ("__debug__" : Str)) = false) (hv : m x = Option.some v) (h : Q v sh) : wpAny M A (eval (.Name x pos) (envOfC name scope L a cd)) Q E sh := wpAny_Name (wpAny_loadName_local hk hl hn hv h) hd
theorem init_any (T : ErrC K C fI f) (pf : Plain f) {x t0 : Addr} {v : Value} {us : List Value} {kw : List (Str × Value)} (X : K.In s.heap) (lim : s.heap.NoLimit) (hx : s.heap.get? x = Option.some (raw C t0 none)) (deep : A.depth < recursionLimit)
    (hb : ∀ (qn : Str) (doc pm : Value) (an : Option Addr) (cdv ct : Value) (p1 p2 q1 q2 q3 q4 : Pos), bindArgs (fnOf "__init__" qn (iA f p1 p2) (iB f q1 q2 q3 q4) (iS f) .none .none doc pm an cdv ct) ⟨.ref x :: us, kw⟩ = pure [(("self" : Str), Value.ref x), (f, v)])
    (hq : ∀ h' t' dx, (∀ b o, b ≠ x → s.heap.get? b = Option.some o → h'.get? b = Option.some o) → h'.get? x = Option.some (raw C t0 (Option.some dx)) → s.heap.objs.size ≤ dx → dx ≠ x → h'.Ns1 dx (fun y => if y = f then Option.some v else none) →
      R (.ok (.ret .none)) { s with heap := h', toks := t' }) : codeAny (model prog w) A (.call (.ref fI) ⟨.ref x :: us, kw⟩) R s := by
  obtain ⟨qn, oc, od, doc, pm, an, cdv, ct, osl, p1, p2, q1, q2, q3, q4, ho, hcd⟩ := T.fn
  obtain ⟨nm, q, N, bs, bm, sn, sub, ab, col, dd, k0, k1, k2, k3, k5, hC, hbm⟩ := T.cls
  have hcl : clsIn K C = Option.some { name := nm, bases := bs, mro := .ref C :: bm, ns := N, qualname := q, hasDict := true, slotNames := sn, subclasses := sub, abstract := ab, collection := col, hasDel := false } := by unfold clsIn; rw [hC] <;> rfl
  have sf : (f == ("self" : Str)) = false := by simpa using pf.ns
  have fs : (("self" : Str) == f) = false := by simpa using fun e : ("self" : Str) = f => pf.ns e.symm
  have lkf : (iS f).names.lookup f = Option.some NameKind.local := by
    show List.lookup f [((PySem.Str.ofString "self" : Str), NameKind.local), (f, NameKind.local)] = _
    have sf' : (f == (PySem.Str.ofString "self")) = false := sf
    simp [List.lookup, sf']
  refine Att.call_fn (binds := [(("self" : Str), Value.ref x), (f, v)]) X lim ho hcd deep (BindsTo.of_eq (hb qn doc pm an cdv ct p1 p2 q1 q2 q3 q4)) ?bb (fun s1 IC => ?_) rfl rfl rfl
  case bb =>
    show (((iS f).names.lookup ("self" : Str) == Option.some .local || (iS f).names.lookup ("self" : Str) == Option.some .cell) && (((iS f).names.lookup f == Option.some .local || (iS f).names.lookup f == Option.some .cell) && true)) = true
    rw [lkf]
    rfl
  have kf : (envOfC qn (iS f) s.heap.objs.size fI cdv).kindOf f = Option.some .local := lkf
  have ks : (envOfC qn (iS f) s.heap.objs.size fI cdv).kindOf ("self" : Str) = Option.some .local := rfl
  obtain ⟨h1, t1, rfl⟩ := IC.toInCall.same
  have k : ∀ b o, s.heap.get? b = Option.some o → h1.get? b = Option.some o := IC.toInCall.keep
  have ns1 := IC.toInCall.ns
  have X1 : K.In h1 := X.keeps k
  have x1 := k _ _ hx
  show wpAny _ _ (execs _ _) _ _ _
  refine wpAny_execs_cons (plainObj_wpAny_Assign_Attribute ?_)
  refine ld_own (v := v) ns1 rfl ?l1 pf.nd ?v1 (ld_own (v := .ref x) ns1 rfl ?l2 (by decide) ?v2 ?_)
  case l1 => exact kf
  case l2 => exact ks
  case v1 => simp [bindL, kf, ks, fs, sf]
  case v2 =>
    simp [bindL, kf, ks, fs, sf]
    exact fun e => (pf.ns e.symm).elim
  refine set_plain X1 (ox := raw C t0 none) (od := none) ⟨x1, rfl, rfl, trivial⟩ T.sa ?_
  refine set_first X1 x1 hcl (show OwnMro (.ref C :: bm) from .cons C hbm) rfl T.noF (fun h3 t3 dx k3 dn dne x3 n3 => ?_)
  show wpAny _ _ (execs _ _) _ _ _
  have z : s.heap.objs.size < h1.objs.size := ns1.lt
  exact wpAny_execs_nil (hq h3 t3 dx (fun b o hb e => k3 b o hb (k b o e)) x3 (Nat.le_of_lt (Nat.lt_of_lt_of_le z dn)) dne n3)
theorem made_any (T : ErrC K C fI f) (pf : Plain f) {v : Value} {us : List Value} {kw : List (Str × Value)} (X : K.In s.heap) (lim : s.heap.NoLimit) (deep : A.depth + 1 < recursionLimit) (hl : us.length ≤ sizeLine)
    (hb : ∀ (x : Addr) (qn : Str) (doc pm : Value) (an : Option Addr) (cdv ct : Value) (p1 p2 q1 q2 q3 q4 : Pos), bindArgs (fnOf "__init__" qn (iA f p1 p2) (iB f q1 q2 q3 q4) (iS f) .none .none doc pm an cdv ct) ⟨.ref x :: us, kw⟩ = pure [(("self" : Str), Value.ref x), (f, v)])
    (hq : ∀ h' t' e d, Made s.heap h' e C d f v → R (.ok (.ret (.ref e))) { s with heap := h', toks := t' }) : codeAny (model prog w) A (.call (.ref C) ⟨us, kw⟩) R s := by
  obtain ⟨nm, q, N, bs, bm, sn, sub, ab, col, dd, k0, k1, k2, k3, k5, hC, hbm⟩ := T.cls
  obtain ⟨hp, g, dr, tk, os⟩ := s
  have k : ∀ b o, hp.get? b = Option.some o → ((hp.push (kdv_tup us)).push (raw C hp.objs.size none)).get? b = Option.some o := fun b o e => Heap.get?_push_of_some _ (Heap.get?_push_of_some _ e)
  have here : ((hp.push (kdv_tup us)).push (raw C hp.objs.size none)).get? (hp.objs.size + 1) = Option.some (raw C hp.objs.size none) := by heap_get
  refine call_any F.excBase_Exception hbm.has (X _ _ hC) (looks_findIn X T.iC) (fun self => bind_fn X self T.tC) hl ?_
  refine init_any (s := ⟨(hp.push (kdv_tup us)).push (raw C hp.objs.size none), g, dr, tk, os⟩) T pf (X.keeps k) (lim.keeps k) here deep (hb _) fun h' t' dx k' hx dn dne hns => ?_
  have old : ∀ b o, hp.get? b = Option.some o → h'.get? b = Option.some o := fun b o e => k' b o (Nat.ne_of_lt (Nat.lt_succ_of_lt (Heap.lt_size e))) (k b o e)
  have z : hp.objs.size + 1 + 1 ≤ dx := by
    have q := dn
    simp only [Heap.size_push] at q
    exact q
  exact ⟨rfl, hq h' t' (hp.objs.size + 1) dx ⟨old, Nat.le_succ _, ⟨_, hx⟩, Nat.le_trans (Nat.le_trans (Nat.le_succ _) (Nat.le_succ _)) z, dne, hns⟩⟩
end
end Err
namespace Err
open PySem PySem.Spec PyProof.Rows L2
/-- an error as a value at e: its class at C, its own dict at d -/
def errO (e C d : Addr) : HO := .ext fun h => ∃ t0, h.get? e = some (raw C t0 (some d))
structure ErrAt (H : Hp) (e C d : Addr) (f : Str) (v : V) : Prop where
  ob : H e = some (errO e C d)
  dc : H d = some (.xd [(f, v)])
theorem errO_ok {P : Program} {w : World} {H : Hp} {h : Heap} {e C d t0 : Addr} (he : h.get? e = some (raw C t0 (some d))) : ObjOk P w H h e (errO e C d) :=
  ⟨⟨t0, he⟩, ⟨_, he⟩, fun _ _ ⟨t, q⟩ k => ⟨t, k _ q⟩⟩
theorem errO_at {P : Program} {w : World} {H : Hp} {h : Heap} {e C d : Addr} (hok : HOk P w H h) (he : H e = some (errO e C d)) : ∃ t0, h.get? e = some (raw C t0 (some d)) := by
  have x : ObjOk P w H h e (.ext fun h => ∃ t0, h.get? e = some (raw C t0 (some d))) := hok e _ he
  exact x.1
theorem one_field {v : V} {v' : Value} (r : RelV v v') (f g : Str) : RelO (List.lookup g [(f, v)]) (if g = f then some v' else none) := by
  by_cases h : g = f
  · subst h
    simp [List.lookup, RelO, r]
  · have q : (g == f) = false := by simpa using h
    simp [List.lookup, q, h, RelO]
section
variable {X : Cx} {pins : List (Addr × Obj)} {σ : L2.St} {H : Hp} {s : Shared} {C fI : Addr} {f : Str}
/-- a made error is laid and tracked -/
theorem Made.inv {h' : Heap} {t' : Nat} {e d : Addr} {v : V} {u : Value} (I : Inv X pins σ H s) (M : Made s.heap h' e C d f u) (r : RelV v u) :
    Inv X pins σ (upd (upd H d (.xd [(f, v)])) e (errO e C d)) { s with heap := h', toks := t' } := by
  have ne : H e = none := I.hok.fresh M.new
  have nd : H d = none := I.hok.fresh M.dbig
  have ee : ∀ {b : Addr} {o : Obj}, s.heap.get? b = some o → b ≠ e := fun {b o} q => Nat.ne_of_lt (Nat.lt_of_lt_of_le (Heap.lt_size q) M.new)
  have ed : ∀ {b : Addr} {o : Obj}, s.heap.get? b = some o → b ≠ d := fun {b o} q => Nat.ne_of_lt (Nat.lt_of_lt_of_le (Heap.lt_size q) M.dbig)
  have stay : ∀ {b : Addr} {o : HO}, H b = some o → (upd (upd H d (.xd [(f, v)])) e (errO e C d)) b = some o := fun {b o} q => by
    rw [upd_ne (ne_of_none q ne), upd_ne (ne_of_none q nd)]; exact q
  obtain ⟨t0, hob⟩ := M.obj
  have free : ∀ {b : Addr} {o : Obj}, s.heap.get? b = some o → H b = none → (upd (upd H d (.xd [(f, v)])) e (errO e C d)) b = none := fun {b o} q n => by
    rw [upd_ne (ee q), upd_ne (ed q)]; exact n
  have U : Un X.fs [] H (upd (upd H d (.xd [(f, v)])) e (errO e C d)) s.heap h' :=
    { keep := fun b o q _ _ _ => M.keep b o q
      slot := fun b o q _ _ _ => ⟨o.slots, M.keep b o q⟩
      free := fun b o q n _ => free q n
      there := fun b o q _ => ⟨o, M.keep b o q⟩
      tups := fun b xs q => stay q
      frzs := fun b o u q => stay q
      tbls := fun b ps q => ⟨#[], by rw [stay q]; simp⟩ }
  refine I.un (t' := t') U fun b o q => ?_
  by_cases hb : b = e
  · subst hb
    rw [upd_same] at q
    cases q
    exact errO_ok hob
  · rw [upd_ne hb] at q
    by_cases hd : b = d
    · subst hd
      rw [upd_same] at q
      cases q
      exact ⟨_, M.ns, fun g => one_field r f g⟩
    · rw [upd_ne hd] at q
      exact (I.hok b o q).stay (fun c z _ y => M.keep c z y) (fun c y => stay y) fun c xs y => stay y
end
/-- the reading of a made error -/
def tErr (C : Addr) (f : Str) (te : TE) : TE := fun σ H Q => te σ H fun v H1 => ∀ e d, H1 e = none → H1 d = none → d ≠ e → Q (.ref e) (upd (upd H1 d (.xd [(f, v)])) e (errO e C d))
section
variable {X : Cx} {C fI : Addr} {f x : Str} {a : Expr} {te : TE} {p pos : Pos}
theorem run_err {pins : List (Addr × Obj)} {σ : L2.St} {H : Hp} {s : Shared} {Q : VK} {v : V} {u : Value} {us : List Value} {kw : List (Str × Value)} (T : ErrC X.K C fI f) (pf : Plain f) (hr : Room 1 X.A) (I : Inv X pins σ H s) (r : RelV v u) (hl : us.length ≤ sizeLine)
    (hb : ∀ (x : Addr) (qn : Str) (doc pm : Value) (an : Option Addr) (cdv ct : Value) (p1 p2 q1 q2 q3 q4 : Pos), bindArgs (PySem.W.fnOf "__init__" qn (iA f p1 p2) (iB f q1 q2 q3 q4) (iS f) .none .none doc pm an cdv ct) ⟨.ref x :: us, kw⟩ = pure [(("self" : Str), Value.ref x), (f, u)])
    (h : ∀ e d, H e = none → H d = none → d ≠ e → Q (.ref e) (upd (upd H d (.xd [(f, v)])) e (errO e C d))) : wpAny (model X.prog X.w) X.A (call (.ref C) us kw) (EP X pins σ Q) X.xe s := by
  have lim := I.nolimit
  have hd := hr.dp
  obtain ⟨hp, g, dr, tk, os⟩ := s
  refine wpAny_call (made_any T pf I.kIn lim (by omega) hl hb fun h' t' e d M => ?_)
  exact ⟨.ref e, _, M.inv I r, rfl, h e d (I.hok.fresh M.new) (I.hok.fresh M.dbig) M.dne⟩
theorem pe_err (T : ErrC X.K C fI f) (pf : Plain f) (hr : Room 1 X.A) (hm : X.mg x = some (.ref C)) (hg : Gl X x) (ha : PE X a te)
    (hb : ∀ (y : Addr) (u : Value) (qn : Str) (doc pm : Value) (an : Option Addr) (cdv ct : Value) (p1 p2 q1 q2 q3 q4 : Pos), bindArgs (PySem.W.fnOf "__init__" qn (iA f p1 p2) (iB f q1 q2 q3 q4) (iS f) .none .none doc pm an cdv ct) ⟨[.ref y, u], []⟩ = pure [(("self" : Str), Value.ref y), (f, u)])
    (hs : starEach [a] X.env = (false, eval a X.env) :: starEach [] X.env := by rfl) (hdb : (x == ("__debug__" : Str)) = false := by decide) (hpl : (backTo pos (starEach [] X.env)).any (·.1) = false := by rfl) :
    PE X (.Call (.Name x p) [a] [] pos) (tErr C f te) := by
  refine ⟨fun pins s σ H Q I h => ?_⟩
  refine wpAny_Call_Name_kw (ld_glob I hg hm ?_ hdb)
  refine PySem.W.callWith_K (h₀ := X.base) I.ok.mod.kin T.kC ?_ hs hpl
  rw [hs]
  show wpAny _ _ (spliced ((false, eval a X.env) :: backTo pos (starEach [] X.env))) _ _ s
  refine Calls.spliced_cons (thn (ha.run pins s σ H _ I h) fun u s1 ⟨v, H1, I1, r1, q1⟩ => ?_)
  refine Calls.spliced_nil ⟨I1.kIn, ?_⟩
  show wpAny _ _ (call (.ref C) [u]) _ _ _
  exact run_err T pf hr I1 r1 (by show 1 ≤ sizeLine; rw [sizeLine_eq]; omega) (fun y => hb y u) q1
theorem pe_errK {kws : List Keyword} {tk : TA} (T : ErrC X.K C fI f) (pf : Plain f) (hr : Room 1 X.A) (hm : X.mg x = some (.ref C)) (hg : Gl X x) (hkw : PK X kws tk)
    (hb : ∀ (y : Addr) (u : Value) (qn : Str) (doc pm : Value) (an : Option Addr) (cdv ct : Value) (p1 p2 q1 q2 q3 q4 : Pos), bindArgs (PySem.W.fnOf "__init__" qn (iA f p1 p2) (iB f q1 q2 q3 q4) (iS f) .none .none doc pm an cdv ct) ⟨[.ref y], [(f, u)]⟩ = pure [(("self" : Str), Value.ref y), (f, u)])
    (hall : (backToKw pos (keywordEach kws X.env)).all (·.1.isSome) = true := by rfl) (hks : (backToKw pos (keywordEach kws X.env)).filterMap (·.1) = [f] := by rfl) (hdb : (x == ("__debug__" : Str)) = false := by decide)
    (hpl : ((backTo pos (starEach [] X.env)).any (·.1) || (backToKw pos (keywordEach kws X.env)).any (·.1.isNone)) = false := by rfl) :
    PE X (.Call (.Name x p) [] kws pos) (fun σ H Q => tk σ H fun zs H1 => ∃ v, zs = [v] ∧ ∀ e d, H1 e = none → H1 d = none → d ≠ e → Q (.ref e) (upd (upd H1 d (.xd [(f, v)])) e (errO e C d))) := by
  refine ⟨fun pins s σ H Q I h => ?_⟩
  refine wpAny_Call_Name_kw (ld_glob I hg hm ?_ hdb)
  refine PySem.W.callWith_KW0 (h₀ := X.base) I.ok.mod.kin T.kC hall ?_ hpl
  refine thn (hkw.run pos pins s σ H _ I h) fun ws s2 ⟨zs, H2, I2, rz, v, ez, q2⟩ => ⟨I2.kIn, ?_⟩
  subst ez
  rw [hks]
  cases rz with
  | cons r1 rn =>
    cases rn
    show wpAny _ _ (call (.ref C) [] [(f, _)]) _ _ _
    exact run_err (us := []) T pf hr I2 r1 (Nat.zero_le _) (fun y => hb y _) q2
/-- error.f -/
def tErrF (K : PySem.W.Frag) (f : Str) (te : TE) : TE := fun σ H Q => te σ H fun x H1 => ∃ (e C fI d : Addr) (v : V), x = .ref e ∧ ErrC K C fI f ∧ ErrAt H1 e C d f v ∧ Q v H1
theorem pe_errF (he : PE X a te) (hb : attributeBase a f X.env (eval a X.env) = eval a X.env := by rfl) : PE X (.Attribute a f pos) (tErrF X.K f te) := by
  refine ⟨fun pins s σ H Q I h => ?_⟩
  refine attr_of hb (thn (he.run pins s σ H _ I h) fun u s1 hh => ?_)
  obtain ⟨y, H1, I1, rx, e, C, fI, d, v, ex, T, at_, q⟩ := hh
  subst ex
  obtain rfl : u = Value.ref e := rx
  obtain ⟨t0, ho⟩ := errO_at I1.hok at_.ob
  have hx : ObjOk X.prog X.w H1 s1.heap d (.xd [(f, v)]) := I1.hok d _ at_.dc
  obtain ⟨mA, hns, hrel⟩ := hx
  obtain ⟨od, hod, hl⟩ := lookIn_ns hns
  have l : List.lookup f [(f, v)] = some v := by simp [List.lookup]
  obtain ⟨u, hu, ru⟩ := RelO.some_of (v := v) (o := mA f) (by rw [← l]; exact hrel f)
  have J : PySem.W.InstAt s1.heap e (raw C t0 (some d)) C (some od) := ⟨ho, rfl, rfl, hod⟩
  exact HandSPX.exc_get I1.kIn J T.ga T.gg T.exC (PySem.W.findObj_own T.hdC T.noF rfl (by rw [hl, hu])) (handed_of ru) ⟨v, H1, I1.tok _, ru, q⟩
end
end Err
namespace Err
open PySem PySem.W PySem.Spec PySem.Calls PyProof.Rows
section
variable {prog : Program} {w : World} {A : Around} {E : Value → Shared → Prop} {s : Shared} {K : Frag} {x D : Addr}
/-- error.__class__, the error with a dict of its own -/
theorem class_of {ox od : Obj} {Q : Option Value → Shared → Prop} (T : L2.ExcC K D) (X : K.In s.heap) (I : InstAt s.heap x ox D (some od)) (h : Q (some (.ref D)) { s with toks := s.toks + 1 }) :
    wpAny (model prog w) A (getAttr? (.ref x) "__class__") Q E s := by
  have fo : findObj K D (some od) "__class__" = some (.bind (.builtin "getset_descriptor.__get__") (.builtin "object.__class__")) :=
    findObj_data (by obtain ⟨cd, hc, _⟩ := any_some T.hd; rw [hc]; rfl) T.ha T.hn T.ht
  obtain ⟨hp, g, d, t, os⟩ := s
  have ty := I.type (M := model prog w)
  have l1 := looks_findIn (M := model prog w) X T.hg
  have l2 := looks_findIn (M := model prog w) X T.hk
  have l3 := looks_find (M := model prog w) X I fo
  have sub : Looks (model prog w) hp (isInstance (.ref x) (.type "BaseException")) true := ty.andThen (looks_subIn X T.hs)
  have e0 : (false && onTheHeap (Value.builtin "BaseException.__getattribute__")) = false := rfl
  have e2 : (Value.builtin "BaseException.__getattribute__" == Value.builtin "object.__getattribute__") = false := by decide +kernel
  have e1 : (onTheHeap (Value.ref D) && Value.builtin "BaseException.__getattribute__" == Value.builtin "object.__getattribute__") = false := by rw [e2]; rfl
  unfold getAttr? getAttrBy? getAttrBy
  refine wpAny_bind (wpAny_mkText (wpAny_bind (wpAny_attempt (wpAny_holding (wpAny_bind (ty.at (wpAny_bind (l1.at ?_))))))))
  show wpAny _ _ (if (onTheHeap (Value.ref D) && Value.builtin "BaseException.__getattribute__" == Value.builtin "object.__getattribute__") = true then _ else _) _ _ _
  rw [e1, if_neg Bool.false_ne_true]
  unfold getAttrByItsOwn hookBefore
  refine wpAny_bind ?_
  rw [if_pos (show onTheHeap (Value.ref D) = true from rfl)]
  refine l2.at (wpAny_bind (wpAny_attempt (wpAny_holding ?_)))
  unfold callGetattribute
  rw [e0, if_neg Bool.false_ne_true]
  unfold boundAndCalled
  rw [PySem.F.excAttr_ValueError.ga.bind (.ref x)]
  refine wpAny_bind (wpAny_pure ?_)
  show wpAny _ _ (call (.builtin "BaseException.__getattribute__") [.ref x, .str "__class__" t]) _ _ _
  refine wpAny_call (codeAny_call_builtin PySem.F.excAttr_ValueError.ga.plain PySem.F.entry_bexc_ga ?_)
  refine @check_slot (model prog w) _ _ ⟨hp, g, d, t + 1, os⟩ "BaseException.__getattribute__" "BaseException" "__getattribute__" (.ref x) [.str "__class__" t] [] _ (by decide +kernel) (by decide +kernel) sub (PySem.F.args_bexc_ga (.ref x) (.str "__class__" t)) ?_
  unfold Builtin.«object.__getattribute__»
  refine wpAny_bind (wpAny_of_eq (a := ((Value.ref x : Value), [Value.str "__class__" t])) (by first | rfl | (simp only [slotArgs]; rfl)) ?_)
  refine wpAny_bind (wpAny_pure (wpAny_bind (ty.at (wpAny_bind (l3.at ?_)))))
  show wpAny _ _ (holding [Value.builtin "object.__class__"] (call (.builtin "getset_descriptor.__get__") [.builtin "object.__class__", .ref x, .ref D]) >>= ret) _ _ _
  refine wpAny_bind (wpAny_holding (wpAny_call (class_get (s := ⟨hp, g, d, t + 1, os⟩) (ox := ox) (od := some od) X I T.hm ?_)))
  refine wpAny_pure ?_
  show wpAny _ _ (handedOut (.ref D)) _ _ _
  rw [handedOut_of (v := .ref D) rfl]
  first
    | exact wpAny_pure (wpAny_pure h)
    | exact wpAny_pure h
    | exact wpAny_pure (wpAny_bind (wpAny_pure (wpAny_pure h)))
theorem kit_err (T : L2.ExcC K D) : KitX K (.ref x) (.ref D) (fun h => ∃ ox od, InstAt h x ox D (some od)) where
  ty := fun _ _ _ ⟨_, _, I⟩ => I.type
  it := fun _ _ X _ => by
    obtain ⟨cdD, hcD, _⟩ := any_some T.hd
    unfold clsIn at hcD
    split at hcD
    · rename_i c' d' cd' sl' ho
      intro A' Q' E' s' k q
      unfold isType loadHead
      exact wpAny_bind (wpAny_loadPart (k _ _ (X _ _ ho)) (wpAny_pure q))
    · cases hcD
  ne := fun h tp dd its n sl X htp => by
    obtain ⟨cdD, hcD, _⟩ := any_some T.hd
    refine Bool.eq_false_iff.mpr fun q => ?_
    have e : D = tp := Value.ref.inj (beq_iff_eq.mp q)
    subst e
    unfold clsIn at hcD
    split at hcD
    · rename_i c' d' cd' sl' ho
      have z := (X _ _ ho).symm.trans htp
      cases z
    · cases hcD
  ca := fun X ⟨_, _, I⟩ k => class_of T X I k
end
open L2
/-- isinstance(error, c), c a class -/
def rIsErr (K : Frag) : List V → Hp → VK → Prop := fun xs H Q => ∃ (e C d : Addr) (f : Str) (v c : V) (cv : Value) (b : Bool), xs = [.ref e, c] ∧ ErrAt H e C d f v ∧ ExcC K C ∧ (∀ u, RelV c u → u = cv) ∧ kitOne K (.ref C) cv = some b ∧ Q (.bl b) H
theorem call_isErr {X : Cx} : CallR X (.builtin "isinstance") (rIsErr X.K) := by
  intro pins s σ H xs us Q I r h
  obtain ⟨e, C, d, f, v, c, cv, b, rfl, at_, T, hcv, k1, q⟩ := h
  cases r with
  | cons rx rr =>
    cases rr with
    | cons rt rr =>
      cases rr
      cases rx
      have ec := hcv _ rt
      subst ec
      obtain ⟨t0, ho⟩ := errO_at I.hok at_.ob
      have hx : ObjOk X.prog X.w H s.heap d (.xd [(f, v)]) := I.hok d _ at_.dc
      obtain ⟨mA, hns, _⟩ := hx
      obtain ⟨od, hod, _⟩ := lookIn_ns hns
      exact kia_one (kit_err T) I.kIn ⟨raw C t0 (some d), od, ⟨ho, rfl, rfl, hod⟩⟩ k1 (fun z => nomatch z) fun tk => ⟨.bl b, H, I.kept (t' := tk) fun _ _ z => z, rfl, q⟩
end Err
/-! What a value is, kept by every later heap: P; what an expression gives: EvP. -/
namespace Pd
open PySem PySem.Spec PyProof.Rows L2 Evl
abbrev PV := V → Hp → Prop
/-- it stays so -/
def Mo (P : PV) : Prop := ∀ x H H', Ex H H' → P x H → P x H'
def Is (v : V) : PV := fun x _ => x = v
theorem mo_is {v : V} : Mo (Is v) := fun _ _ _ _ h => h
def AllP : List PV → List V → Hp → Prop
  | [], [], _ => True
  | P :: Ps, x :: xs, H => P x H ∧ AllP Ps xs H
  | _, _, _ => False
theorem AllP.len : ∀ {Ps : List PV} {xs : List V} {H : Hp}, AllP Ps xs H → xs.length = Ps.length
  | [], [], _, _ => rfl
  | _ :: _, _ :: _, _, h => congrArg Nat.succ h.2.len
theorem AllP.mono {Ps : List PV} (hm : ∀ P ∈ Ps, Mo P) : ∀ {xs : List V} {H H' : Hp}, Ex H H' → AllP Ps xs H → AllP Ps xs H' := by
  induction Ps with
  | nil =>
    intro xs H H' e h
    cases xs with
    | nil => trivial
    | cons => exact h.elim
  | cons P Ps ih =>
    intro xs H H' e h
    cases xs with
    | nil => exact h.elim
    | cons x xs => exact ⟨hm P List.mem_cons_self x H H' e h.1, ih (fun P hP => hm P (List.mem_cons_of_mem _ hP)) e h.2⟩
def Lst (Ps : List PV) : PV := fun x H => ∃ a xs, x = .ref a ∧ H a = some (.lst xs) ∧ AllP Ps xs H
def Tup (Ps : List PV) : PV := fun x H => ∃ a xs, x = .ref a ∧ H a = some (.tup xs) ∧ AllP Ps xs H
theorem mo_lst {Ps : List PV} (hm : ∀ P ∈ Ps, Mo P) : Mo (Lst Ps) := fun _ _ _ e ⟨a, xs, h1, h2, h3⟩ => ⟨a, xs, h1, e a _ h2, h3.mono hm e⟩
theorem mo_tup {Ps : List PV} (hm : ∀ P ∈ Ps, Mo P) : Mo (Tup Ps) := fun _ _ _ e ⟨a, xs, h1, h2, h3⟩ => ⟨a, xs, h1, e a _ h2, h3.mono hm e⟩
/-- a list of just these values -/
def LstV (vs : List V) : PV := fun x H => ∃ a, x = .ref a ∧ H a = some (.lst vs)
theorem mo_lstV {vs : List V} : Mo (LstV vs) := fun _ _ _ e ⟨a, h1, h2⟩ => ⟨a, h1, e a _ h2⟩
theorem allP_is : ∀ {vs xs : List V} {H : Hp}, AllP (vs.map Is) xs H → xs = vs
  | [], [], _, _ => rfl
  | v :: vs, x :: xs, H, h => by
    obtain ⟨h1, h2⟩ := h
    rw [show x = v from h1, allP_is h2]
theorem Lst.values {vs : List V} {x : V} {H : Hp} (h : Lst (vs.map Is) x H) : LstV vs x H := by
  obtain ⟨a, xs, h1, h2, h3⟩ := h
  rw [allP_is h3] at h2
  exact ⟨a, h1, h2⟩
theorem allP_app : ∀ {Ps Rs : List PV} {xs ys : List V} {H : Hp}, AllP Ps xs H → AllP Rs ys H → AllP (Ps ++ Rs) (xs ++ ys) H
  | [], _, [], _, _, _, h => h
  | _ :: _, _, _ :: _, _, _, h, k => ⟨h.1, allP_app h.2 k⟩
theorem allP_get : ∀ {Ps : List PV} {xs : List V} {H : Hp} {i : Nat} {P : PV}, AllP Ps xs H → Ps[i]? = some P → ∃ x, xs[i]? = some x ∧ P x H
  | P :: Ps, x :: xs, H, 0, R, h, e => by
    cases (show some P = some R from e)
    exact ⟨x, rfl, h.1⟩
  | P :: Ps, x :: xs, H, i + 1, R, h, e => by
    obtain ⟨y, h1, h2⟩ := allP_get h.2 (show Ps[i]? = some R from e)
    exact ⟨y, h1, h2⟩
theorem mo_nil : ∀ P ∈ ([] : List PV), Mo P := fun _ h => nomatch h
theorem mo_cons {P : PV} {Ps : List PV} (h : Mo P) (hs : ∀ P ∈ Ps, Mo P) : ∀ Q ∈ P :: Ps, Mo Q := fun Q hQ => by
  rcases List.mem_cons.mp hQ with rfl | q
  · exact h
  · exact hs Q q
/-- an expression gives a P, whatever stands beside -/
def EvP (te : TE) (σ : L2.St) (H : Hp) (P : PV) : Prop := ∀ H1, Ex H H1 → ∀ Q : VK, (∀ x H2, Ex H1 H2 → P x H2 → Q x H2) → te σ H1 Q
def EvPs (ta : TA) (σ : L2.St) (H : Hp) (Ps : List PV) : Prop := ∀ H1, Ex H H1 → ∀ Q : List V → Hp → Prop, (∀ xs H2, Ex H1 H2 → AllP Ps xs H2 → Q xs H2) → ta σ H1 Q
section
variable {σ : L2.St} {H H' : Hp} {te ta tb : TE} {P P' P1 P2 : PV} {v : V}
theorem EvP.up (e : Ex H H') (h : EvP te σ H P) : EvP te σ H' P := fun H1 a Q q => h H1 (e.trans a) Q q
theorem EvPs.up {tr : TA} {Ps : List PV} (e : Ex H H') (h : EvPs tr σ H Ps) : EvPs tr σ H' Ps := fun H1 a Q q => h H1 (e.trans a) Q q
theorem EvP.imp (h : EvP te σ H P) (k : ∀ x H1, Ex H H1 → P x H1 → P' x H1) : EvP te σ H P' := fun H1 a Q q => h H1 a Q fun x H2 e p => q x H2 e (k x H2 (a.trans e) p)
theorem EvP.of (h : Ev te σ H v) (hm : Mo P) (hp : P v H) : EvP te σ H P := fun H1 a Q q => h H1 a Q fun H2 e => q v H2 e (hm v H H2 (a.trans e) hp)
theorem EvP.ev (h : EvP te σ H (Is v)) : Ev te σ H v := fun H1 a Q q => h H1 a Q fun x H2 e p => by rw [p]; exact q H2 e
theorem p_var {i : Nat} (h : σ[i]? = some (some v)) (hm : Mo P) (hp : P v H) : EvP (tVar i) σ H P := .of (ev_var h) hm hp
theorem p_is {i : Nat} (h : σ[i]? = some (some v)) : EvP (tVar i) σ H (Is v) := .of (ev_var h) mo_is rfl
theorem p_c : EvP (tC v) σ H (Is v) := .of ev_c mo_is rfl
theorem ps_nil : EvPs tNil σ H [] := fun H1 _ Q q => q [] H1 (Ex.refl H1) trivial
theorem ps_cons {tr : TA} {Ps : List PV} (hm : Mo P) (h : EvP te σ H P) (hr : EvPs tr σ H Ps) : EvPs (tCons te tr) σ H (P :: Ps) := fun H1 a Q q =>
  h H1 a _ fun x H2 e p => hr H2 (a.trans e) _ fun xs H3 e2 ps => q (x :: xs) H3 (e.trans e2) ⟨hm x H2 H3 e2 p, ps⟩
theorem p_lst {tr : TA} {Ps : List PV} (hm : ∀ P ∈ Ps, Mo P) (h : EvPs tr σ H Ps) (hl : Ps.length ≤ 100000 := by first | decide | simp) : EvP (tLst tr) σ H (Lst Ps) := fun H1 a Q q =>
  h H1 a _ fun xs H2 e ps => ⟨by rw [ps.len]; exact sz_of hl, fun p hp => q (.ref p) _ (e.trans (Ex.new hp)) ⟨p, xs, rfl, upd_same, ps.mono hm (Ex.new hp)⟩⟩
theorem p_tup {tr : TA} {Ps : List PV} (hm : ∀ P ∈ Ps, Mo P) (h : EvPs tr σ H Ps) (hl : Ps.length ≤ 100000 := by first | decide | simp) : EvP (tTup tr) σ H (Tup Ps) := fun H1 a Q q =>
  h H1 a _ fun xs H2 e ps => ⟨by rw [ps.len]; exact sz_of hl, fun p hp => q (.ref p) _ (e.trans (Ex.new hp)) ⟨p, xs, rfl, upd_same, ps.mono hm (Ex.new hp)⟩⟩
/-- a list of values written out -/
theorem p_lstV {tr : TA} {vs : List V} (h : EvPs tr σ H (vs.map Is)) (hl : vs.length ≤ 100000 := by first | decide | simp) : EvP (tLst tr) σ H (LstV vs) :=
  (p_lst (fun P hP => by obtain ⟨v, _, rfl⟩ := List.mem_map.mp hP; exact mo_is) h (by rw [List.length_map]; exact hl)).imp fun _ _ _ p => p.values
/-- xs + ys -/
theorem p_cat {Ps Rs : List PV} (hm : ∀ P ∈ Ps, Mo P) (hn : ∀ P ∈ Rs, Mo P) (h1 : EvP ta σ H (Lst Ps)) (h2 : EvP tb σ H (Lst Rs)) (hl : Ps.length + Rs.length ≤ 100000 := by first | decide | simp) : EvP (tOp rCat ta tb) σ H (Lst (Ps ++ Rs)) := fun H1 a Q q =>
  h1 H1 a _ fun x H2 e ⟨p, xs, ex, hx, px⟩ => h2 H2 (a.trans e) _ fun y H3 e2 ⟨r, ys, ey, hy, py⟩ => by
    refine ⟨p, r, xs, ys, ex, ey, e2 p _ hx, hy, by rw [px.len, py.len]; exact sz_of hl, fun z hz => ?_⟩
    exact q (.ref z) _ (e.trans (e2.trans (Ex.new hz))) ⟨z, xs ++ ys, rfl, upd_same, allP_app (px.mono hm (e2.trans (Ex.new hz))) (py.mono hn (Ex.new hz))⟩
theorem p_catV {xs ys : List V} (h1 : EvP ta σ H (LstV xs)) (h2 : EvP tb σ H (LstV ys)) (hl : xs.length + ys.length ≤ 100000 := by first | decide | simp) : EvP (tOp rCat ta tb) σ H (LstV (xs ++ ys)) := fun H1 a Q q =>
  h1 H1 a _ fun x H2 e ⟨p, ex, hx⟩ => h2 H2 (a.trans e) _ fun y H3 e2 ⟨r, ey, hy⟩ =>
    ⟨p, r, xs, ys, ex, ey, e2 p _ hx, hy, sz_of hl, fun z hz => q (.ref z) _ (e.trans (e2.trans (Ex.new hz))) ⟨z, rfl, upd_same⟩⟩
/-- a field of an error -/
def ErrV (C : Addr) (f : Str) (v : V) : PV := fun x H => ∃ e d, x = .ref e ∧ Err.ErrAt H e C d f v
theorem mo_err {C : Addr} {f : Str} {v : V} : Mo (ErrV C f v) := fun _ _ _ ex ⟨e, d, h1, h2⟩ => ⟨e, d, h1, ex _ _ h2.ob, ex _ _ h2.dc⟩
theorem p_err {C : Addr} {f : Str} (h : Ev te σ H v) : EvP (Err.tErr C f te) σ H (ErrV C f v) := fun H1 a Q q =>
  h H1 a _ fun H2 e x d hx hd hne => by
    have nd : upd H2 d (.xd [(f, v)]) x = none := by rw [upd_ne (Ne.symm hne)]; exact hx
    exact q (.ref x) _ (e.trans ((Ex.new hd).trans (Ex.new nd))) ⟨x, d, rfl, upd_same, by rw [upd_ne hne]; exact upd_same⟩
theorem p_errK {C : Addr} {f : Str} {tk : TA} (h : EvA tk σ H [v]) : EvP (fun σ H Q => tk σ H fun zs H1 => ∃ v, zs = [v] ∧ ∀ e d, H1 e = none → H1 d = none → d ≠ e → Q (.ref e) (upd (upd H1 d (.xd [(f, v)])) e (Err.errO e C d))) σ H (ErrV C f v) := fun H1 a Q q =>
  h H1 a _ fun H2 e => ⟨v, rfl, fun x d hx hd hne => by
    have nd : upd H2 d (.xd [(f, v)]) x = none := by rw [upd_ne (Ne.symm hne)]; exact hx
    exact q (.ref x) _ (e.trans ((Ex.new hd).trans (Ex.new nd))) ⟨x, d, rfl, upd_same, by rw [upd_ne hne]; exact upd_same⟩⟩
theorem p_errF {K : PySem.W.Frag} {C fI : Addr} {f : Str} (T : Err.ErrC K C fI f) (h : EvP te σ H (ErrV C f v)) : Ev (Err.tErrF K f te) σ H v := fun H1 a Q q =>
  h H1 a _ fun x H2 e ⟨y, d, ex, at_⟩ => ⟨y, C, fI, d, v, ex, T, at_, q H2 e⟩
theorem p_isErr {K : PySem.W.Frag} {C D : Addr} {f : Str} {b : Bool} {w : V} (T : ExcC K C) (k : PySem.W.kitOne K (.ref C) (.ref D) = some b) (h : EvP te σ H (ErrV C f w)) (h2 : Ev tb σ H (.ref D)) : Ev (tCB (Err.rIsErr K) (tCons te (tCons tb tNil))) σ H (.bl b) := fun H1 a Q q =>
  h H1 a _ fun x H2 e ⟨y, d, ex, at_⟩ => h2 H2 (a.trans e) _ fun H3 e2 => by
    refine ⟨y, C, d, f, w, .ref D, .ref D, b, by rw [ex], ⟨e2 _ _ at_.ob, e2 _ _ at_.dc⟩, T, fun u hu => hu, k, q H3 (e.trans e2)⟩
theorem p_isErrT {K : PySem.W.Frag} {C : Addr} {f : Str} {b : Bool} {w : V} {n : String} (T : ExcC K C) (k : PySem.W.kitOne K (.ref C) (.type n) = some b) (h : EvP te σ H (ErrV C f w)) (h2 : Ev tb σ H (.ty n)) : Ev (tCB (Err.rIsErr K) (tCons te (tCons tb tNil))) σ H (.bl b) := fun H1 a Q q =>
  h H1 a _ fun x H2 e ⟨y, d, ex, at_⟩ => h2 H2 (a.trans e) _ fun H3 e2 => by
    refine ⟨y, C, d, f, w, .ty n, .type n, b, by rw [ex], ⟨e2 _ _ at_.ob, e2 _ _ at_.dc⟩, T, fun u hu => hu, k, q H3 (e.trans e2)⟩
/-- an operation of values that are so and so -/
theorem p_op {r : R2} (hm : Mo P1) (h1 : EvP ta σ H P1) (h2 : EvP tb σ H P2)
    (hr : ∀ x y H1, Ex H H1 → P1 x H1 → P2 y H1 → ∀ Q : VK, (∀ z H2, Ex H1 H2 → P z H2 → Q z H2) → r x y H1 Q) : EvP (tOp r ta tb) σ H P := fun H1 a Q q =>
  h1 H1 a _ fun x H2 e p1 => h2 H2 (a.trans e) _ fun y H3 e2 p2 => hr x y H3 (a.trans (e.trans e2)) (hm x H2 H3 e2 p1) p2 Q fun z H4 e3 p => q z H4 (e.trans (e2.trans e3)) p
theorem p_un {r : V → Hp → VK → Prop} (h1 : EvP ta σ H P1) (hr : ∀ x H1, Ex H H1 → P1 x H1 → ∀ Q : VK, (∀ z H2, Ex H1 H2 → P z H2 → Q z H2) → r x H1 Q) : EvP (tUn r ta) σ H P := fun H1 a Q q =>
  h1 H1 a _ fun x H2 e p1 => hr x H2 (a.trans e) p1 Q fun z H4 e3 p => q z H4 (e.trans e3) p
theorem p_cb {r : List V → Hp → VK → Prop} {tr : TA} {Ps : List PV} (h : EvPs tr σ H Ps) (hr : ∀ xs H1, Ex H H1 → AllP Ps xs H1 → ∀ Q : VK, (∀ z H2, Ex H1 H2 → P z H2 → Q z H2) → r xs H1 Q) : EvP (tCB r tr) σ H P := fun H1 a Q q =>
  h H1 a _ fun xs H2 e ps => hr xs H2 (a.trans e) ps Q fun z H3 e2 p => q z H3 (e.trans e2) p
theorem p_call {sp : Sp} {E : XK} {tr : TA} {Ps : List PV} (h : EvPs tr σ H Ps) (hr : ∀ xs H1, Ex H H1 → AllP Ps xs H1 → ∀ Q : VK, (∀ z H2, Ex H1 H2 → P z H2 → Q z H2) → sp xs H1 Q E) : EvP (tCall sp [] E tr) σ H P := fun H1 a Q q =>
  h H1 a _ fun xs H2 e ps => by
    rw [List.append_nil]
    exact hr xs H2 (a.trans e) ps Q fun z H3 e2 p => q z H3 (e.trans e2) p
theorem p_ife {t : TT} {b : Bool} (h : EvT t σ H b) (h1 : b = true → EvP ta σ H P) (h2 : b = false → EvP tb σ H P) : EvP (tIf t ta tb) σ H P := fun H1 e Q q => h H1 e _ fun H2 e2 => by
  cases b with
  | true => exact h1 rfl H2 (e.trans e2) Q fun x H3 e3 p => q x H3 (e2.trans e3) p
  | false => exact h2 rfl H2 (e.trans e2) Q fun x H3 e3 p => q x H3 (e2.trans e3) p
/-! statements -/
variable {D : Ends} {tz : TS}
theorem d_asg {i : Nat} (h : EvP te σ H P) (k : ∀ x H1, Ex H H1 → P x H1 → tz D (σ.set i (some x)) H1) : tSeq (tAsg te (gName i)) tz D σ H := h H (Ex.refl H) _ k
theorem d_asg1 {i : Nat} (h : EvP te σ H P) (k : ∀ x H1, Ex H H1 → P x H1 → D.nx (σ.set i (some x)) H1) : tAsg te (gName i) D σ H := h H (Ex.refl H) _ k
theorem d_ret (h : EvP te σ H P) (k : ∀ x H1, Ex H H1 → P x H1 → D.rt x H1) : tRet te D σ H := h H (Ex.refl H) _ k
end
/-- a promise: asked of the arguments, P of what comes back, nothing that stood is touched -/
def Pr (pre : List V → Hp → Prop) (P : List V → PV) : Sp := fun vs H Q _ => pre vs H ∧ ∀ x H', Ex H H' → P vs x H' → Q x H'
/-- the same value twice: none is told from itself -/
def noFlt : V → Bool
  | .flt _ => false
  | _ => true
theorem eq_self {A : Around} {s : Shared} {x : V} {v u : Value} (rx : RelV x v) (ru : RelV x u) (h : flatB x = true ∨ ∃ a, x = .ref a) : SeqAt.EqAt A s v u true := by
  rcases h with h | ⟨a, rfl⟩
  · exact eqAt_same rx ru h
  · cases (show v = Value.ref a from rx)
    cases (show u = Value.ref a from ru)
    exact SeqAt.EqAt.same _
def Solid (x : V) : Prop := flatB x = true ∨ ∃ a, x = .ref a
theorem items_self {A : Around} {s : Shared} {xs : List V} {us ws : List Value} (hs : ∀ x ∈ xs, Solid x) (r1 : Vals xs us) (r2 : Vals xs ws) : ∀ j (h1 : j < us.toArray.size) (h2 : j < ws.toArray.size), SeqAt.EqAt A s us.toArray[j] ws.toArray[j] true := by
  intro j h1 h2
  have l1 : j < us.length := by simpa using h1
  have l2 : j < ws.length := by simpa using h2
  have lx : j < xs.length := by rw [Vals.length r1]; exact l1
  obtain ⟨u, hu, ru⟩ := Vals.get r1 (List.getElem?_eq_getElem lx)
  obtain ⟨w', hw, rw'⟩ := Vals.get r2 (List.getElem?_eq_getElem lx)
  have e1 : us.toArray[j] = u := by
    have := (List.getElem?_eq_getElem l1).symm.trans hu
    simpa using this
  have e2 : ws.toArray[j] = w' := by
    have := (List.getElem?_eq_getElem l2).symm.trans hw
    simpa using this
  rw [e1, e2]
  exact eq_self ru rw' (hs _ (List.getElem_mem lx))
/-- two lists of the same values -/
def rLs (K : PySem.W.Frag) (b : Bool) : R2 := fun x y H Q => ∃ a c xs, x = .ref a ∧ y = .ref c ∧ SqL K H a xs ∧ SqL K H c xs ∧ (∀ z ∈ xs, Solid z) ∧ Q (.bl b) H
/-- a value beside itself -/
def rSelf (K : PySem.W.Frag) (b : Bool) : R2 := fun x y H Q => x = y ∧ (scal x x = true ∨ (∃ a xs, x = .ref a ∧ (SqL K H a xs ∨ SqT K H a xs) ∧ ∀ z ∈ xs, Solid z) ∨ ∃ a, x = .ref a ∧ H a = some (.dK [])) ∧ Q (.bl b) H
section
variable {X : Cx}
theorem op_neLs (hu : X.A.units < cLine) : OpR X (compareOp .NotEq) (rLs X.K false) := by
  intro pins s σ H x y v u Q I rx ry h
  obtain ⟨a, c, xs, rfl, rfl, h1, h2, hs, q⟩ := h
  obtain rfl : v = Value.ref a := rx
  obtain rfl : u = Value.ref c := ry
  obtain ⟨us, r1, p1, _⟩ := I.list h1
  obtain ⟨ws, r2, p2, _⟩ := I.list h2
  have sz : us.toArray.size = ws.toArray.size := by
    rw [List.size_toArray, List.size_toArray, ← Vals.length r1, ← Vals.length r2]
  show wpAny _ _ (richCompare .NotEq (.ref a) (.ref c)) _ _ _
  refine SeqAt.RcNeAt.lists (A := X.A) (e := fun _ => true) p1.isList p2.isList sz hu (items_self hs r1 r2) X.prog X.w X.xe _ ?_
  rw [show ((List.range us.toArray.size).all fun _ => true) = true from List.all_eq_true.mpr fun _ _ => rfl]
  exact ⟨.bl false, H, I, rfl, q⟩
theorem op_eqLs (hu : X.A.units < cLine) : OpR X (compareOp .Eq) (rLs X.K true) := by
  intro pins s σ H x y v u Q I rx ry h
  obtain ⟨a, c, xs, rfl, rfl, h1, h2, hs, q⟩ := h
  obtain rfl : v = Value.ref a := rx
  obtain rfl : u = Value.ref c := ry
  obtain ⟨us, r1, p1, _⟩ := I.list h1
  obtain ⟨ws, r2, p2, _⟩ := I.list h2
  have sz : us.toArray.size = ws.toArray.size := by
    rw [List.size_toArray, List.size_toArray, ← Vals.length r1, ← Vals.length r2]
  refine SeqAt.rcP_lists (e := fun _ => true) p1.isList p2.isList sz hu (fun j l1 l2 => (items_self hs r1 r2 j l1 l2).eqP) X.xe _ ?_
  rw [show ((List.range us.toArray.size).all fun _ => true) = true from List.all_eq_true.mpr fun _ _ => rfl]
  exact ⟨.bl true, H, I, rfl, q⟩
theorem op_neSelf (hu : X.A.units < cLine) : OpR X (compareOp .NotEq) (rSelf X.K false) := by
  intro pins s σ H x y v u Q I rx ry h
  obtain ⟨rfl, h, q⟩ := h
  rcases h with h | ⟨a, xs, rfl, h, hs⟩ | ⟨a, rfl, h⟩
  · refine op_ne pins s σ H x x v u Q I rx ry ⟨h, ?_⟩
    simpa using q
  · rcases h with h | h
    · exact op_neLs hu pins s σ H _ _ v u Q I rx ry ⟨a, a, xs, rfl, rfl, h, h, hs, q⟩
    · obtain rfl : v = Value.ref a := rx
      obtain rfl : u = Value.ref a := ry
      obtain ⟨us, r1, p1, _⟩ := I.tuple h
      have tp : s.heap.IsTuple a us.toArray := by
        obtain ⟨o, ho, hc, n, hd⟩ := p1
        exact ⟨o, ho, hc, n, hd⟩
      show wpAny _ _ (richCompare .NotEq (.ref a) (.ref a)) _ _ _
      refine SeqAt.RcNeAt.tuples (A := X.A) (e := fun _ => true) tp tp hu (items_self hs r1 r1) X.prog X.w X.xe _ ?_
      have ee : (!(((List.range (min us.toArray.size us.toArray.size)).all fun _ => true) && us.toArray.size == us.toArray.size)) = false := by simp
      rw [ee]
      exact ⟨.bl false, H, I, rfl, q⟩
  · exact op_ne_dictA hu pins s σ H _ _ v u Q I rx ry ⟨a, a, [], [], rfl, rfl, h, h, rfl, (fun _ h => nomatch h), q⟩
theorem pe_gref {x : Str} {C : Addr} {pos : Pos} (hg : Gl X x) (hm : X.mg x = some (.ref C)) (hd : (x == ("__debug__" : Str)) = false := by decide) : PE X (.Name x pos) (tC (.ref C)) := pe_glob hg hm (show RelV (.ref C) (.ref C) from rfl) hd
/-- a list beside []: are they unlike? -/
def rNil (K : PySem.W.Frag) : R2 := fun x y H Q => ∃ a c xs, x = .ref a ∧ y = .ref c ∧ SqL K H a xs ∧ SqL K H c [] ∧ (∀ z ∈ xs, Solid z) ∧ Q (.bl (!xs.isEmpty)) H
theorem op_neNil (hu : X.A.units < cLine) : OpR X (compareOp .NotEq) (rNil X.K) := by
  intro pins s σ H x y v u Q I rx ry h
  obtain ⟨a, c, xs, rfl, rfl, h1, h2, hs, q⟩ := h
  cases xs with
  | nil => exact op_neLs hu pins s σ H _ _ v u Q I rx ry ⟨a, c, [], rfl, rfl, h1, h2, hs, q⟩
  | cons z zs =>
    obtain rfl : v = Value.ref a := rx
    obtain rfl : u = Value.ref c := ry
    obtain ⟨us, r1, p1, _⟩ := I.list h1
    obtain ⟨ws, r2, p2, _⟩ := I.list h2
    have sz : (us.toArray.size != ws.toArray.size) = true := by
      rw [List.size_toArray, List.size_toArray, ← Vals.length r1, ← Vals.length r2]
      simp
    show wpAny _ _ (richCompare .NotEq (.ref a) (.ref c)) _ _ _
    refine SeqAt.RcNeAt.lists_lengths (A := X.A) p1.isList p2.isList sz hu X.prog X.w X.xe _ ?_
    exact ⟨.bl true, H, I, rfl, q⟩
end
section
variable {σ : L2.St} {H : Hp} {ta tb : TE}
theorem p_neLs {K : PySem.W.Frag} {vs : List V} {b : Bool} (hs : ∀ z ∈ vs, Solid z) (h1 : EvP ta σ H (LstV vs)) (h2 : EvP tb σ H (LstV vs)) : Ev (tOp (rLs K b) ta tb) σ H (.bl b) := fun H1 a Q q =>
  h1 H1 a _ fun x H2 e ⟨p, ex, hx⟩ => h2 H2 (a.trans e) _ fun y H3 e2 ⟨r, ey, hy⟩ =>
    ⟨p, r, vs, ex, ey, sq_of (e2 _ _ hx), sq_of hy, hs, q H3 (e.trans e2)⟩
end
end Pd
/-! Data as a tree, kept by growing heaps; a pool: a list [numbers, place] of which the place is not told. -/
namespace Pd
open PySem PySem.Spec PyProof.Rows L2 Evl
mutual
theorem dp_up {K : PySem.W.Frag} {H H' : Hp} (e : Ex H H') : ∀ {x : V} {d : PyData}, Dp K H x d → Dp K H' x d
  | _, _, .non => .non
  | _, _, .bl b => .bl b
  | _, _, .int i => .int i
  | _, _, .str x => .str x
  | _, _, .lst h a => .lst (ex_l e h) (dpAll_up e a)
  | _, _, .tup h a => .tup (ex_t e h) (dpAll_up e a)
theorem dpAll_up {K : PySem.W.Frag} {H H' : Hp} (e : Ex H H') : ∀ {xs : List V} {ds : List PyData}, DpAll K H xs ds → DpAll K H' xs ds
  | _, _, .nil => .nil
  | _, _, .cons h a => .cons (dp_up e h) (dpAll_up e a)
end
/-- the value is the data d -/
def De (K : PySem.W.Frag) (d : PyData) : PV := fun x H => Dp K H x d
theorem mo_de {K : PySem.W.Frag} {d : PyData} : Mo (De K d) := fun _ _ _ e h => dp_up e h
theorem allP_de {K : PySem.W.Frag} {H : Hp} : ∀ {ds : List PyData} {xs : List V}, AllP (ds.map (De K)) xs H → DpAll K H xs ds
  | [], [], _ => .nil
  | d :: ds, x :: xs, h => .cons h.1 (allP_de h.2)
theorem mo_des {K : PySem.W.Frag} {ds : List PyData} : ∀ P ∈ ds.map (De K), Mo P := fun P hP => by
  obtain ⟨d, _, rfl⟩ := List.mem_map.mp hP
  exact mo_de
section
variable {K : PySem.W.Frag} {σ : L2.St} {H : Hp} {te ta tb : TE} {tr : TA} {d e : PyData} {ds : List PyData}
theorem de_int {i : Int} : EvP (tC (.int i)) σ H (De K (.int i)) := p_c.imp fun x _ _ hx => by rw [show x = _ from hx]; exact .int i
theorem de_str {s : Str} : EvP (tC (.str s)) σ H (De K (.str s)) := p_c.imp fun x _ _ hx => by rw [show x = _ from hx]; exact .str s
theorem de_bl {b : Bool} : EvP (tC (.bl b)) σ H (De K (.bool b)) := p_c.imp fun x _ _ hx => by rw [show x = _ from hx]; exact .bl b
theorem de_non : EvP (tC .non) σ H (De K .none) := p_c.imp fun x _ _ hx => by rw [show x = _ from hx]; exact .non
theorem de_lst (h : EvPs tr σ H (ds.map (De K))) (hl : ds.length ≤ 100000 := by first | decide | simp) : EvP (tLst tr) σ H (De K (.list ds)) :=
  (p_lst mo_des h (by rw [List.length_map]; exact hl)).imp fun x H1 _ ⟨a, xs, h1, h2, h3⟩ => by rw [h1]; exact .lst (sq_of h2) (allP_de h3)
theorem de_tup (h : EvPs tr σ H (ds.map (De K))) (hl : ds.length ≤ 100000 := by first | decide | simp) : EvP (tTup tr) σ H (De K (.tuple ds)) :=
  (p_tup mo_des h (by rw [List.length_map]; exact hl)).imp fun x H1 _ ⟨a, xs, h1, h2, h3⟩ => by rw [h1]; exact .tup (st_of h2) (allP_de h3)
theorem de_eq (sd : SeqAt.shaped d = true) (se : SeqAt.shaped e = true) (h1 : EvP ta σ H (De K d)) (h2 : EvP tb σ H (De K e)) : Ev (tOp (rEqD K) ta tb) σ H (.bl (PyData.eqv d e)) := fun H1 a Q q =>
  h1 H1 a _ fun x H2 e1 p1 => h2 H2 (a.trans e1) _ fun y H3 e2 p2 => ⟨d, e, dp_up e2 p1, p2, sd, se, q H3 (e1.trans e2)⟩
theorem de_ne (sd : SeqAt.shaped d = true) (se : SeqAt.shaped e = true) (h1 : EvP ta σ H (De K d)) (h2 : EvP tb σ H (De K e)) : Ev (tOp (rNeD K) ta tb) σ H (.bl (!PyData.eqv d e)) := fun H1 a Q q =>
  h1 H1 a _ fun x H2 e1 p1 => h2 H2 (a.trans e1) _ fun y H3 e2 p2 => ⟨d, e, dp_up e2 p1, p2, sd, se, q H3 (e1.trans e2)⟩
/-- the class of a data -/
def tyD : PyData → String
  | .none => "NoneType" | .bool _ => "bool" | .int _ => "int" | .str _ => "str" | .list _ => "list" | .tuple _ => "tuple" | .dict _ => "dict"
theorem ty_list {a : Addr} {xs : List V} (h : SqL K H a xs) : TyX K H (.ref a) (.type "list") := by
  rcases h with (h | ⟨o, h⟩) | ⟨o, its, n, h1, h2, _⟩
  · exact .base (.lst h)
  · exact .base (.frz h)
  · exact .kList h1 h2
theorem ty_tup {a : Addr} {xs : List V} (h : SqT K H a xs) : TyX K H (.ref a) (.type "tuple") := by
  rcases h with (h | ⟨o, h⟩) | ⟨o, its, n, h1, h2, _⟩
  · exact .base (.tup h)
  · exact .fTuple h
  · exact .kTuple h1 h2
theorem ty_de {x : V} (h : Dp K H x d) : TyX K H x (.type (tyD d)) := by
  cases h with
  | non => exact .base .non
  | bl b => exact .base (.bl b)
  | int i => exact .base (.int i)
  | str s => exact .base (.str s)
  | lst h _ => exact ty_list h
  | tup h _ => exact ty_tup h
/-- isinstance(x, T) -/
theorem de_isi {n : String} {b : Bool} (k : kitB (tyD d) n = some b) (h1 : EvP ta σ H (De K d)) (h2 : Ev tb σ H (.ty n)) : Ev (tCB (rIsi K) (tCons ta (tCons tb tNil))) σ H (.bl b) := fun H1 a Q q =>
  h1 H1 a _ fun x H2 e1 p1 => h2 H2 (a.trans e1) _ fun H3 e2 => ⟨x, .ty n, _, .type n, b, rfl, .ty n, ty_de (dp_up e2 p1), kit_ty k, q H3 (e1.trans e2)⟩
end
/-! ### a pool -/
/-- at p: the list [the list at a, some place from 0 on] -/
def poolO (p a : Addr) : HO := .ext fun h => ∃ (i : Int) (t : Tok) (n : Nat), 0 ≤ i ∧ h.get? p = some { cls := .type "list", data := .seq #[.ref a, .int i t] n }
theorem pool_ok {P : Program} {w : World} {H : Hp} {h : Heap} {p a : Addr} {i : Int} {t : Tok} {n : Nat} (h0 : 0 ≤ i) (e : h.get? p = some { cls := .type "list", data := .seq #[.ref a, .int i t] n }) : ObjOk P w H h p (poolO p a) :=
  ⟨⟨i, t, n, h0, e⟩, ⟨_, e⟩, fun _ _ ⟨i, t, n, h0, q⟩ k => ⟨i, t, n, h0, k _ q⟩⟩
theorem pool_at {P : Program} {w : World} {H : Hp} {h : Heap} {p a : Addr} (hok : HOk P w H h) (e : H p = some (poolO p a)) : ∃ (i : Int) (t : Tok) (n : Nat), 0 ≤ i ∧ h.get? p = some { cls := .type "list", data := .seq #[.ref a, .int i t] n } := by
  have x : ObjOk P w H h p (.ext fun h => ∃ (i : Int) (t : Tok) (n : Nat), 0 ≤ i ∧ h.get? p = some { cls := .type "list", data := .seq #[.ref a, .int i t] n }) := hok p _ e
  exact x.1
/-- numbers from 0 on -/
def Nums (K : PySem.W.Frag) (a : Addr) (H : Hp) : Prop := ∃ ns : List Int, (∀ n ∈ ns, 0 ≤ n) ∧ ns.length ≤ 1000 ∧ H a = some (.lst (ns.map V.int))
def PoolV (K : PySem.W.Frag) : PV := fun x H => ∃ p a, x = .ref p ∧ H p = some (poolO p a) ∧ Nums K a H
theorem mo_pool {K : PySem.W.Frag} : Mo (PoolV K) := fun _ _ _ e ⟨p, a, h1, h2, ns, h3, h4, h5⟩ => ⟨p, a, h1, e _ _ h2, ns, h3, h4, e _ _ h5⟩
section
variable {X : Cx}
/-- [numbers, 0] is taken as a pool from here on -/
def tRecast (te : TE) : TE := fun σ H Q => te σ H fun x H1 => ∃ (p a : Addr) (i : Int), x = .ref p ∧ 0 ≤ i ∧ H1 p = some (.lst [.ref a, .int i]) ∧ Q x (upd H1 p (poolO p a))
theorem pe_recast {e : Expr} {te : TE} (h : PE X e te) : PE X e (tRecast te) := by
  refine ⟨fun pins s σ H Q I hw => thn (h.run pins s σ H _ I hw) fun u s1 ⟨x, H1, I1, r, p, a, i, ex, h0, hp, q⟩ => ?_⟩
  subst ex
  obtain ⟨hl, its, n, rv, ho⟩ := (show ObjOk X.prog X.w H1 s1.heap p (.lst [.ref a, .int i]) from I1.hok p _ hp)
  obtain ⟨u1, u2, rfl, r1, r2⟩ := vals2 rv
  cases (show u1 = Value.ref a from r1)
  obtain ⟨t, rfl⟩ := (show ∃ t, u2 = Value.int i t from r2)
  have J := I1.write (t' := s1.toks) (x := p) (e := p) (o := poolO p a) (by rw [hp]; exact True.intro) (.inl rfl) (fun b u _ z => z) ⟨_, ho⟩ (pool_ok h0 ho)
  exact ⟨.ref p, _, J, r, q⟩
/-- pool[0], pool[1] -/
def rIxPool : R2 := fun x y H Q => ∃ (p a : Addr), x = .ref p ∧ H p = some (poolO p a) ∧ ((y = .int 0 ∧ Q (.ref a) H) ∨ (y = .int 1 ∧ ∀ i : Int, 0 ≤ i → Q (.int i) H))
theorem ix_pool : IxR X rIxPool := by
  intro value slice pins s σ H x y v u Q I rx ry h hs
  obtain ⟨p, a, rfl, hp, h⟩ := h
  cases rx
  obtain ⟨i, t, n, h0, ho⟩ := pool_at I.hok hp
  have il : s.heap.IsList p #[.ref a, .int i t] := ⟨_, ho, rfl, n, rfl⟩
  rcases h with ⟨rfl, q⟩ | ⟨rfl, q⟩
  · obtain ⟨t2, rfl⟩ := ry
    exact item_listR il (by decide) (by decide) (x := .ref a) rfl ⟨.ref a, H, I, rfl, q⟩ hs
  · obtain ⟨t2, rfl⟩ := ry
    exact item_listR il (by decide) (by decide) (x := .int i t) rfl ⟨.int i, H, I, ⟨t, rfl⟩, q i h0⟩ hs
/-- pool[1] = i -/
def rSetPool : V → V → V → Hp → (Hp → Prop) → Prop := fun o i v H Q => ∃ (p a : Addr) (k : Int), o = .ref p ∧ i = .int 1 ∧ v = .int k ∧ 0 ≤ k ∧ H p = some (poolO p a) ∧ Q H
theorem set_pool : PSet X rSetPool := by
  intro pins s σ H o i v ov iv u Q I ro ri rv h
  obtain ⟨p, a, k, rfl, rfl, rfl, hk, hp, q⟩ := h
  cases ro
  obtain ⟨t, rfl⟩ := ri
  obtain ⟨tk, rfl⟩ := rv
  obtain ⟨i, t0, n, h0, ho⟩ := pool_at I.hok hp
  have e : (s.heap.update p (Obj.mapSeq (·.setIfInBounds 1 (.int k tk)))).get? p = some { cls := .type "list", data := .seq #[.ref a, .int k tk] n } := by
    rw [Heap.get?_update_self _ ho (by simp [Obj.mapSeq]; rfl)]
    simp [Obj.mapSeq]
  have J : Inv X pins σ (upd H p (poolO p a)) { s with heap := s.heap.update p (Obj.mapSeq (·.setIfInBounds 1 (.int k tk))) } :=
    I.write (t' := s.toks) (x := p) (e := p) (o := poolO p a) (by rw [hp]; exact True.intro) (.inl rfl) (fun b u hb z => (Heap.get?_update_other _ _ (Ne.symm hb)).trans z) ⟨_, e⟩ (pool_ok hk e)
  have same : upd H p (poolO p a) = H := by
    funext b
    by_cases hb : b = p
    · rw [hb, upd_same, hp]
    · rw [upd_ne hb]
  rw [same] at J
  exact PySem.W.ki_setAt ho (by decide) (by decide) (by show (1 : Int) < 2; decide) ⟨_, J, q⟩
end
end Pd
namespace Lw
open PySem PySem.Spec PyProof.Rows L2 Evl Pd
def top (i : Nat) : Stmt := PySem.Challenge.pw_answeredsettings_k01_settings_made.main.body.getD i (.Pass ⟨0, 0, 0, 0⟩)
abbrev sNumbers : Stmt := top 26
abbrev sPool : Stmt := top 27
abbrev sDraw : Stmt := top 28
abbrev sPick : Stmt := top 29
structure Bt (mg : Str → Option Value) : Prop where
  len : mg "len" = none
  int : mg "int" = none
  range : mg "range" = none
  max : mg "max" = none
/-! ### values that are ints -/
theorem ev_int {σ : L2.St} {H : Hp} {te : TE} {i : Int} (h : Ev te σ H (.int i)) : Ev (tCB (fun xs H Q => (∃ i, xs = [V.int i] ∧ Q (.int i) H) ∨ ∃ k, xs = [V.bl k] ∧ Q (.int (if k then 1 else 0)) H) (tCons te tNil)) σ H (.int i) := fun H1 e Q q =>
  h H1 e _ fun H2 e2 => .inl ⟨i, rfl, q H2 e2⟩
theorem ev_max {σ : L2.St} {H : Hp} {ta tb : TE} {i j : Int} (h : Ev ta σ H (.int i)) (h2 : Ev tb σ H (.int j)) : Ev (tCB (fun xs H Q => ∃ i j, xs = [V.int i, .int j] ∧ Q (.int (if j > i then j else i)) H) (tCons ta (tCons tb tNil))) σ H (.int (if j > i then j else i)) := fun H1 e Q q =>
  h H1 e _ fun H2 e2 => h2 H2 (e.trans e2) _ fun H3 e3 => ⟨i, j, rfl, q H3 (e2.trans e3)⟩
theorem at_rep {n : Nat} {v : V} {k : Nat} (h : k < n) : atI (List.replicate n v) (k : Int) = some v := by
  unfold atI
  rw [ixN_nat (by rw [List.length_replicate]; exact h)]
  simp [h]
/-- numbers from lo to hi -/
def Rg (lo hi : Int) : PV := fun x _ => ∃ n, x = .int n ∧ lo ≤ n ∧ n ≤ hi
def spNumbers : Sp := fun vs H Q _ => ∃ (c salt m : Int) (sz : Addr), vs = [.int c, .int salt, .ref sz] ∧ 0 ≤ salt ∧ salt ≤ 100 ∧ 0 ≤ m ∧ m ≤ 1000 ∧ H sz = some (.lst (List.replicate m.toNat (.int 420))) ∧
  ∀ (p : Addr) (H' : Hp) (ns : List Int), Ex H H' → (∀ n ∈ ns, 0 ≤ n) → ns.length ≤ 1000 → H' p = some (.lst (ns.map V.int)) → H p = none → Q (.ref p) H'
section
variable {P : Program} {w : World} {K : PySem.W.Frag} {mg : Str → Option Value} {base : Heap}
theorem scNumbers : FnScope ["cell", "salt", "sizes", "whole", "left", "result", "k", "one"] ["cell", "salt", "sizes"] (defScope sNumbers) := ⟨rfl, rfl, rfl, by decide +kernel, rfl, by decide +kernel, by decide +kernel⟩
theorem ok_numbers {f : Addr} {fd : FuncData} (F : Fun K "_law_numbers" "_law_numbers" sNumbers f fd) (B : Bt mg) : FnOk P w K mg base CX0 1 f fd ["cell", "salt", "sizes"] spNumbers := by
  refine F.ok scNumbers (fun vs H Q E h => ?_) (fun cdv A outer s H vs Q E hr h => ?_)
  · obtain ⟨c, salt, m, sz, rfl, _⟩ := h
    rfl
  · obtain ⟨c, salt, m, sz, rfl, s0, s1, m0, m1, hz, q⟩ := h
    have nd := scNumbers.nd
    refine ⟨_, pss_cons (ps_set (i := 3) nd rfl (Or.inl rfl) (pe_callB (call_max2 rfl) (by rfl) B.max (by decide +kernel) (pa_cons (pe_callTy call_int1 (by rfl) B.int boot_int (pa_cons (pv 0) pa_nil)) (pa_cons (pe_callTy call_int1 (by rfl) B.int boot_int (pa_cons (pe_op op_sub (pe_un un_neg pe_int) (pv 0)) pa_nil)) pa_nil))))
      (pss_cons (ps_set (i := 4) nd rfl (Or.inl rfl) (pv 3))
      (pss_cons (ps_set (i := 5) nd rfl (Or.inl rfl) (pe_lst pa_nil))
      (pss_cons (ps_for PassesOwn.never rfl (pi_range1 (by rfl) B.range (pa_cons (pe_callB call_len_seq (by rfl) B.len PySem.boot_len (pa_cons (pv 2) pa_nil)) pa_nil)) (pg_name (i := 6) nd rfl (Or.inl rfl))
        (pss_one (ps_if (PW.pt (pw_and (pt_cmpR op_ge (pv 3) (pe_op op_pow pe_int pe_int) (nomark _)) (pw_and1 (pt_cmpR op_gt (pv 4) pe_int (nomark _)))))
          (pss_cons (ps_expr (pe_bm PySem.F.plainAttrs_list PySem.F.slot_list_append PySem.F.type_list_append mt_append (pv 5) (pa_cons (pe_op op_mod (pe_callTy call_int1 (by rfl) B.int boot_int (pa_cons (pv 4) pa_nil)) (pe_ix ix_list (pv 2) (pv 6) (fun _ _ => rfl))) pa_nil)))
          (pss_one (ps_set (i := 4) nd rfl (Or.inl rfl) (pe_op op_fdiv (pv 4) (pe_ix ix_list (pv 2) (pv 6) (fun _ _ => rfl))))))
          (pss_cons (ps_set (i := 7) nd rfl (Or.inl rfl) (pe_op op_pow (pe_op op_add (pe_op op_add (pe_op op_mod (pe_callTy call_int1 (by rfl) B.int boot_int (pa_cons (pv 3) pa_nil)) pe_int) (pe_op op_mul pe_int (pv 1))) pe_int) pe_int))
          (pss_cons (ps_set (i := 7) nd rfl (Or.inl rfl) (pe_op op_mul (pe_op op_add (pe_op op_mod (pe_callTy call_int1 (by rfl) B.int boot_int (pa_cons (pv 7) pa_nil)) pe_int) (pe_op op_mul pe_int (pe_op op_add (pv 6) pe_int))) (pe_op op_add (pv 6) pe_int)))
          (pss_cons (ps_set (i := 7) nd rfl (Or.inl rfl) (pe_op op_mod (pe_callTy call_int1 (by rfl) B.int boot_int (pa_cons (pv 7) pa_nil)) pe_int))
          (pss_cons (ps_set (i := 7) nd rfl (Or.inl rfl) (pe_op op_mul (pe_op op_mod (pe_callTy call_int1 (by rfl) B.int boot_int (pa_cons (pe_op op_pow (pv 7) pe_int) pa_nil)) pe_int) pe_int))
          (pss_cons (ps_set (i := 7) nd rfl (Or.inl rfl) (pe_op op_mod (pe_callTy call_int1 (by rfl) B.int boot_int (pa_cons (pv 7) pa_nil)) pe_int))
          (pss_one (ps_expr (pe_bm PySem.F.plainAttrs_list PySem.F.slot_list_append PySem.F.type_list_append mt_append (pv 5) (pa_cons (pe_op op_mod (pe_callTy call_int1 (by rfl) B.int boot_int (pa_cons (pe_op op_fdiv (pv 7) pe_int) pa_nil)) (pe_ix ix_list (pv 2) (pv 6) (fun _ _ => rfl))) pa_nil))))))))))))
      (pss_one (ps_ret (pv 5)))))), ?_⟩
    refine q_asg (ev_max (ev_int (ev_var rfl)) (ev_int (ev_op (ev_un ev_c ru_neg) (ev_var rfl) rv_I0))) fun H1 e1 => ?_
    generalize (if -1 - c > c then -1 - c else c) = wh
    refine q_asg (ev_var rfl) fun H2 e2 => ?_
    refine q_asgL (el_lst ea_nil (by decide)) fun r H3 hr3 e3 hl3 => ?_
    have hz3 : H3 sz = some (.lst (List.replicate m.toNat (.int 420))) := e3 _ _ (e2 _ _ (e1 _ _ hz))
    have fr : H r = none := fresh_back (e1.trans e2) hr3
    have up : Ex H H3 := e1.trans (e2.trans e3)
    refine q_forR1 (n := m) (ea_cons (fun H4 e4 Q4 q4 => ⟨_, rfl, sz, _, rfl, .inl (sq_of (e4 _ _ hz3)), by rw [List.length_replicate, show ((m.toNat : Nat) : Int) = m from by omega]; exact q4 H4 (Ex.refl _)⟩) ea_nil) (by omega)
      (fun i σ' H' => ∃ (l : Int) (ns : List Int) (k o : Option V), σ' = [some (.int c), some (.int salt), some (.ref sz), some (.int wh), some (.int l), some (.ref r), k, o] ∧ Ex H H' ∧ H' r = some (.lst (ns.map V.int)) ∧ ns.length = i ∧ ∀ n ∈ ns, 0 ≤ n)
      (fun H4 e4 => ⟨_, [], _, _, rfl, up.trans e4, e4 _ _ hl3, rfl, fun _ h => nomatch h⟩) ?turn ?after
    case after =>
      rintro σ' H' ⟨l, ns, k, o, rfl, ex, hl, hn, hp⟩
      exact ⟨_, rfl, q r H' ns ex hp (by omega) hl fr⟩
    case turn =>
      rintro i σ' H' hi ⟨l, ns, k, o, rfl, ex, hl, hn, hp⟩
      have hz' := ex _ _ hz
      have im : i < m.toNat := by omega
      have sizes : ∀ (σ2 : L2.St) (H4 : Hp), Ex H' H4 → σ2[2]? = some (some (.ref sz)) → σ2[6]? = some (some (V.int (i : Int))) → Ev (tOp (rIxL K) (tVar 2) (tVar 6)) σ2 H4 (.int 420) := fun σ2 H4 e h2 h6 => ev_op (ev_var h2) (ev_var h6) (rv_ixL (sq_of (e _ _ hz')) (at_rep im))
      have grow : ∀ {H4 : Hp} {n : Int}, Ex H' H4 → 0 ≤ n → Ex H (upd H4 r (.lst ((ns.map V.int) ++ [.int n]))) ∧ (upd H4 r (.lst ((ns.map V.int) ++ [.int n]))) r = some (.lst ((ns ++ [n]).map V.int)) ∧ (ns ++ [n]).length = i + 1 ∧ ∀ x ∈ ns ++ [n], 0 ≤ x := fun {H4 n} e h0 => by
        refine ⟨(ex.trans e).mut fr, by rw [upd_same, List.map_append]; rfl, by simp [hn], fun x hx => ?_⟩
        rcases List.mem_append.mp hx with hx | hx
        · exact hp x hx
        · rw [List.mem_singleton.mp hx]; exact h0
      refine s_if (et_and (et_test (ev_op (ev_var rfl) (ev_op ev_c ev_c (rv_I ⟨by decide, by decide, by decide⟩)) rv_I0)) fun _ => et_test (ev_op (ev_var rfl) ev_c rv_I0)) (fun _ H4 e4 => ?_) fun _ H4 e4 => ?_
      · refine q_app (e4 _ _ hl) (ev_var rfl) (ev_op (ev_int (ev_var rfl)) (sizes _ _ e4 rfl rfl) (rv_I (by decide))) (by rw [List.length_map]; omega) fun H5 e5 => ?_
        have g := grow (n := l % 420) (e4.trans e5) (Int.emod_nonneg _ (by decide))
        have hz5 : (upd H5 r (.lst ((ns.map V.int) ++ [.int (l % 420)]))) sz = some (.lst (List.replicate m.toNat (.int 420))) := g.1 _ _ hz
        refine s_asg (ev_op (ev_var rfl) (ev_op (ev_var rfl) (ev_var rfl) (rv_ixL (sq_of hz5) (at_rep im))) (rv_I ⟨by decide, by decide⟩)) fun H6 e6 => ?_
        exact ⟨_, _, _, _, rfl, g.1.trans e6, e6 _ _ g.2.1, g.2.2⟩
      · have w0 : 0 ≤ wh % 2147483629 := Int.emod_nonneg _ (by decide)
        have w1 : wh % 2147483629 < 2147483629 := Int.emod_lt_of_pos _ (by decide)
        refine q_asg (ev_op (ev_op (ev_op (ev_op (ev_int (ev_var rfl)) ev_c (rv_I (by decide))) (ev_op ev_c (ev_var rfl) (rv_I (.inl ⟨by decide, by decide⟩))) rv_I0) ev_c rv_I0) ev_c (rv_I ⟨by decide, by decide, by omega⟩)) fun H5 e5 => ?_
        generalize (wh % 2147483629 + 7919 * salt + 1) ^ (3 : Int).toNat = o1
        have a0 : 0 ≤ o1 % 2147483647 := Int.emod_nonneg _ (by decide)
        have a1 : o1 % 2147483647 < 2147483647 := Int.emod_lt_of_pos _ (by decide)
        refine q_asg (ev_op (ev_op (ev_op (ev_int (ev_var rfl)) ev_c (rv_I (by decide))) (ev_op ev_c (ev_op (ev_var rfl) ev_c rv_I0) (rv_I (.inl ⟨by decide, by decide⟩))) rv_I0) (ev_op (ev_var rfl) ev_c rv_I0) (rv_I (.inl ⟨by omega, by omega⟩))) fun H6 e6 => ?_
        generalize (o1 % 2147483647 + 104729 * ((i : Int) + 1)) * ((i : Int) + 3) = o2
        refine q_asg (ev_op (ev_int (ev_var rfl)) ev_c (rv_I (by decide))) fun H7 e7 => ?_
        have b0 : 0 ≤ o2 % 2147483629 := Int.emod_nonneg _ (by decide)
        have b1 : o2 % 2147483629 < 2147483629 := Int.emod_lt_of_pos _ (by decide)
        generalize o2 % 2147483629 = o3 at b0 b1 ⊢
        refine q_asg (ev_op (ev_op (ev_int (ev_op (ev_var rfl) ev_c (rv_I ⟨by decide, by decide, by omega⟩))) ev_c (rv_I (by decide))) ev_c (rv_I (.inr ⟨by decide, by decide⟩))) fun H8 e8 => ?_
        generalize o3 ^ (5 : Int).toNat % 2147483647 * 48271 = o4
        refine q_asg (ev_op (ev_int (ev_var rfl)) ev_c (rv_I (by decide))) fun H9 e9 => ?_
        generalize o4 % 2147483629 = o5
        have e49 : Ex H' H9 := e4.trans (e5.trans (e6.trans (e7.trans (e8.trans e9))))
        refine s_app (e49 _ _ hl) (ev_var rfl) (ev_op (ev_int (ev_op (ev_var rfl) ev_c (rv_I ⟨by decide, by decide⟩))) (sizes _ _ e49 rfl rfl) (rv_I (by decide))) (by rw [List.length_map]; omega) fun H10 e10 => ?_
        have g := grow (n := o5 / 16 % 420) (e49.trans e10) (Int.emod_nonneg _ (by decide))
        exact ⟨_, _, _, _, rfl, g.1, g.2.1, g.2.2⟩
/-! ### a pool is made, drawn from, picked by -/
def spPool (K : PySem.W.Frag) : Sp := fun vs H Q _ => ∃ c salt m : Int, vs = [.int c, .int salt, .int m] ∧ 0 ≤ salt ∧ salt ≤ 100 ∧ 0 ≤ m ∧ m ≤ 1000 ∧ ∀ x H', Ex H H' → PoolV K x H' → Q x H'
def spDraw (K : PySem.W.Frag) : Sp := fun vs H Q _ => ∃ (x : V) (m : Int), vs = [x, .int m] ∧ PoolV K x H ∧ 0 < m ∧ ∀ n H', 0 ≤ n → n < m → Ex H H' → Q (.int n) H'
def spPick (K : PySem.W.Frag) : Sp := fun vs H Q _ => ∃ (x : V) (l : Addr) (xs : List V), vs = [x, .ref l] ∧ PoolV K x H ∧ SqL K H l xs ∧ xs ≠ [] ∧ ∀ (v : V) (H' : Hp) (i : Nat), xs[i]? = some v → Ex H H' → Q v H'
theorem scPool : FnScope ["cell", "salt", "many"] ["cell", "salt", "many"] (defScope sPool) := ⟨rfl, rfl, rfl, by decide +kernel, rfl, by decide +kernel, by decide +kernel⟩
theorem ok_pool {f fN : Addr} {fd fdN : FuncData} (F : Fun K "_law_pool" "_law_pool" sPool f fd) (GN : FnOk P w K mg base CX0 1 fN fdN ["cell", "salt", "sizes"] spNumbers) (mN : mg "_law_numbers" = some (.ref fN)) (kN : PySem.W.keepIn K (.ref fN) = true) (bN : L2.Binds K fdN ["cell", "salt", "sizes"] []) :
    FnOk P w K mg base CX0 2 f fd ["cell", "salt", "many"] (spPool K) := by
  refine F.ok scPool (fun vs H Q E h => ?_) (fun cdv A outer s H vs Q E hr h => ?_)
  · obtain ⟨c, salt, m, rfl, _⟩ := h
    rfl
  · obtain ⟨c, salt, m, rfl, s0, s1, m0, m1, q⟩ := h
    refine ⟨_, pss_one (ps_ret (pe_recast (pe_lst (pa_cons (pe_call GN hr (by rfl) mN kN bN .nil pass0 (pa_cons (pv 0) (pa_cons (pv 1) (pa_cons (pe_op op_rep (pe_lst (pa_cons pe_int pa_nil)) (pv 2)) pa_nil)))) (pa_cons pe_int pa_nil))))), ?_⟩
    refine ⟨_, rfl, _, rfl, by decide, fun l hl => ⟨_, rfl, l, m, _, rfl, rfl, upd_same, by omega, by omega, by show 1 * m.toNat ≤ sizeLine; rw [Nat.one_mul]; exact sz_of (by omega), fun z hz => ?_⟩⟩
    refine ⟨c, salt, m, z, rfl, s0, s1, m0, m1, by rw [upd_same]; simp, fun p H' ns ex hp hn hl2 hf => ?_⟩
    refine ⟨by show 2 ≤ sizeLine; decide, fun r hr2 => ⟨r, p, 0, rfl, by decide, upd_same, ?_⟩⟩
    have up0 : Ex H H' := (Ex.new hl).trans ((Ex.new hz).trans ex)
    have eq2 : upd (upd H' r (.lst [.ref p, .int 0])) r (poolO r p) = upd H' r (poolO r p) := upd_upd
    have np : p ≠ r := ne_of_none hl2 hr2
    refine q (.ref r) _ (by rw [eq2]; exact up0.trans (Ex.new hr2)) ⟨r, p, rfl, by rw [eq2]; exact upd_same, ns, hp, hn, by rw [eq2, upd_ne np]; exact hl2⟩
theorem scDraw : FnScope ["pool", "many", "at"] ["pool", "many"] (defScope sDraw) := ⟨rfl, rfl, rfl, by decide +kernel, rfl, by decide +kernel, by decide +kernel⟩
theorem ok_draw {f : Addr} {fd : FuncData} (F : Fun K "_law_draw" "_law_draw" sDraw f fd) (B : Bt mg) : FnOk P w K mg base CX0 1 f fd ["pool", "many"] (spDraw K) := by
  refine F.ok scDraw (fun vs H Q E h => ?_) (fun cdv A outer s H vs Q E hr h => ?_)
  · obtain ⟨x, m, rfl, _⟩ := h
    rfl
  · obtain ⟨x, m, rfl, ⟨p, a, rfl, hp, ns, hn, hl, ha⟩, m0, q⟩ := h
    refine ⟨_, pss_cons (ps_set (i := 2) scDraw.nd rfl (Or.inl rfl) (pe_ix ix_pool (pv 0) pe_int (fun _ _ => rfl)))
      (pss_cons (ps_asg (pe_op op_add (pv 2) pe_int) (pg_sub (pv 0) pe_int set_pool))
      (pss_one (ps_ret (pe_ifExp (pt_cmpR op_lt (pv 2) (pe_callB call_len_seq (by rfl) B.len PySem.boot_len (pa_cons (pe_ix ix_pool (pv 0) pe_int (fun _ _ => rfl)) pa_nil)) (nomark _))
        (pe_op op_mod (pe_callTy call_int1 (by rfl) B.int boot_int (pa_cons (pe_ix ix_list (pe_ix ix_pool (pv 0) pe_int (fun _ _ => rfl)) (pv 2) (fun _ _ => rfl)) pa_nil)) (pv 1)) pe_int)))), ?_⟩
    refine ⟨_, rfl, p, a, rfl, hp, .inr ⟨rfl, fun i i0 => ?_⟩⟩
    refine ⟨_, rfl, _, _, rfl, rfl, _, rfl, p, a, i + 1, rfl, rfl, rfl, by omega, hp, ?_⟩
    refine ⟨_, rfl, _, rfl, p, a, rfl, hp, .inl ⟨rfl, a, _, rfl, .inl (sq_of ha), ?_⟩⟩
    refine ⟨_, _, rfl, rfl, _, rfl, ?_⟩
    refine ite2 (fun c => ?_) fun _ => q 0 H (by decide) m0 (Ex.refl _)
    have c' : i < ((ns.map V.int).length : Int) := of_decide_eq_true c
    obtain ⟨j, rfl⟩ : ∃ j : Nat, i = (j : Int) := ⟨i.toNat, by omega⟩
    have jl : j < ns.length := by rw [List.length_map] at c'; omega
    refine ⟨_, rfl, p, a, rfl, hp, .inl ⟨rfl, _, rfl, a, ns.map V.int, (j : Int), V.int (ns[j]), rfl, rfl, sq_of ha, ?_, .inl ⟨_, rfl, _, rfl, _, _, rfl, rfl, m0, q _ H (Int.emod_nonneg _ (by omega)) (Int.emod_lt_of_pos _ m0) (Ex.refl _)⟩⟩⟩
    unfold atI
    rw [ixN_nat (by rw [List.length_map]; exact jl)]
    simp [jl]
theorem scPick : FnScope ["pool", "some"] ["pool", "some"] (defScope sPick) := ⟨rfl, rfl, rfl, by decide +kernel, rfl, by decide +kernel, by decide +kernel⟩
theorem ok_pick {f fD : Addr} {fd fdD : FuncData} (F : Fun K "_law_pick" "_law_pick" sPick f fd) (B : Bt mg) (GD : FnOk P w K mg base CX0 1 fD fdD ["pool", "many"] (spDraw K)) (mD : mg "_law_draw" = some (.ref fD)) (kD : PySem.W.keepIn K (.ref fD) = true) (bD : L2.Binds K fdD ["pool", "many"] []) :
    FnOk P w K mg base CX0 2 f fd ["pool", "some"] (spPick K) := by
  refine F.ok scPick (fun vs H Q E h => ?_) (fun cdv A outer s H vs Q E hr h => ?_)
  · obtain ⟨x, l, xs, rfl, _⟩ := h
    rfl
  · obtain ⟨x, l, xs, rfl, hp, hl, ne, q⟩ := h
    refine ⟨_, pss_one (ps_ret (pe_ix ix_list (pv 1) (pe_call GD hr (by rfl) mD kD bD .nil pass0 (pa_cons (pv 0) (pa_cons (pe_callB call_len_seq (by rfl) B.len PySem.boot_len (pa_cons (pv 1) pa_nil)) pa_nil))) (fun _ _ => rfl))), ?_⟩
    have lp : 0 < xs.length := List.length_pos_iff.mpr ne
    refine ⟨_, rfl, _, rfl, _, rfl, l, xs, rfl, .inl hl, x, xs.length, rfl, hp, by omega, fun n H' n0 n1 ex => ?_⟩
    obtain ⟨j, rfl⟩ : ∃ j : Nat, n = (j : Int) := ⟨n.toNat, by omega⟩
    have jl : j < xs.length := by omega
    refine ⟨l, xs, (j : Int), xs[j], rfl, rfl, ex_l ex hl, ?_, q _ H' j (List.getElem?_eq_getElem jl) ex⟩
    unfold atI
    rw [ixN_nat jl]
    exact List.getElem?_eq_getElem jl
end
end Lw
/-! {k: v for target in iter if ..}: the keys are tuples. -/
namespace Dct
open PySem PySem.Spec PyProof.Rows L2 Evl Pd
section
variable {X : Cx} {pins : List (Addr × Obj)} {σ : L2.St} {H H' : Hp} {s : Shared}
/-- what a comprehension stores -/
theorem store_dict {E : Value → Shared → Prop} {a : Addr} {y v : V} {u r : Value} {Q : Unit → Shared → Prop} (hu : X.A.units + 1 < cLine) (I : Inv X pins σ H s) (g : DPut H a y v H') (ry : RelV y u) (rv : RelV v r)
    (h : ∀ s', Inv X pins σ H' s' → Q () s') : wpAny (model X.prog X.w) X.A (dictSet a u r) Q E s := by
  rcases g with ⟨kvs, k, e, ey, l, eH⟩ | ⟨kvs, k, b, e, ey, eb, l, eH⟩
  · subst ey eH
    exact d_dictSet I e l ry rv h
  · subst ey eH
    cases (show u = Value.ref b from ry)
    obtain ⟨z, hd, xs, rel, dd⟩ := dt_of I.hok e
    have small : xs.length ≤ sizeLine := by rw [← Paired.length rel]; exact z
    have grown : (putK kvs k v).length ≤ sizeLine := by have := length_putK kvs k v; omega
    refine wpAny_dictSet_heap (hsz := small) (show (tupleKind (mixKind X.prog X.w)).room X.A from Nat.lt_of_succ_lt hu) (key_of I.hok eb) dd fun h' dd' hs => h _ ?_
    obtain ⟨q, es, ep, hq, h2, h3, h4, _, h5⟩ := dd'
    refine d_write I (by rw [e]; exact True.intro) hs ⟨q, hq⟩ ⟨grown, hd, _, (rel.put k eb rv).keeps fun c ys ec => ?_, q, es, ep, hq, h2, h3, h4, h5⟩
    rw [upd_ne (ne_of ec e (fun z => nomatch z))]
    exact ec
end
/-- the reading: D the new dict, of the kind mk -/
def tDct (mk : HO) (wi : TI) (g : TG) (tt : TT) (tk tv : TE) (vs : List Nat) : TE := fun σ H Q => wi σ H fun J H1 => ∀ D, H1 D = none → ∃ W : Nat → Nat → Hp → Prop, (∃ m, W 0 m (upd H1 D mk)) ∧ ∀ i m H2, W i m H2 →
  (J.stop i H2 ∧ Q (.ref D) H2) ∨ (J.go i H2 ∧ ∃ Nx : Hp → Prop, (∀ H3, Nx H3 → ∃ m', m' < m ∧ W (i + 1) m' H3) ∧ ∀ x H3, J.yld i H2 x H3 → g x (wipe σ vs) H3 fun σ2 H4 => wipe σ2 vs = wipe σ vs ∧ tt σ2 H4 fun b H5 =>
    if b = true then tk σ2 H5 fun y H6 => tv σ2 H6 fun z H7 => ∃ H8, DPut H7 D y z H8 ∧ Nx H8 else Nx H5)
section
variable {X : Cx}
theorem pe_dct {mk : HO} {kx vx tg iter : Expr} {ifs : List Expr} {scope : Scope} {own : List (Str × Nat)} {pos : Pos} {wi : TI} {g : TG} {tt : TT} {tk tv : TE} (hu : X.A.units + 1 < cLine)
    (new : ∀ (P : Program) (w : World) (H : Hp) (h : Heap), sysModules < h.objs.size → ObjOk P w H (h.push { cls := .type "dict", data := .dict #[] }) h.objs.size mk)
    (hc : X.calm = true) (hN : X.N.Nodup) (hi : PI X tg iter wi) (ok : BlkOk X.N X.env.scope scope own)
    (hg : ∀ (s : Shared) (H : Hp) (C : Addr) (cl : List (Str × Addr)) (fp : List Addr), PG (X.blk s H scope (compEnvC scope cl C X.env) fp) tg g)
    (ht : ∀ (s : Shared) (H : Hp) (C : Addr) (cl : List (Str × Addr)) (fp : List Addr), PTs (X.blk s H scope (compEnvC scope cl C X.env) fp) ifs tt)
    (hk : ∀ (s : Shared) (H : Hp) (C : Addr) (cl : List (Str × Addr)) (fp : List Addr), PE (X.blk s H scope (compEnvC scope cl C X.env) fp) kx tk)
    (he : ∀ (s : Shared) (H : Hp) (C : Addr) (cl : List (Str × Addr)) (fp : List Addr), PE (X.blk s H scope (compEnvC scope cl C X.env) fp) vx tv) (hs : ∀ x, foldedSetIterable iter X.env x = pure x := by intro _; rfl) :
    PE X (.DictComp kx vx [⟨tg, iter, ifs, 0⟩] scope pos) (tDct mk wi g tt tk tv (own.map (·.2))) := by
  refine ⟨fun pins s σ H Q I h => ?_⟩
  rw [arm_eval_DictComp]
  have clo : ∀ y ∈ scope.names, y.2 = .free → ∃ c, X.env.cells.lookup y.1 = some c := fun y hy e => (ok.free y hy e).elim (fun k => I.ok.has _ (.inl k)) fun k => I.ok.has _ (.inr k)
  refine wpAny_comprehension_free rfl hs (closure_ok clo) ok.kind (fun y hy e => by rw [ok.uniq y hy, e]) (thn (hi.run pins s σ H _ I h) fun _ s1 hx => thn hx fun _ s2 ⟨it, fp, tn, J, Ha, e, I2, T, st2, f2, q⟩ => ?_)
  subst e
  refine wpAny_newObj_type (newEnv_comp ?_)
  -- D: the dict, laid at the heap's end; CL: the block's frame behind it
  obtain ⟨D, hD⟩ : ∃ D, D = s2.heap.objs.size := ⟨_, rfl⟩
  obtain ⟨s3, hs3⟩ : ∃ s3 : Shared, s3 = { s2 with heap := s2.heap.push { cls := .type "dict", data := .dict #[] } } := ⟨_, rfl⟩
  rw [← hs3, ← hD]
  have nD : Ha D = none := I2.hok.fresh (Nat.le_of_eq hD.symm)
  obtain ⟨W, ⟨m0, w0⟩, turn⟩ := q D nD
  have hp3 : s3.heap = s2.heap.push { cls := .type "dict", data := .dict #[] } := by rw [hs3]
  have kept3 : ∀ b o, s2.heap.get? b = some o → s3.heap.get? b = some o := fun b o z => by rw [hp3]; exact Heap.get?_push_of_some _ z
  have I3 : Inv X pins σ (upd Ha D mk) s3 := by
    have z := I2.laid (a := D) (o := mk) (t' := s2.toks) (h' := s2.heap.push { cls := .type "dict", data := .dict #[] }) (fun b o z => Heap.get?_push_of_some _ z) (Nat.le_of_eq hD.symm) (by rw [hD]; exact new _ _ _ _ I2.big)
    rw [hs3]
    exact z
  have low : ∀ b ∈ fp, b < s2.heap.objs.size := fun b hb => let ⟨_, z, _⟩ := T.obj _ _ st2 b hb; Heap.lt_size z
  have f3 : ∀ b ∈ fp, FpOk X pins (upd Ha D mk) b ∧ b < s3.heap.objs.size := fun b hb => by
    have l := low b hb
    have ne : b ≠ D := by rw [hD]; exact Nat.ne_of_lt l
    exact ⟨⟨by rw [upd_ne ne]; exact (f2 b hb).1, (f2 b hb).2⟩, by rw [hp3, Heap.size_push]; exact Nat.lt_succ_of_lt l⟩
  have st3 : tn 0 s3.heap := T.keep _ _ _ st2 fun b _ o z => kept3 b o z
  have I4 := block_start I3 ok hN f3
  show codeAny _ _ (.compStart (.DictComp kx vx [⟨tg, iter, ifs, 0⟩] scope pos) 0 (.ref it) (.ref D) (compEnvC scope (cellsFrom (s3.heap.objs.size + 1) scope.names (cloFrom X.env.cells scope.names [])) s3.heap.objs.size X.env)) _ _
  generalize hcl : cellsFrom (s3.heap.objs.size + 1) scope.names (cloFrom X.env.cells scope.names []) = cl at I4 ⊢
  have pg := hg s3 (upd Ha D mk) s3.heap.objs.size cl fp
  have pt := ht s3 (upd Ha D mk) s3.heap.objs.size cl fp
  have pk := hk s3 (upd Ha D mk) s3.heap.objs.size cl fp
  have pe := he s3 (upd Ha D mk) s3.heap.objs.size cl fp
  have nfp : ∀ b ∈ fp, (upd Ha D mk) b = none := fun b hb => (f3 b hb).1.1
  have cL : (compEnvC scope cl s3.heap.objs.size X.env).locals = s3.heap.objs.size := rfl
  generalize compEnvC scope cl s3.heap.objs.size X.env = ce at I4 pg pt pk pe cL ⊢
  generalize hHb : upd Ha D mk = Hb at I3 I4 pg pt pk pe w0 nfp f3
  generalize hs4 : ({ s3 with heap := pushCells (s3.heap.push { cls := .type "dict", data := .dict #[] }) scope.names } : Shared) = s4 at I4 ⊢
  have st4 : tn 0 s4.heap := T.keep _ _ _ st3 fun b _ o z => by rw [← hs4]; exact pushCells_keeps _ _ _ _ (Heap.get?_push_of_some _ z)
  have stat : ∀ {σ' : L2.St} {H' : Hp} {s' : Shared}, Inv (X.blk s3 Hb scope ce fp) [] σ' H' s' → (∀ b ∈ fp, H' b = none) → ∀ b ∈ fp, FpOk (X.blk s3 Hb scope ce fp) [] H' b := fun {σ' H' s'} J' hn b hb =>
    ⟨hn b hb, (J'.ok.exf b hb).1, J'.ok.exfs b hb, .inl hb, fun x c z => (J'.ok.exf b hb).2 x c z, fun p hp => absurd (show p ∈ ([] : List (Addr × Obj)) ++ [] from hp) (by simp)⟩
  refine codeAny_compStart_dict ?loop (T.self X.A 0 _ _ _ st4 ?loop)
  refine compLoop_anyD (fun n s' => ∃ i H', Inv (X.blk s3 Hb scope ce fp) [] (wipe σ (own.map (·.2))) H' s' ∧ tn i s'.heap ∧ (∀ b ∈ fp, H' b = none) ∧ W i n H') (fun n s5 ⟨i, H5, I5, st5, n5, w5⟩ => ?_) m0 ⟨0, Hb, I4, st4, nfp, w0⟩
  rcases turn i n H5 w5 with ⟨stop, qq⟩ | ⟨go, Nx, hNx, step⟩
  · refine thnF (T.done (X.blk s3 Hb scope ce fp) rfl rfl rfl hc i [] s5 _ H5 (fun _ _ => False) I5 (stat I5 n5) st5 stop) fun r s6 ⟨hr, I6⟩ => ?_
    subst hr
    have I7 : Inv X pins σ H5 s6 := I3.call' (ch := fp) I6.os I6.base I6.hok I6.bare fun b hb => ⟨(f3 b hb).1.2.2.2.1, (f3 b hb).1.2.1, (f3 b hb).1.2.2.2.2.1, (f3 b hb).1.2.2.2.2.2⟩
    have nC : H5 s3.heap.objs.size = none := by
      have z : H5 ce.locals = none := I6.free
      rw [cL] at z
      exact z
    obtain ⟨m, hn, _⟩ := I6.loc
    have hn' : s6.heap.Ns s3.heap.objs.size m := by
      have z : s6.heap.Ns ce.locals m := hn
      rw [cL] at z
      exact z
    obtain ⟨g0, g1, g2, g3, g4, g5⟩ := I3.fpOk (b := s3.heap.objs.size) (H' := H5) (Nat.le_refl _) nC
    exact ⟨m, hn', fun h9 sb => ⟨.ref D, H5, I7.turned (t' := s6.toks) (fun b o hb z => (sb.2 b hb).trans z) g0 g1 g3 g4 g5, rfl, qq⟩⟩
  · refine thnF (T.item (X.blk s3 Hb scope ce fp) rfl rfl rfl hc i [] s5 _ H5 (fun _ _ => False) I5 (stat I5 n5) st5 go) fun r s6 ⟨u, hr, h6⟩ => ?_
    subst hr
    refine thnF h6 fun _ s7 ⟨x, H7, I7, r7, y7, st7, n7⟩ => ?_
    have I7' := I7.pinned (stat I7 n7) (T.obj _ _ st7)
    refine thnF (pg.run _ s7 _ H7 x u _ I7' r7 (step x H7 y7)) fun _ s8 ⟨σ8, H8, I8, hw8, q8⟩ => ?_
    refine thnF (pt.run _ s8 σ8 H8 _ I8 q8) fun b s9 ⟨H9, I9, q9⟩ => ?_
    have fin : ∀ {s' : Shared} {H' : Hp}, Inv (X.blk s3 Hb scope ce fp) ([] ++ pinsAt fp s7.heap) σ8 H' s' → Nx H' → ∃ m, m < n ∧ ∃ i H', Inv (X.blk s3 Hb scope ce fp) [] (wipe σ (own.map (·.2))) H' s' ∧ tn i s'.heap ∧ (∀ b ∈ fp, H' b = none) ∧ W i m H' := fun {s' H'} J' nx => by
      obtain ⟨m', hm, w'⟩ := hNx H' nx
      have still : ∀ b ∈ fp, ∀ o, s7.heap.get? b = some o → s'.heap.get? b = some o ∧ H' b = none := fun b hb o z =>
        let y := J'.pin (b, o) (List.mem_append_right _ (List.mem_append_right _ (mem_pinsAt hb z)))
        ⟨y.1, y.2.1⟩
      have len : (wipe σ (own.map (·.2))).length = σ8.length := by rw [← hw8, wipe_length]
      refine ⟨m', hm, i + 1, H', (J'.unpinned (pins := [])).weak len (fun j v z => ?_), T.keep _ _ _ st7 fun b hb o z => (still b hb o z).1, fun b hb => ?_, w'⟩
      · rw [← hw8] at z
        exact (wipe_some z).1
      · obtain ⟨o, z, _⟩ := T.obj _ _ st7 b hb
        exact (still b hb o z).2
    cases b with
    | false =>
      simp only [Bool.false_eq_true, if_false] at q9 ⊢
      exact fin I9 q9
    | true =>
      simp only [if_true] at q9 ⊢
      refine thnF (pk.run _ s9 σ8 H9 _ I9 q9) fun _ s10 ⟨yk, H10, I10, r10, q10⟩ => thnF (pe.run _ s10 σ8 H10 _ I10 q10) fun _ s11 ⟨yv, H11, I11, r11, H12, put, nx⟩ => ?_
      exact store_dict (X := X.blk s3 Hb scope ce fp) hu I11 put r10 r11 fun s12 I12 => fin I12 nx
end
end Dct
/-! == of two dicts whose keys are tuples and whose values are all True. -/
namespace EqT
open PySem PySem.W PySem.Calls PyProof.Rows PySem.Spec
section
variable {prog : Program} {w : World} {K : Type} [DecidableEq K] {knd : HeapKind prog w K} {A : Around} {E : Value → Shared → Prop} {s : Shared}
/-- each key of the one is a key of the other -/
def allIn (xs ys : List (K × Addr × Value)) : Bool := xs.all fun x => (atKey ys x.1).isSome
theorem same_pairs {nm : String} {a b : Addr} {xs ys : List (K × Addr × Value)} {Q : Bool → Shared → Prop} (ha : (a == sysModules) = false) (hb : (b == sysModules) = false) (hu : knd.room A) (da : s.heap.DictOfH knd a xs) (db : s.heap.DictOfH knd b ys)
    (ta : ∀ x ∈ xs, x.2.2 = .bool true) (tb : ∀ y ∈ ys, y.2.2 = .bool true) (h : Q (xs.length == ys.length && allIn xs ys) s) : wpAny (model prog w) A (Builtin.Dict.samePairs nm a b) Q E s := by
  obtain ⟨oa, es, ep, hoa, _, hda, hea, hka, _⟩ := id da
  obtain ⟨ob, fs, fp, hob, _, hdb, heb, hkb, ndb⟩ := id db
  have la : es.size = xs.length := size_of_entries hea
  have lb : fs.size = ys.length := size_of_entries heb
  unfold Builtin.Dict.samePairs Builtin.Dict.showsAll
  rw [if_neg (show ¬ (a == sysModules) = true by rw [ha]; exact Bool.false_ne_true), if_neg (show ¬ (b == sysModules) = true by rw [hb]; exact Bool.false_ne_true)]
  refine wpAny_bind (wpAny_pure (wpAny_bind (wpAny_pure (wpAny_bind (wpAny_dictEntries hoa hda ?_)))))
  dsimp only
  refine wpAny_bind (wpAny_dictEntries hob hdb ?_)
  rw [← la, ← lb] at h
  by_cases sz : es.size = fs.size
  case neg =>
    rw [if_pos (by simpa using sz)]
    have no : (es.size == fs.size) = false := by simpa using sz
    rw [no, Bool.false_and] at h
    exact wpAny_bind (wpAny_rule (wpAny_pure h))
  case pos =>
    have h1 : Q (allIn xs ys) s := by simpa [sz] using h
    rw [if_neg (by rw [sz]; simp)]
    refine wpAny_bind (wpAny_dictEpoch hoa hda (wpAny_bind ?_))
    rw [Std.Legacy.Range.forIn_eq_forIn_range']
    simp only [Std.Legacy.Range.size, Nat.sub_zero, Nat.add_sub_cancel, Nat.div_one]
    refine wpAny_forIn_list _ (fun rest q s1 => s1 = s ∧ q = (none, ()) ∧ ∃ i, rest = List.range' i (es.size - i) ∧ i ≤ es.size ∧ allIn xs ys = allIn (xs.drop i) ys) _ ?turn ?done _ _ ⟨rfl, rfl, 0, by simp, Nat.zero_le _, by simp⟩
    case done =>
      rintro q s1 ⟨rfl, rfl, i, hr, hi, hp⟩
      have at_end : i = es.size := by
        rcases Nat.lt_or_ge i es.size with c | c
        · have e : es.size - i = (es.size - (i + 1)) + 1 := by omega
          rw [e, List.range'_succ] at hr
          exact nomatch hr
        · exact Nat.le_antisymm hi c
      refine wpAny_pure ?_
      rw [at_end, la, List.drop_length] at hp
      rw [hp] at h1
      exact h1
    case turn =>
      rintro j rest q s1 ⟨rfl, rfl, i, hr, hi, hp⟩
      have lt : i < es.size := by
        rcases Nat.lt_or_ge i es.size with c | c
        · exact c
        · rw [Nat.sub_eq_zero_of_le c] at hr
          simp at hr
      obtain ⟨rfl, hrest⟩ : j = i ∧ rest = List.range' (i + 1) (es.size - (i + 1)) := by
        have e : es.size - i = (es.size - (i + 1)) + 1 := by omega
        rw [e, List.range'_succ] at hr
        injection hr with r1 r2
        exact ⟨r1, r2⟩
      have ltx : j < xs.length := by rw [← la]; exact lt
      obtain ⟨k, q, v, hx⟩ : ∃ k q v, xs[j] = (k, q, v) := ⟨_, _, _, rfl⟩
      have mem : (k, q, v) ∈ xs := by rw [← hx]; exact List.getElem_mem ltx
      have hv : v = .bool true := ta _ mem
      subst hv
      have hkey : knd.is s1.heap k q := hka _ mem
      have ent : es[j]? = some ⟨knd.hash k, .ref q, .bool true⟩ := by
        rw [entry_at hea j, List.getElem?_eq_getElem ltx, hx]
        rfl
      have dr : xs.drop j = (k, q, .bool true) :: xs.drop (j + 1) := by rw [← hx]; exact List.drop_eq_getElem_cons ltx
      rw [dr] at hp
      refine wpAny_bind (wpAny_dictEntries hoa hda ?_)
      rw [ent]
      show wpAny _ _ (holding [Value.ref q, Value.bool true] _ >>= _) _ _ _
      refine wpAny_bind (wpAny_holding (wpAny_bind (wpAny_dictFind_heap hu hkey hob hdb heb hkb ndb (fun no => ?_) fun f y hf => ?_)))
      · have gone : atKey ys k = none := atKey_none_of_get no
        have r : allIn ((k, q, .bool true) :: xs.drop (j + 1)) ys = false := by simp [allIn, gone]
        rw [hp, r] at h1
        refine wpAny_pure ?_
        show wpAny _ _ (if (!false) = true then _ else _) _ _ _
        rw [if_pos (by decide)]
        exact wpAny_pure (wpAny_pure h1)
      · obtain ⟨q2, v2⟩ := y
        have here : atKey ys k = some (q2, v2) := atKey_of_get ndb hf
        have hv2 : v2 = .bool true := tb (k, q2, v2) (List.mem_of_getElem? hf)
        subst hv2
        have r : allIn ((k, q, .bool true) :: xs.drop (j + 1)) ys = allIn (xs.drop (j + 1)) ys := by simp [allIn, here]
        have ent2 : fs[f]? = some ⟨knd.hash k, .ref q2, .bool true⟩ := by
          rw [entry_at heb f, hf]
          rfl
        refine wpAny_bind (wpAny_dictEntries hob hdb ?_)
        rw [ent2]
        refine wpAny_holding ((SeqAt.EqAt.bool_bool true true) prog w _ _ ?_)
        show wpAny _ _ (if (!true) = true then _ else _) _ _ _
        rw [if_neg (by decide)]
        refine wpAny_bind (wpAny_dictEpoch hoa hda ?_)
        rw [if_neg (by simp)]
        exact wpAny_pure ⟨rfl, rfl, j + 1, hrest, lt, by rw [hp, r]⟩
theorem eq_dicts {a b : Addr} {xs ys : List (K × Addr × Value)} {Q : Value → Shared → Prop} (ha : (a == sysModules) = false) (hb : (b == sysModules) = false) (hA : A.units < cLine) (hu : knd.room A.in1) (da : s.heap.DictOfH knd a xs) (db : s.heap.DictOfH knd b ys)
    (ta : ∀ x ∈ xs, x.2.2 = .bool true) (tb : ∀ y ∈ ys, y.2.2 = .bool true) (h : Q (.bool (xs.length == ys.length && allIn xs ys)) s) : wpAny (model prog w) A (richCompare .Eq (.ref a) (.ref b)) Q E s := by
  refine wpAny_richCompare_same_room (op := .Eq) da.typeIs db.typeIs PySem.F.slot_dict_eq (wpAny_call_entry PySem.F.slot_dict_eq da.typeIs PySem.F.entry_dict_eq ?_ (PySem.F.args_dict_eq_2 _ _)) hA
  show wpAny _ _ (Builtin.Dict.dictSlotArgs "__eq__" ⟨[.ref a, .ref b], []⟩ >>= _) _ _ s
  refine wpAny_bind ?_
  unfold Builtin.Dict.dictSlotArgs
  refine wpAny_bind (wpAny_notOrdered_dict da.typeIs ?_)
  show wpAny _ _ (pure (Value.ref a, Value.ref b)) _ _ s
  refine wpAny_pure (wpAny_bind (wpAny_isInstance (T := "dict") db.typeIs PySem.F.sub_dict_dict ?_))
  simp only [Bool.not_true, Bool.false_eq_true, if_false]
  refine wpAny_bind (wpAny_pure (wpAny_bind (wpAny_pure (wpAny_bind (same_pairs ha hb hu da db ta tb ?_)))))
  exact wpAny_pure ⟨_, rfl, (fun x => nomatch x), by simpa using h⟩
theorem allIn_keys (xs ys : List (K × Addr × Value)) : allIn xs ys = (xs.map (·.1)).all fun k => (ys.map (·.1)).any fun j => decide (j = k) := by
  unfold allIn atKey
  rw [List.all_map]
  congr 1
  funext x
  simp only [Function.comp, List.any_map, Option.isSome_map, List.find?_isSome]
  rw [Bool.eq_iff_iff]
  simp [List.any_eq_true]
end
open L2 Evl Pd
/-- the reading: two dicts of tuple keys, all values True -/
def rEqT : R2 := fun x y H Q => ∃ (a b : Addr) (ks ls : List (List Key)), x = .ref a ∧ y = .ref b ∧ H a = some (.dT (ks.map fun k => (k, V.bl true))) ∧ H b = some (.dT (ls.map fun k => (k, V.bl true))) ∧
  Q (.bl (ks.length == ls.length && ks.all fun k => ls.any fun j => decide (j = k))) H
theorem keys_of {H : Hp} {kvs : List (List Key × V)} {xs : List (List Key × Addr × Value)} (r : KT H kvs xs) : kvs.map (·.1) = xs.map (·.1) := by
  unfold KT at r
  induction r with
  | nil => rfl
  | cons h _ ih => rw [List.map_cons, List.map_cons, ih, h.1]
theorem vals_true {H : Hp} {ks : List (List Key)} {xs : List (List Key × Addr × Value)} (r : KT H (ks.map fun k => (k, V.bl true)) xs) : ∀ x ∈ xs, x.2.2 = .bool true := by
  unfold KT at r
  induction ks generalizing xs with
  | nil => cases r; exact fun _ h => nomatch h
  | cons k ks ih =>
    cases r with
    | cons h t =>
      intro x hx
      rcases List.mem_cons.mp hx with rfl | hx
      · exact h.2.2
      · exact ih t x hx
theorem op_eqT {X : Cx} (hu : X.A.units + 1 < cLine) : OpR X (compareOp .Eq) rEqT := by
  intro pins s σ H x y v u Q I rx ry h
  obtain ⟨a, b, ks, ls, rfl, rfl, ea, eb, q⟩ := h
  obtain rfl : v = Value.ref a := rx
  obtain rfl : u = Value.ref b := ry
  obtain ⟨_, ha, xs, ra, da⟩ := dt_of I.hok ea
  obtain ⟨_, hb, ys, rb, db⟩ := dt_of I.hok eb
  have ka : xs.map (·.1) = ks := (keys_of ra).symm.trans (by rw [List.map_map]; exact List.map_id' ks)
  have kb : ys.map (·.1) = ls := (keys_of rb).symm.trans (by rw [List.map_map]; exact List.map_id' ls)
  refine eq_dicts (knd := tupleKind (mixKind X.prog X.w)) ha hb (Nat.lt_of_succ_lt hu) (tupleKind_room_in1 hu) da db (vals_true ra) (vals_true rb) ?_
  rw [allIn_keys, ka, kb, ← List.length_map (f := fun x => x.1) (as := xs), ← List.length_map (f := fun x => x.1) (as := ys), ka, kb]
  exact ⟨.bl _, H, I, rfl, q⟩
end EqT
/-! Defs that are called where no repr is under way: what str(x) of a tuple needs to know. -/
namespace Gd
open PySem PySem.Spec PyProof.Rows L2 Evl Pd
structure FnG (P : Program) (w : World) (K : PySem.W.Frag) (mg : Str → Option Value) (base : Heap) (CX : CXT) (k : Nat) (f : Addr) (fd : FuncData) (ps : List Str) (sp : Sp) : Prop where
  len : ∀ vs H Q E, sp vs H Q E → vs.length = ps.length
  run : ∀ (A : Around) (outer : List Env) (s : Shared) (H : Hp) (args : Args) (us : List Value) (vs : List V) (Q : VK) (E : XK), Room k A → A.guards = some [] → Env0 P w K mg base A outer s H → BindsTo s fd args (ps.zip us) → Vals vs us → sp vs H Q E →
    codeAny (model P w) A (.call (.ref f) args) (CR CX outer P w H s Q E) s
section
variable {P : Program} {w : World} {K : PySem.W.Frag} {mg : Str → Option Value} {base : Heap} {CX : CXT} {k : Nat} {f : Addr} {fd : FuncData} {ps : List Str} {sp : Sp}
theorem FnG.of (F : FnOk P w K mg base CX k f fd ps sp) : FnG P w K mg base CX k f fd ps sp := ⟨F.len, fun A outer s H args us vs Q E hr _ => F.run A outer s H args us vs Q E hr⟩
theorem okG {x qual : Str} {st : Stmt} {N : List Str} (F : Fun K x qual st f fd) (S : FnScope N ps (defScope st)) (len : ∀ vs H Q E, sp vs H Q E → vs.length = ps.length)
    (body : ∀ (cdv : Value) (A : Around) (outer : List Env) (s : Shared) (H : Hp) (vs : List V) (Q : VK) (E : XK), Room k (A.deeper (envOfC qual (defScope st) s.heap.objs.size f cdv)) → (A.deeper (envOfC qual (defScope st) s.heap.objs.size f cdv)).guards = some [] → sp vs H Q E →
      ∃ t, PSs (cxOf CX0 P w K mg base N qual (defScope st) f cdv A outer s H E).nox (defBody st) t ∧ t { nx := fun _ H' => Q .non H', rt := Q } (start N vs) H) : FnG P w K mg base CX0 (k + 1) f fd ps sp := by
  obtain ⟨oc, od, kV, doc, pm, an, cdv, ct, osl, rfl, lk, hcd⟩ := F.ex
  refine ⟨len, fun A outer s H args us vs Q E hr hg e0 hb r hsp => ?_⟩
  have hl := len _ _ _ _ hsp
  have KX : K.In s.heap := e0.mod.kin.keeps fun b o e => (e0.bs b o e).1
  have lim : s.heap.NoLimit := e0.mod.nolimit.keeps fun b o e => (e0.bs b o e).1
  have kinds : ∀ y ∈ ps.zip us, (defScope st).names.lookup y.1 = some .local ∨ ((defScope st).names.lookup y.1 = some .cell ∧ ((cellsFrom (s.heap.objs.size + 1) (defScope st).names []).lookup y.1).isSome = true) := fun ⟨n, v⟩ hy =>
    (S.par n (List.of_mem_zip hy).1).imp id fun q => ⟨q, PySem.W.cellsFrom_some _ _ _ (.inl q)⟩
  refine codeAny_call_function hr.depth (KX _ _ lk) rfl S.co S.gen rfl (PySem.W.codeRec_of KX hcd) (hb _ _ _ _ (wpAny_newFunctionEnv_cells S.kind kinds fun env he s1 x => ?_))
  subst he
  refine ⟨lim.keeps x.toInCall.keep, codeAny_func ?_⟩
  obtain ⟨t, ht, hq⟩ := body cdv A outer s H vs Q E (hr.deeper _) hg hsp
  have I : Inv (cxOf CX0 P w K mg base N qual (defScope st) f cdv A outer s H E) [] (start N vs) H s1 := inv_start S hr.hd e0 hl r x
  refine wpAny_mono (ht.nox.run [] s1 (start N vs) H _ I hq) (fun fl s' hs => ?_) fun e s' hs => hs
  have fin : ∀ {σ' : L2.St} {H' : Hp} {v : V} {u : Value}, Inv (cxOf CX0 P w K mg base N qual (defScope st) f cdv A outer s H E) [] σ' H' s' → RelV v u → Q v H' → CE outer P w H s Q u s' := fun {σ' H' v u} J rv q => ⟨v, H', J.os, J.bare, J.base, J.hok, rv, q⟩
  cases fl with
  | ret u =>
    obtain ⟨v, σ', H', J, rv, q⟩ := hs
    exact fin J rv q
  | next =>
    obtain ⟨σ', H', J, q⟩ := hs
    exact fin (v := V.non) (u := Value.none) J rfl q
  | brk =>
    obtain ⟨_, _, _, q⟩ := hs
    exact False.elim q
  | cont =>
    obtain ⟨_, _, _, q⟩ := hs
    exact False.elim q
end
section
variable {X : Cx} {CX : CXT} {k : Nat} {f C : Addr} {fd : FuncData} {ps : List Str} {sp : Sp} {E : XK} {x m : Str} {p pos apos : Pos} {e o : Expr} {es : List Expr} {ta : TE} {t : TA}
theorem run_fnG {pins : List (Addr × Obj)} {σ : L2.St} {H : Hp} {s : Shared} {Q : VK} {us : List Value} {vs : List V} (F : FnG X.prog X.w X.K X.mg X.base CX k f fd ps sp) (hr : Room k X.A) (hg : X.A.guards = some []) (hb : L2.Binds X.K fd ps []) (hx : Passes CX X E)
    (I : Inv X pins σ H s) (r : Vals vs us) (h : sp vs H Q E) : wpAny (model X.prog X.w) X.A (call (.ref f) us) (EP X pins σ Q) X.xe s := by
  have hl : (us ++ []).length = ps.length := by rw [List.append_nil, ← Vals.length r]; exact F.len _ _ _ _ h
  have b := hb s us I.kIn hl
  rw [List.append_nil] at b
  refine wpAny_call (codeAny_mono (F.run X.A X.stack s H ⟨us, []⟩ us vs Q E hr hg I.env0 b r h) fun r s' hq => ?_)
  cases r with
  | error e => exact hx pins σ H s e s' I hq
  | ok fl =>
    cases fl with
    | ret u => exact I.after hq
    | next => exact hq.elim
    | brk => exact hq.elim
    | cont => exact hq.elim
theorem pe_callG (F : FnG X.prog X.w X.K X.mg X.base CX k f fd ps sp) (hr : Room k X.A) (hu : X.A.guards = some []) (hg : Gl X x) (hm : X.mg x = some (.ref f)) (hk : PySem.W.keepIn X.K (.ref f) = true) (hb : L2.Binds X.K fd ps []) (hx : Passes CX X E) (ha : PA X (e :: es) t)
    (hdb : (x == ("__debug__" : Str)) = false := by decide) (he : starEach (e :: es) X.env = (false, eval e X.env) :: starEach es X.env := by rfl) (hpl : (backTo pos (starEach es X.env)).any (·.1) = false := by rfl) : PE X (.Call (.Name x p) (e :: es) [] pos) (tCall sp [] E t) := by
  refine ⟨fun pins s σ H Q I h => ?_⟩
  refine wpAny_Call_Name_kw (ld_glob I hg hm ?_ hdb)
  refine PySem.W.callWith_K (h₀ := X.base) I.ok.mod.kin hk (thn (ha.run pos pins s σ H _ I h) fun us s1 ⟨vs, H1, I1, r, q⟩ => ⟨I1.kIn, ?_⟩) he hpl
  have q' : sp (vs ++ []) H1 Q E := q
  rw [List.append_nil] at q'
  exact run_fnG F hr hu hb hx I1 r q'
theorem pe_meth0G {pl : Sem Bool} (he : PE X o ta) (c : Cls X.K C) (hm : Meth X.K C m f) (F : FnG X.prog X.w X.K X.mg X.base CX k f fd ps sp) (hr : Room k X.A) (hg : X.A.guards = some []) (hb : L2.Binds X.K fd ps []) (hx : Passes CX X E)
    (ht : eval (.Call (.Attribute o m apos) [] [] pos) X.env = (do
      let ov ← eval o X.env
      standAt apos.atName
      let (f, first) ← holding [ov] (getMethod ov m pl)
      callWith pos f first (backTo pos (starEach [] X.env)) (backToKw pos (keywordEach [] X.env))) := by rfl) : PE X (.Call (.Attribute o m apos) [] [] pos) (tMeth C m sp [] E ta tNil) := by
  refine ⟨fun pins s σ H Q I h => ?_⟩
  refine PySem.W.methodCall_KW (pl := pl) (thn (he.run pins s σ H _ I h) fun u s1 ⟨y, H1, I1, rx, a, dx, fs, ex, ea, l, q⟩ => ?_) ht
  subst ex
  obtain rfl : u = Value.ref a := rx
  refine getmeth_ok I1 ea c hm l ?_
  exact PySem.W.callWith_K0 (first := [.ref a]) I1.kIn hm.kp (run_fnG (us := [.ref a]) (vs := [.ref a]) F hr hg hb hx I1 (.cons rfl .nil) q)
end
/-! ### the law's own call -/
section
variable {P : Program} {w : World} {K : PySem.W.Frag} {mg mb : Str → Option Value} {k : Nat} {fa a : Addr} {fd : FuncData} {x : Str} {sp : Sp} {s1 : Shared} {vs : List Value} {ns : List Int}
/-- one abstract heap in which at most the script is told -/
theorem law_in (KX : K.In s1.heap) (hns : s1.heap.Ns mainGlobals mg) (hb : s1.heap.Ns builtinsNs mb) (hbb : ∀ x : Str, x ≠ "__name__" → mb x = bootBuiltins x) (lim : s1.heap.NoLimit) (hg : s1.gens = #[]) (ha : s1.heap.get? a = some { cls := .type "list", data := .seq vs.toArray })
    (hr : Room k callerA) (F : ∀ base : Heap, K.In base → base.Ns mainGlobals mg → FnG P w K mg base CX0 k fa fd [x] sp) (hbind : ∀ (s : Shared) (u : Value), BindsTo s fd ⟨[u], []⟩ [(x, u)])
    {H : Hp} (hO : Only H) (hok : HOk P w H s1.heap) (hA : ∀ b, H b ≠ none → b = a) (hK : H a ≠ none → K.lookup a = none) (hsp : sp [.ref a] H (fun v _ => v = .bl true) fun _ _ _ => False) :
    codeAny (model P w) callerA (.call (.ref fa) ⟨[.ref a], []⟩) (fun r s' => r = .ok (.ret (.bool true)) ∧ OldK s1.heap s'.heap ∧ s'.os = s1.os ∧ AllBare s'.gens) s1 := by
  have free : ∀ {b : Addr} {o : Obj} {es : Array DictEntry} {ep : Nat}, s1.heap.get? b = some o → o.data = .dict es ep → H b = none := fun {b o es ep} e d => by
    cases q : H b with
    | none => rfl
    | some u =>
      have eb : b = a := hA b (by rw [q]; simp)
      rw [eb, ha] at e
      cases e
      exact nomatch (show Data.seq vs.toArray _ = Data.dict es ep from d)
  have nsK : ∀ {b : Addr} {m : Str → Option Value}, s1.heap.Ns b m → (hidT s1.heap H).Ns b m := fun {b m} ⟨o, es, ep, e, d, r⟩ => ⟨o, es, ep, hidT_get e (free e d), d, r⟩
  have KB : K.In (hidT s1.heap H) := fun b o e => hidT_get (KX b o e) (by
    cases q : H b with
    | none => rfl
    | some u =>
      have eb : b = a := hA b (by rw [q]; simp)
      subst eb
      rw [hK (by rw [q]; simp)] at e
      cases e)
  have M : Mod K mg (hidT s1.heap H) := ⟨KB, nsK hns, ⟨mb, nsK hb, hbb⟩, let ⟨mc, h1, h2⟩ := lim; ⟨mc, nsK h1, h2⟩⟩
  have e0 : Env0 P w K mg (hidT s1.heap H) callerA [] s1 H := ⟨rfl, M, fun b o e => of_hidT e, Nat.le_of_eq (hidT_size _ _), trivial, fun b hb => absurd (show b ∈ ([] : List Addr) from hb) (by simp), hok, .of_eq hg⟩
  refine codeAny_mono ((F _ KB (nsK hns)).run callerA [] s1 H ⟨[.ref a], []⟩ [.ref a] [.ref a] _ _ hr rfl e0 (hbind s1 (.ref a)) (.cons rfl .nil) hsp) fun r s' h => ?_
  cases r with
  | error e => exact h.elim
  | ok fl =>
    cases fl with
    | next => exact h.elim
    | brk => exact h.elim
    | cont => exact h.elim
    | ret u =>
      obtain ⟨v, H', os, bare, un, hok', rv, q⟩ := h
      have ev : v = .bl true := q
      subst ev
      obtain rfl : u = Value.bool true := rv
      refine ⟨rfl, OldK.of_keep fun b o e => ?_, os, bare⟩
      cases q : H b with
      | none => exact un.keep b o e q (by intro z; exact absurd (show b ∈ ([] : List Addr) from z) (by simp)) (by simp)
      | some u =>
        rcases hO b with z | ⟨ob, xs, z⟩
        · rw [q] at z
          cases z
        · obtain ⟨e1, _⟩ := hok b _ z
          obtain ⟨e2, _⟩ := hok' b _ (un.frzs b ob _ z)
          rw [e] at e1
          cases e1
          exact e2
theorem law_callG (KX : K.In s1.heap) (hns : s1.heap.Ns mainGlobals mg) (hb : s1.heap.Ns builtinsNs mb) (hbb : ∀ x : Str, x ≠ "__name__" → mb x = bootBuiltins x) (lim : s1.heap.NoLimit) (hg : s1.gens = #[]) (ha : s1.heap.get? a = some { cls := .type "list", data := .seq vs.toArray })
    (hi : IntsAre vs ns) (hl : ns.length ≤ sizeLine) (hr : Room k callerA) (F : ∀ base : Heap, K.In base → base.Ns mainGlobals mg → FnG P w K mg base CX0 k fa fd [x] sp) (hbind : ∀ (s : Shared) (u : Value), BindsTo s fd ⟨[u], []⟩ [(x, u)])
    (hsp : ∀ H : Hp, Only H → SqL K H a (ns.map V.int) → sp [.ref a] H (fun v _ => v = .bl true) fun _ _ _ => False) :
    codeAny (model P w) callerA (.call (.ref fa) ⟨[.ref a], []⟩) (fun r s' => r = .ok (.ret (.bool true)) ∧ OldK s1.heap s'.heap ∧ s'.os = s1.os ∧ AllBare s'.gens) s1 := by
  have rv := vals_ints hi
  cases hk : K.lookup a with
  | some o =>
    have e := KX a o hk
    rw [ha] at e
    cases e
    have hS : SqL K (fun _ => none) a (ns.map V.int) := .inr ⟨_, vs.toArray, _, hk, rfl, rfl, rfl, by rw [List.size_toArray, hi.length]; exact hl, by simpa using rv⟩
    exact law_in KX hns hb hbb lim hg ha hr F hbind (H := fun _ => none) (fun _ => .inl rfl) (fun b u z => nomatch (show (none : Option HO) = some u from z)) (fun b z => absurd rfl z) (fun z => absurd rfl z) (hsp _ (fun _ => .inl rfl) hS)
  | none =>
    have at_a : ∀ {b : Addr}, b = a → (fun b => if b = a then some (HO.frz { cls := .type "list", data := .seq vs.toArray } (.lst (ns.map V.int))) else none) b = some (HO.frz { cls := .type "list", data := .seq vs.toArray } (.lst (ns.map V.int))) := fun {b} e => if_pos e
    have off : ∀ {b : Addr}, b ≠ a → (fun b => if b = a then some (HO.frz { cls := .type "list", data := .seq vs.toArray } (.lst (ns.map V.int))) else none) b = none := fun {b} e => if_neg e
    generalize (fun b => if b = a then some (HO.frz { cls := .type "list", data := .seq vs.toArray } (.lst (ns.map V.int))) else none) = H at at_a off
    have only : Only H := fun b => by
      by_cases e : b = a
      · exact .inr ⟨_, _, at_a e⟩
      · exact .inl (off e)
    refine law_in KX hns hb hbb lim hg ha hr F hbind only (fun b u z => ?_) (fun b z => ?_) (fun _ => hk) (hsp _ only (.inl (.inr ⟨_, at_a rfl⟩)))
    · by_cases e : b = a
      · subst e
        have z' := (at_a rfl).symm.trans z
        cases z'
        exact ⟨ha, by rw [List.length_map]; exact hl, vs, _, rv, ha⟩
      · rw [off e] at z
        cases z
    · by_cases e : b = a
      · exact e
      · exact absurd (off e) z
end
theorem walk_ofG {l : PySem.W.OpenLaw} {n k : Nat} {q : Program} {loose : List Str} {XP : (Str → Option Value) → Heap → Prop} {YP : World → Heap → Prop} {d : DefRec} {K : Params → PySem.W.Frag} {sp : World → Sp} {x : Str} (hn : l.most = some n) (hn2 : n ≤ sizeLine) (hdf : d.params.defaults = []) (hr : Room k callerA)
    (hY : ∀ (w : World) (h : Heap), YP w h → (K w.params).In h)
    (F : ∀ (w : World) (mg : Str → Option Value) (fa : Addr) (h : Heap), (K w.params).In h → h.Ns mainGlobals mg → mg d.name = some (.ref fa) →
      ∃ fd : FuncData, (∀ (s : Shared) (u : Value), BindsTo s fd ⟨[u], []⟩ [(x, u)]) ∧ ∀ base : Heap, (K w.params).In base → base.Ns mainGlobals mg → FnG l.prog w (K w.params) mg base CX0 k fa fd [x] (sp w))
    (hsp : ∀ (w : World) (H : Hp) (a : Addr) (ns : List Int), ns.length ≤ n → Only H → SqL (K w.params) H a (ns.map V.int) → sp w [.ref a] H (fun v _ => v = .bl true) fun _ _ _ => False) :
    PySem.W.WalkO q loose XP YP l.row.toRowW d [] (fun f vs => PySem.call f vs) := by
  refine Att.attach_call hn hdf fun w s0 s1 mg mb fa o pm cd doc a vs ns G Y ho hd hcd hmg hobj hints hlen hg => ?_
  have KX := hY w _ Y
  obtain ⟨fd, hb, hF⟩ := F w mg fa _ KX G.T.g hmg
  exact law_callG KX G.T.g G.T.b G.T.builtins G.T.nolimit hg hobj hints (Nat.le_trans hlen hn2) hr hF hb fun H hO hS => hsp w H a ns hlen hO hS
end Gd
/-! sorted(xs, key=str): xs a list of texts and tuples. -/
namespace Gd
open PySem PySem.Spec PyProof.Rows L2 Evl Pd
/-- str(x) -/
def txt : PyData → Str
  | .str s => s
  | d => d.shown
/-- what can be shown here: a text, or a tuple that is not too deep -/
def Showy (d : PyData) : Prop := (∃ s, d = .str s) ∨ ((∃ ds, d = .tuple ds) ∧ d.showable = true ∧ d.hasDict = false ∧ d.depth ≤ 40 ∧ d.shown.length ≤ sizeLine)
/-- by their texts, those that are alike in their order -/
def bySt (l : List (V × PyData)) : List (V × PyData) := l.mergeSort (PySem.W.dataLe false fun b : V × PyData => PyData.str (txt b.2))
def rSortS (K : PySem.W.Frag) : List V → List V → Hp → VK → Prop := fun vs zs H Q => ∃ (a : Addr) (xs : List V) (ds : List PyData), vs = [.ref a] ∧ zs = [.ty "str"] ∧ SqL K H a xs ∧ DpAll K H xs ds ∧ (∀ d ∈ ds, Showy d) ∧
  ∀ p, H p = none → Q (.ref p) (upd H p (.lst ((bySt (xs.zip ds)).map (·.1))))
theorem dpAll_len {K : PySem.W.Frag} {H : Hp} : ∀ {xs : List V} {ds : List PyData}, DpAll K H xs ds → xs.length = ds.length
  | _, _, .nil => rfl
  | _, _, .cons _ h => congrArg Nat.succ (dpAll_len h)
theorem each_of {K : PySem.W.Frag} {H : Hp} : ∀ {xs : List V} {ds : List PyData} {us : List Value}, DpAll K H xs ds → Vals xs us → PySem.W.EachIs (fun (v : Value) (b : V × PyData) => RelV b.1 v ∧ Dp K H b.1 b.2) us (xs.zip ds)
  | [], [], us, _, r => by cases r; exact .nil
  | x :: xs, d :: ds, us, .cons h t, r => by
    cases r with
    | cons a b => exact .cons ⟨a, h⟩ (each_of t b)
theorem vals_of {K : PySem.W.Frag} {H : Hp} : ∀ {us : List Value} {bs : List (V × PyData)}, PySem.W.EachIs (fun (v : Value) (b : V × PyData) => RelV b.1 v ∧ Dp K H b.1 b.2) us bs → Vals (bs.map (·.1)) us
  | _, _, .nil => .nil
  | _, _, .cons h t => .cons h.1 (vals_of t)
section
variable {X : Cx}
theorem cr_sortS (hg : X.A.guards = some []) (hu : X.A.units + 64 < cLine) : CallRK X (.builtin "sorted") [Str.ofString "key"] (rSortS X.K) := by
  intro pins s σ H xs zs us ws Q I r rz h
  obtain ⟨a, ys, ds, rfl, rfl, hS, hd, hs, q⟩ := h
  cases r with
  | cons ra rn =>
    cases rn
    cases ra
    cases rz with
    | cons rk rm =>
      cases rm
      cases rk
      obtain ⟨its, rv, pl, hl⟩ := I.list hS
      have ln : (ys.zip ds).length = ys.length := by rw [List.length_zip, dpAll_len hd, Nat.min_self]
      show wpAny _ _ (call (.builtin "sorted") [.ref a] [(Str.ofString "key", .type "str")]) _ _ _
      refine PySem.W.sorted_key_data (b := false) (fun b : V × PyData => PyData.str (txt b.2)) pl.isList (each_of hd rv) (PySem.W.AllAlike.of fun _ _ => by simp [PySem.W.alike]) (PySem.W.Sortable.others fun _ => ⟨(fun z => nomatch z), fun _ z => nomatch z⟩) (by rw [ln]; exact hl)
        (fun b _ => by have e : (PyData.str (txt b.2)).depth = 0 := by simp [PyData.depth]
                       rw [e]; omega) (ksk_s1 _ _) (fun _ => ksk_l1 _ _) (fun _ => rfl) (fun v b hb hm h tk kp => ?_) fun out c h' tk kp hn hD hl2 eo => ?_
      · obtain ⟨y, d⟩ := b
        obtain ⟨rb, hb⟩ := hb
        have hsd := hs d (List.of_mem_zip hm).2
        obtain ⟨as, rd⟩ := Dp.reads I d y v hb rb
        rcases hsd with ⟨t, rfl⟩ | ⟨⟨es, rfl⟩, s1, s2, s3, s4⟩
        · cases rd
          exact PySem.P.str_of_str ⟨h, tk, rfl, fun _ _ z => z, .str _ _⟩
        · cases rd with
          | tuple h1 h2 h3 h4 =>
            refine str_of_reads (.tuple h1 h2 h3 h4) s1 (PyData.noDict_hsm s2) hg (by show X.A.units + 1 + 1 + _ < cLine; omega) kp (fun h2 u tk2 k2 => ⟨h2, tk2, rfl, k2, .str _ _⟩) s4
      · have vo := vals_of eo
        have lo : ((bySt (ys.zip ds)).map (·.1)).length ≤ sizeLine := by
          unfold bySt
          rw [List.length_map, List.length_mergeSort, ln]
          exact hl
        have ok : ObjOk X.prog X.w (upd H (s.heap.objs.size + 1) (.lst ((bySt (ys.zip ds)).map (·.1)))) h' (s.heap.objs.size + 1) (.lst ((bySt (ys.zip ds)).map (·.1))) := ⟨lo, out, c, vo, hD⟩
        exact ⟨.ref (s.heap.objs.size + 1), _, I.laid (t' := tk) kp (Nat.le_succ _) ok, rfl, q _ (I.hok.fresh (Nat.le_succ _))⟩
end
end Gd
/-! A def of the top that may be called: its promise with all that a call asks. Questions about data. -/
namespace Us
open PySem PySem.Spec PyProof.Rows L2 Evl Pd Gd
/-- a def of the top -/
structure Dn (K : PySem.W.Frag) (mg : Str → Option Value) (x : Str) (st : Stmt) : Prop where
  ex : ∃ f fd, mg x = some (.ref f) ∧ PySem.W.keepIn K (.ref f) = true ∧ Fun K x x st f fd
structure Use (P : Program) (w : World) (K : PySem.W.Frag) (mg : Str → Option Value) (base : Heap) (k : Nat) (x : Str) (ps : List Str) (sp : Sp) : Prop where
  ex : ∃ f fd, mg x = some (.ref f) ∧ PySem.W.keepIn K (.ref f) = true ∧ L2.Binds K fd ps [] ∧ FnOk P w K mg base CX0 k f fd ps sp
section
variable {P : Program} {w : World} {K : PySem.W.Frag} {mg : Str → Option Value} {base : Heap} {k : Nat} {x : Str} {st : Stmt} {ps N : List Str} {sp : Sp}
theorem use_of (D : Dn K mg x st) (S : FnScope N ps (defScope st)) (hb : ∀ (f : Addr) (fd : FuncData), Fun K x x st f fd → L2.Binds K fd ps []) (len : ∀ vs H Q E, sp vs H Q E → vs.length = ps.length)
    (body : ∀ (f : Addr) (cdv : Value) (A : Around) (outer : List Env) (s : Shared) (H : Hp) (vs : List V) (Q : VK) (E : XK), Room k (A.deeper (envOfC x (defScope st) s.heap.objs.size f cdv)) → sp vs H Q E →
      ∃ t, PSs (cxOf CX0 P w K mg base N x (defScope st) f cdv A outer s H E).nox (defBody st) t ∧ t { nx := fun _ H' => Q .non H', rt := Q } (start N vs) H) : Use P w K mg base (k + 1) x ps sp := by
  obtain ⟨f, fd, g, kp, F⟩ := D.ex
  exact ⟨f, fd, g, kp, hb f fd F, F.ok S len (body f)⟩
end
section
variable {X : Cx} {k j : Nat} {x : Str} {ps : List Str} {sp : Sp} {p pos : Pos} {e : Expr} {es : List Expr} {t : TA}
theorem pe_use (U : Use X.prog X.w X.K X.mg X.base k x ps sp) (hr : Room j X.A) (hk : k ≤ j) (hg : Gl X x) (ha : PA X (e :: es) t)
    (hdb : (x == ("__debug__" : Str)) = false := by decide) (he : starEach (e :: es) X.env = (false, eval e X.env) :: starEach es X.env := by rfl) (hpl : (backTo pos (starEach es X.env)).any (·.1) = false := by rfl) :
    PE X (.Call (.Name x p) (e :: es) [] pos) (tCall sp [] (fun _ _ _ => False) t) := by
  obtain ⟨f, fd, m, kp, b, F⟩ := U.ex
  exact pe_call F (hr.mono hk) hg m kp b .nil pass0 ha hdb he hpl
theorem pe_isi {a : Expr} {ta : TE} {n : Str} {nm : String} {pn : Pos} (hg : Gl X "isinstance") (hm : X.mg "isinstance" = none) (hg2 : Gl X n) (hm2 : X.mg n = none) (hb : bootBuiltins n = some (.type nm)) (ha : PE X a ta)
    (h1 : starEach [a, .Name n pn] X.env = (false, eval a X.env) :: starEach [.Name n pn] X.env := by rfl)
    (hne : n ≠ "__name__" := by decide) (hd : (n == ("__debug__" : Str)) = false := by decide) : PE X (.Call (.Name "isinstance" p) [a, .Name n pn] [] pos) (tCB (rIsi X.K) (tCons ta (tCons (tC (.ty nm)) tNil))) :=
  pe_callB (he := h1) call_isi hg hm boot_isinstance (pa_cons (hs := h1) ha (pa_cons (pe_bltn hg2 hm2 hb rfl hne hd) pa_nil))
end
/-! ### questions about data -/
def isI : PyData → Bool
  | .int _ => true
  | _ => false
def isB : PyData → Bool
  | .bool _ => true
  | _ => false
def isS : PyData → Bool
  | .str _ => true
  | _ => false
def isL : PyData → Bool
  | .list _ => true
  | _ => false
def isT : PyData → Bool
  | .tuple _ => true
  | _ => false
def betw (lo hi : Int) : PyData → Bool
  | .int i => decide (lo ≤ i) && decide (i ≤ hi)
  | _ => false
def isRow (m : Int) : PyData → Bool
  | .tuple ds => decide ((ds.length : Int) = m)
  | _ => false
def isPair (lo hi : Int) : PyData → Bool
  | .tuple [a, b] => betw lo hi a && betw lo hi b
  | _ => false
theorem kit_int (d : PyData) : kitB (tyD d) "int" = some (isI d || isB d) := by cases d <;> kernel_rfl
theorem kit_bool (d : PyData) : kitB (tyD d) "bool" = some (isB d) := by cases d <;> kernel_rfl
theorem kit_str (d : PyData) : kitB (tyD d) "str" = some (isS d) := by cases d <;> kernel_rfl
theorem kit_list (d : PyData) : kitB (tyD d) "list" = some (isL d) := by cases d <;> kernel_rfl
theorem kit_tuple (d : PyData) : kitB (tyD d) "tuple" = some (isT d) := by cases d <;> kernel_rfl
end Us
namespace Chk
open PySem PySem.Spec PyProof.Rows L2 Evl Pd Gd Us
def top (i : Nat) : Stmt := PySem.Challenge.pw_answeredsettings_k01_settings_made.main.body.getD i (.Pass ⟨0, 0, 0, 0⟩)
abbrev sIsInteger : Stmt := top 1
abbrev sIsBetween : Stmt := top 2
abbrev sIsOneOf : Stmt := top 3
abbrev sIsRow : Stmt := top 4
abbrev sIsPair : Stmt := top 5
/-- one answer, True or False, and nothing that stood is touched -/
def spAsk (K : PySem.W.Frag) (n : Nat) (R : List V → Hp → Bool → Prop) : Sp := fun vs H Q _ => vs.length = n ∧ ∃ b, R vs H b ∧ ∀ H', Ex H H' → Q (.bl b) H'
structure Bc (mg : Str → Option Value) : Prop where
  isi : mg "isinstance" = none
  int : mg "int" = none
  bool : mg "bool" = none
  str : mg "str" = none
  list : mg "list" = none
  tuple : mg "tuple" = none
  len : mg "len" = none
  all : mg "all" = none
theorem boot_int : bootBuiltins "int" = some (.type "int") := by decide +kernel
theorem boot_bool : bootBuiltins "bool" = some (.type "bool") := by decide +kernel
theorem boot_str : bootBuiltins "str" = some (.type "str") := by decide +kernel
theorem boot_tuple : bootBuiltins "tuple" = some (.type "tuple") := by decide +kernel
theorem boot_list : bootBuiltins "list" = some (.type "list") := by decide +kernel
section
variable {σ : L2.St} {H : Hp} {te : TE} {K : PySem.W.Frag} {d : PyData}
/-- isinstance(x, T) by the answer -/
theorem ev_isi {n : String} {b : Bool} (k : kitB (tyD d) n = some b) (h : EvP te σ H (De K d)) : Ev (tCB (rIsi K) (tCons te (tCons (tC (.ty n)) tNil))) σ H (.bl b) := de_isi k h ev_c
theorem ev_ask {n : Nat} {R : List V → Hp → Bool → Prop} {b : Bool} {E : XK} {tr : TA} {Ps : List PV} (hn : Ps.length = n) (h : EvPs tr σ H Ps) (hr : ∀ xs H1, Ex H H1 → AllP Ps xs H1 → R xs H1 b) : Ev (tCall (spAsk K n R) [] E tr) σ H (.bl b) := fun H1 a Q q =>
  h H1 a _ fun xs H2 e ps => by
    rw [List.append_nil]
    exact ⟨ps.len.trans hn, b, hr xs H2 (a.trans e) ps, fun H3 e2 => q H3 (e.trans e2)⟩
end
def rInteger (K : PySem.W.Frag) : List V → Hp → Bool → Prop := fun vs H b => ∃ x d, vs = [x] ∧ Dp K H x d ∧ b = isI d
def rBetween (K : PySem.W.Frag) : List V → Hp → Bool → Prop := fun vs H b => ∃ x d lo hi, vs = [x, .int lo, .int hi] ∧ Dp K H x d ∧ b = betw lo hi d
def rOneOf (K : PySem.W.Frag) : List V → Hp → Bool → Prop := fun vs H b => ∃ x d p xs, vs = [x, .ref p] ∧ Dp K H x d ∧ SqT K H p xs ∧ xs.all flatV = true ∧ b = (isS d && inV x xs)
def rRow (K : PySem.W.Frag) : List V → Hp → Bool → Prop := fun vs H b => ∃ x d m, vs = [x, .int m] ∧ Dp K H x d ∧ b = isRow m d
def rPair (K : PySem.W.Frag) : List V → Hp → Bool → Prop := fun vs H b => ∃ x d lo hi, vs = [x, .int lo, .int hi] ∧ Dp K H x d ∧ b = isPair lo hi d
theorem scInteger : FnScope ["value"] ["value"] (defScope sIsInteger) := ⟨rfl, rfl, rfl, by decide +kernel, rfl, by decide +kernel, by decide +kernel⟩
theorem scBetween : FnScope ["value", "low", "high"] ["value", "low", "high"] (defScope sIsBetween) := ⟨rfl, rfl, rfl, by decide +kernel, rfl, by decide +kernel, by decide +kernel⟩
theorem scOneOf : FnScope ["value", "texts"] ["value", "texts"] (defScope sIsOneOf) := ⟨rfl, rfl, rfl, by decide +kernel, rfl, by decide +kernel, by decide +kernel⟩
theorem scRow : FnScope ["value", "many"] ["value", "many"] (defScope sIsRow) := ⟨rfl, rfl, rfl, by decide +kernel, rfl, by decide +kernel, by decide +kernel⟩
theorem scPair : FnScope ["value", "low", "high"] ["value", "low", "high"] (defScope sIsPair) := ⟨rfl, rfl, rfl, by decide +kernel, rfl, by decide +kernel, by decide +kernel⟩
section
variable {σ : L2.St} {H : Hp} {te : TE} {K : PySem.W.Frag} {ds : List PyData} {d : PyData}
theorem dpAll_get {K : PySem.W.Frag} {H : Hp} : ∀ {xs : List V} {ds : List PyData} {i : Nat} {d : PyData}, DpAll K H xs ds → ds[i]? = some d → ∃ x, xs[i]? = some x ∧ Dp K H x d
  | _, _, 0, _, .cons h _, e => by cases e; exact ⟨_, rfl, h⟩
  | _, _, i + 1, _, .cons _ t, e => by
    obtain ⟨x, h1, h2⟩ := dpAll_get (i := i) t e
    exact ⟨x, h1, h2⟩
theorem atI_nat {xs : List V} {i : Nat} {x : V} (h : xs[i]? = some x) : atI xs (i : Int) = some x := by
  unfold atI
  rw [ixN_nat (List.getElem?_eq_some_iff.mp h).1]
  exact h
theorem ev_lenT (h : EvP te σ H (De K (.tuple ds))) : Ev (tCB (rLenS K) (tCons te tNil)) σ H (.int (ds.length : Int)) := fun H1 a Q q =>
  h H1 a _ fun x H2 e p => by
    cases p with
    | tup hS hd => exact ⟨_, _, rfl, .inr hS, by rw [dpAll_len hd]; exact q H2 e⟩
theorem ev_lenL (h : EvP te σ H (De K (.list ds))) : Ev (tCB (rLenS K) (tCons te tNil)) σ H (.int (ds.length : Int)) := fun H1 a Q q =>
  h H1 a _ fun x H2 e p => by
    cases p with
    | lst hS hd => exact ⟨_, _, rfl, .inl hS, by rw [dpAll_len hd]; exact q H2 e⟩
theorem p_ixT {i : Nat} {ti : TE} (h : EvP te σ H (De K (.tuple ds))) (hi : Ev ti σ H (.int (i : Int))) (e : ds[i]? = some d) : EvP (tOp (rIxT K) te ti) σ H (De K d) := fun H1 a Q q =>
  h H1 a _ fun x H2 e1 p => hi H2 (a.trans e1) _ fun H3 e2 => by
    cases p with
    | tup hS hd =>
      obtain ⟨y, h1, h2⟩ := dpAll_get hd e
      exact ⟨_, _, _, y, rfl, rfl, ex_t e2 hS, atI_nat h1, q y H3 (e1.trans e2) (dp_up e2 h2)⟩
theorem p_ixL {i : Nat} {ti : TE} (h : EvP te σ H (De K (.list ds))) (hi : Ev ti σ H (.int (i : Int))) (e : ds[i]? = some d) : EvP (tOp (rIxL K) te ti) σ H (De K d) := fun H1 a Q q =>
  h H1 a _ fun x H2 e1 p => hi H2 (a.trans e1) _ fun H3 e2 => by
    cases p with
    | lst hS hd =>
      obtain ⟨y, h1, h2⟩ := dpAll_get hd e
      exact ⟨_, _, _, y, rfl, rfl, ex_l e2 hS, atI_nat h1, q y H3 (e1.trans e2) (dp_up e2 h2)⟩
/-- a data that is an int is that int -/
theorem dp_int {x : V} {i : Int} (h : Dp K H x (.int i)) : x = .int i := by cases h; rfl
theorem dp_str {x : V} {s : Str} (h : Dp K H x (.str s)) : x = .str s := by cases h; rfl
theorem ev_chain {ta tb tc : TE} {i j k : Int} (h1 : Ev ta σ H (.int i)) (h2 : Ev tb σ H (.int j)) (h3 : Ev tc σ H (.int k)) :
    Ev (tChain (rI0 fun i j => .bl (decide (i ≤ j))) (rI0 fun i j => .bl (decide (i ≤ j))) ta tb tc) σ H (.bl (decide (i ≤ j) && decide (j ≤ k))) := fun H1 a Q q =>
  h1 H1 a _ fun H2 e2 => h2 H2 (a.trans e2) _ fun H3 e3 => ⟨i, j, rfl, rfl, _, rfl, by
    by_cases c : i ≤ j
    · rw [if_pos (decide_eq_true c)]
      exact h3 H3 (a.trans (e2.trans e3)) _ fun H4 e4 => ⟨j, k, rfl, rfl, by
        have := q H4 (e2.trans (e3.trans e4))
        rw [decide_eq_true c, Bool.true_and] at this
        exact this⟩
    · rw [if_neg (by simpa using c)]
      have := q H3 (e2.trans e3)
      rw [decide_eq_false c, Bool.false_and] at this
      exact this⟩
end
section
variable {P : Program} {w : World} {K : PySem.W.Frag} {mg : Str → Option Value} {base : Heap}
theorem ok_integer (D : Dn K mg "is_integer" sIsInteger) (B : Bc mg) : Use P w K mg base 1 "is_integer" ["value"] (spAsk K 1 (rInteger K)) := by
  refine use_of D scInteger (fun f fd F => F.binds (ps := ["value"]) fun _ _ _ _ _ _ us hl => match us, hl with | [_], _ => rfl) (fun vs H Q E h => h.1) (fun f cdv A outer s H vs Q E hr h => ?_)
  obtain ⟨_, b, ⟨x, d, rfl, hd, rfl⟩, q⟩ := h
  refine ⟨_, pss_one (ps_ret (pe_and (pe_isi (by rfl) B.isi (by rfl) B.int boot_int (pv 0)) (pe_one (pe_not (pe_isi (by rfl) B.isi (by rfl) B.bool boot_bool (pv 0)))))), ?_⟩
  have hx : EvP (tVar 0) (L2.start ["value"] [x]) H (De K d) := p_var rfl mo_de hd
  exact s_ret (ev_is (ev_andV (ev_isi (kit_int d) hx) fun _ => ev_notV (ev_isi (kit_bool d) hx)) (by cases d <;> rfl)) fun H1 e => q H1 e
theorem ok_between (D : Dn K mg "is_between" sIsBetween) (U : Use P w K mg base 1 "is_integer" ["value"] (spAsk K 1 (rInteger K))) : Use P w K mg base 2 "is_between" ["value", "low", "high"] (spAsk K 3 (rBetween K)) := by
  refine use_of D scBetween (fun f fd F => F.binds (ps := ["value", "low", "high"]) fun _ _ _ _ _ _ us hl => match us, hl with | [_, _, _], _ => rfl) (fun vs H Q E h => h.1) (fun f cdv A outer s H vs Q E hr h => ?_)
  obtain ⟨_, b, ⟨x, d, lo, hi, rfl, hd, rfl⟩, q⟩ := h
  refine ⟨_, pss_one (ps_ret (pe_and (pe_use U hr (by decide) (by rfl) (pa_cons (pv 0) pa_nil)) (pe_one (pe_chain op_le op_le (pv 1) (pv 0) (pv 2))))), ?_⟩
  have hx : EvP (tVar 0) (L2.start ["value", "low", "high"] [x, .int lo, .int hi]) H (De K d) := p_var rfl mo_de hd
  refine s_ret (ev_is (ev_andV (a := isI d) (b := betw lo hi d) (ev_ask (Ps := [De K d]) rfl (ps_cons mo_de hx ps_nil) fun xs H1 e ps => ?_) fun c => ?_) (by cases d <;> rfl)) fun H1 e => q H1 e
  · match xs, ps with
    | [y], ⟨py, _⟩ => exact ⟨y, d, rfl, py, rfl⟩
  · cases d with
    | int i => exact ev_chain (ev_var rfl) (ev_var (by rw [dp_int hd]; rfl)) (ev_var rfl)
    | _ => cases c
theorem ok_oneOf (D : Dn K mg "is_one_of" sIsOneOf) (B : Bc mg) : Use P w K mg base 1 "is_one_of" ["value", "texts"] (spAsk K 2 (rOneOf K)) := by
  refine use_of D scOneOf (fun f fd F => F.binds (ps := ["value", "texts"]) fun _ _ _ _ _ _ us hl => match us, hl with | [_, _], _ => rfl) (fun vs H Q E h => h.1) (fun f cdv A outer s H vs Q E hr h => ?_)
  obtain ⟨_, b, ⟨x, d, p, xs, rfl, hd, hp, hf, rfl⟩, q⟩ := h
  refine ⟨_, pss_one (ps_ret (pe_and (pe_isi (by rfl) B.isi (by rfl) B.str boot_str (pv 0)) (pe_one (pe_cmpR op_in_seq (pv 0) (pv 1) (by rfl))))), ?_⟩
  have hx : EvP (tVar 0) (L2.start ["value", "texts"] [x, .ref p]) H (De K d) := p_var rfl mo_de hd
  refine s_ret (ev_andV (ev_isi (kit_str d) hx) fun c => ?_) fun H1 e => q H1 e
  cases d with
  | str s =>
    rw [dp_str hd]
    exact ev_op (ev_var rfl) (ev_var rfl) (rv_isT hp rfl hf)
  | _ => cases c
theorem ok_row (D : Dn K mg "is_row" sIsRow) (B : Bc mg) : Use P w K mg base 1 "is_row" ["value", "many"] (spAsk K 2 (rRow K)) := by
  refine use_of D scRow (fun f fd F => F.binds (ps := ["value", "many"]) fun _ _ _ _ _ _ us hl => match us, hl with | [_, _], _ => rfl) (fun vs H Q E h => h.1) (fun f cdv A outer s H vs Q E hr h => ?_)
  obtain ⟨_, b, ⟨x, d, m, rfl, hd, rfl⟩, q⟩ := h
  refine ⟨_, pss_one (ps_ret (pe_and (pe_isi (by rfl) B.isi (by rfl) B.tuple boot_tuple (pv 0)) (pe_one (pe_cmpR op_eq (pe_callB call_len_seq (by rfl) B.len PySem.boot_len (pa_cons (pv 0) pa_nil)) (pv 1) (nomark _))))), ?_⟩
  have hx : EvP (tVar 0) (L2.start ["value", "many"] [x, .int m]) H (De K d) := p_var rfl mo_de hd
  refine s_ret (ev_is (ev_andV (a := isT d) (b := isRow m d) (ev_isi (kit_tuple d) hx) fun c => ?_) (by cases d <;> rfl)) fun H1 e => q H1 e
  cases d with
  | tuple ds => exact ev_is (ev_op (ev_lenT hx) (ev_var rfl) (rv_eq rfl)) (congrArg V.bl (by simp [isRow]))
  | _ => cases c
theorem ok_pair (D : Dn K mg "is_pair" sIsPair) (UR : Use P w K mg base 1 "is_row" ["value", "many"] (spAsk K 2 (rRow K))) (UB : Use P w K mg base 2 "is_between" ["value", "low", "high"] (spAsk K 3 (rBetween K))) : Use P w K mg base 3 "is_pair" ["value", "low", "high"] (spAsk K 3 (rPair K)) := by
  refine use_of D scPair (fun f fd F => F.binds (ps := ["value", "low", "high"]) fun _ _ _ _ _ _ us hl => match us, hl with | [_, _, _], _ => rfl) (fun vs H Q E h => h.1) (fun f cdv A outer s H vs Q E hr h => ?_)
  obtain ⟨_, b, ⟨x, d, lo, hi, rfl, hd, rfl⟩, q⟩ := h
  refine ⟨_, pss_one (ps_ret (pe_and (pe_use UR hr (by decide) (by rfl) (pa_cons (pv 0) (pa_cons pe_int pa_nil)))
    (pe_and (pe_use UB hr (by decide) (by rfl) (pa_cons (pe_ix ix_tup (pv 0) pe_int (fun _ _ => rfl)) (pa_cons (pv 1) (pa_cons (pv 2) pa_nil))))
    (pe_one (pe_use UB hr (by decide) (by rfl) (pa_cons (pe_ix ix_tup (pv 0) pe_int (fun _ _ => rfl)) (pa_cons (pv 1) (pa_cons (pv 2) pa_nil)))))))), ?_⟩
  have hx : EvP (tVar 0) (L2.start ["value", "low", "high"] [x, .int lo, .int hi]) H (De K d) := p_var rfl mo_de hd
  have bt : ∀ {te : TE} {a : PyData}, EvP te (L2.start ["value", "low", "high"] [x, .int lo, .int hi]) H (De K a) → Ev (tCall (spAsk K 3 (rBetween K)) [] (fun _ _ _ => False) (tCons te (tCons (tVar 1) (tCons (tVar 2) tNil)))) (L2.start ["value", "low", "high"] [x, .int lo, .int hi]) H (.bl (betw lo hi a)) := fun {te a} h =>
    ev_ask (Ps := [De K a, Is (.int lo), Is (.int hi)]) rfl (ps_cons mo_de h (ps_cons mo_is (p_is rfl) (ps_cons mo_is (p_is rfl) ps_nil))) fun xs H1 e ps => by
      match xs, ps with
      | [y, z, u], ⟨py, pz, pu, _⟩ => exact ⟨y, a, lo, hi, by rw [show z = _ from pz, show u = _ from pu], py, rfl⟩
  refine s_ret (ev_is (ev_andV (a := isRow 2 d) (b := isPair lo hi d) (ev_ask (Ps := [De K d, Is (.int 2)]) rfl (ps_cons mo_de hx (ps_cons mo_is p_c ps_nil)) fun xs H1 e ps => ?_) fun c => ?_) ?_) fun H1 e => q H1 e
  · match xs, ps with
    | [y, z], ⟨py, pz, _⟩ => exact ⟨y, d, 2, by rw [show z = _ from pz], py, rfl⟩
  · match d, c with
    | .tuple [a, b], _ => exact ev_andV (bt (p_ixT (i := 0) hx ev_c rfl)) fun _ => bt (p_ixT (i := 1) hx ev_c rfl)
    | .tuple [], c => simp [isRow] at c
    | .tuple [_], c => simp [isRow] at c
    | .tuple (_ :: _ :: _ :: _), c => simp [isRow] at c; omega
  · match d with
    | .tuple [a, b] => rfl
    | .tuple [] => rfl
    | .tuple [_] => rfl
    | .tuple (_ :: _ :: _ :: _) => simp [isPair]
    | .none => rfl
    | .bool _ => rfl
    | .int _ => rfl
    | .str _ => rfl
    | .list _ => rfl
    | .dict _ => rfl
end
end Chk
namespace Chk
open PySem PySem.Spec PyProof.Rows L2 Evl Pd Gd Us
abbrev sAreChanges : Stmt := top 21
abbrev sIsHold : Stmt := top 22
abbrev sWrongPart : Stmt := top 23
def twoD : PyData → Bool
  | .tuple [.int i, .int j] => !decide (i = j)
  | _ => false
def okCh (size : Int) (p : PyData) : Bool := isPair 0 (size - 1) p && twoD p
def okChs (size : Int) : PyData → Bool
  | .list ds => ds.all (okCh size)
  | _ => false
/-- a list in it is not long -/
def Short (d : PyData) : Prop := ∀ ds, d = .list ds → ds.length ≤ 30000
def rChanges (K : PySem.W.Frag) : List V → Hp → Bool → Prop := fun vs H b => ∃ x d n, vs = [x, .int n] ∧ Dp K H x d ∧ Short d ∧ b = okChs n d
theorem scChanges : FnScope ["value", "size", "pair"] ["value", "size"] (defScope sAreChanges) := ⟨rfl, rfl, rfl, by decide +kernel, rfl, by decide +kernel, by decide +kernel⟩
section
variable {σ : L2.St} {H : Hp} {te : TE} {K : PySem.W.Frag}
theorem given_map (v : Nat → V) : ∀ {n : Nat}, given n (fun _ => true) v = (List.range n).map v
  | 0 => rfl
  | n + 1 => by rw [given_yes rfl, given_map v, List.range_succ, List.map_append]; rfl
/-- all(..) of a list of answers -/
theorem ev_all {bs : List Bool} (h : EvL te σ H (bs.map V.bl)) : Ev (tCB (rAll K) (tCons te tNil)) σ H (.bl (bs.all id)) := fun H1 a Q q =>
  h H1 a _ fun p H2 _ e hp => ⟨p, bs, rfl, sq_of hp, q H2 e⟩
end
section
variable {P : Program} {w : World} {K : PySem.W.Frag} {mg : Str → Option Value} {base : Heap}
theorem dpAll_at {H : Hp} : ∀ {xs : List V} {ds : List PyData} {i : Nat} {x : V}, DpAll K H xs ds → xs[i]? = some x → ∃ d, ds[i]? = some d ∧ Dp K H x d
  | _, _, 0, _, .cons h _, e => by cases e; exact ⟨_, rfl, h⟩
  | _, _, i + 1, _, .cons _ t, e => by
    obtain ⟨x, h1, h2⟩ := dpAll_at (i := i) t e
    exact ⟨x, h1, h2⟩
theorem range_all {α : Type} (f : α → Bool) (ds : List α) : ((List.range ds.length).map fun i => (ds[i]?.elim false f)).all id = ds.all f := by
  have : ((List.range ds.length).map fun i => (ds[i]?.elim false f)) = ds.map f := by
    refine List.ext_getElem (by simp) fun i h1 h2 => ?_
    have hi : i < ds.length := by simpa using h1
    simp [hi]
  rw [this, List.all_map]
  rfl
theorem isPair_ints {lo hi : Int} {d : PyData} (h : isPair lo hi d = true) : ∃ i j, d = .tuple [.int i, .int j] := by
  unfold isPair at h
  split at h
  · rw [Bool.and_eq_true] at h
    unfold betw at h
    split at h
    · have h2 := h.2
      split at h2
      · exact ⟨_, _, rfl⟩
      · cases h2
    · cases h.1
  · cases h
theorem ok_changes (D : Dn K mg "are_changes" sAreChanges) (B : Bc mg) (UP : Use P w K mg base 3 "is_pair" ["value", "low", "high"] (spAsk K 3 (rPair K))) : Use P w K mg base 4 "are_changes" ["value", "size"] (spAsk K 2 (rChanges K)) := by
  refine use_of D scChanges (fun f fd F => F.binds (ps := ["value", "size"]) fun _ _ _ _ _ _ us hl => match us, hl with | [_, _], _ => rfl) (fun vs H Q E h => h.1) (fun f cdv A outer s H vs Q E hr h => ?_)
  obtain ⟨_, b, ⟨x, d, n, rfl, hd, hs, rfl⟩, q⟩ := h
  refine ⟨_, pss_cons (ps_if (pt_not (pt_val (pe_isi (by rfl) B.isi (by rfl) B.list boot_list (pv 0)))) (pss_one (ps_ret pe_bl)) pss_nil)
    (pss_one (ps_ret (pe_callB (cr_all rfl) (by rfl) B.all (by decide +kernel) (pa_cons (pe_lc (own := [("pair", 2)]) (g := gName 2) (tt := tYes) rfl scChanges.nd (pi_list (pv 0)) (blkOk_by (N := ["value", "size", "pair"]) (sc := defScope sAreChanges) (by decide +kernel))
      (fun _ _ _ _ _ => pg_name (i := 2) scChanges.nd rfl (Or.inl rfl)) (fun _ _ _ _ _ => pts_nil)
      (fun _ _ _ _ _ => pe_and (pe_use UP hr (by decide) (by rfl) (pa_cons (pv 2) (pa_cons pe_int (pa_cons (pe_op op_sub (pv 1) pe_int) pa_nil)))) (pe_one (pe_cmpR op_ne (pe_ix (r := rIxT K) ix_tup (pv 2) pe_int (fun _ _ => rfl)) (pe_ix (r := rIxT K) ix_tup (pv 2) pe_int (fun _ _ => rfl)) (nomark _))))) pa_nil)))), ?_⟩
  have hx : EvP (tVar 0) (L2.start ["value", "size", "pair"] [x, .int n]) H (De K d) := p_var rfl mo_de hd
  refine q_when (et_not (et_B (ev_isi (kit_list d) hx))) (fun c H1 e1 => ?_) fun c H1 e1 => ?_
  · refine s_ret ev_c fun H2 e2 => ?_
    have : okChs n d = false := by cases d <;> first | rfl | cases c
    rw [← this]
    exact q H2 (e1.trans e2)
  · match d, hd, hs, c with
    | .list ds, .lst (a := a) (xs := xs) hS hD, hs, _ =>
      refine s_ret (ev_all (bs := (List.range xs.length).map fun i => (ds[i]?.elim false (okCh n))) (fun H2 e2 Q' q' => el_lcL (K := K) (xs := xs) (a := a) (fun _ => true) (fun i => V.bl (ds[i]?.elim false (okCh n))) (ev_var rfl) (ex_l e1 hS) ?len (fun _ => rfl) ?tt ?te H2 e2 Q' ?fin)) fun H2 e2 => ?_
      case len => have := hs ds rfl; rw [dpAll_len hD]; omega
      case tt => exact fun i y H3 e3 hy H4 e4 Q4 q4 => q4 H4 (Ex.refl _)
      case fin => intro p H3 h1 h2 h3; exact q' p H3 h1 h2 (by rw [h3, given_map, List.map_map]; rfl)
      case te =>
        intro i y H3 e3 hy _
        obtain ⟨e, he, hy2⟩ := dpAll_at hD hy
        rw [he]
        have py : ∀ {j : Nat} {σ : L2.St}, σ[j]? = some (some y) → EvP (tVar j) σ H3 (De K e) := fun h => p_var h mo_de (dp_up (e1.trans e3) hy2)
        refine ev_andV (a := isPair 0 (n - 1) e) (b := twoD e) (ev_ask (Ps := [De K e, Is (.int 0), Is (.int (n - 1))]) rfl (ps_cons mo_de (py rfl) (ps_cons mo_is p_c (ps_cons mo_is (.of (ev_op (ev_var rfl) ev_c rv_I0) mo_is rfl) ps_nil))) fun zs H4 e4 ps => ?_) fun c => ?_
        · match zs, ps with
          | [y, z, u], ⟨py, pz, pu, _⟩ => exact ⟨y, e, 0, n - 1, by rw [show z = _ from pz, show u = _ from pu], py, rfl⟩
        · obtain ⟨i, j, rfl⟩ := isPair_ints c
          have a0 : ∀ σ : L2.St, σ[2]? = some (some y) → Ev (tOp (rIxT K) (tVar 2) (tC (.int 0))) σ H3 (.int i) := fun σ hv => (p_ixT (i := 0) (py hv) ev_c rfl).imp (P' := Is (.int i)) (fun _ _ _ h => dp_int h) |>.ev
          have a1 : ∀ σ : L2.St, σ[2]? = some (some y) → Ev (tOp (rIxT K) (tVar 2) (tC (.int 1))) σ H3 (.int j) := fun σ hv => (p_ixT (i := 1) (py hv) ev_c rfl).imp (P' := Is (.int j)) (fun _ _ _ h => dp_int h) |>.ev
          exact ev_is (ev_op (a0 _ rfl) (a1 _ rfl) (rv_ne rfl)) (congrArg V.bl (by simp [twoD]))
      rw [dpAll_len hD, range_all]
      exact q H2 (e1.trans e2)
end
end Chk
namespace Chk
open PySem PySem.Spec PyProof.Rows L2 Evl Pd Gd Us
def inT (xs : List Str) : PyData → Bool
  | .str t => xs.any (fun y => y == t)
  | _ => false
/-- a tuple of texts that stands in the written part -/
def TxG (K : PySem.W.Frag) (mg : Str → Option Value) (x : Str) (xs : List Str) : Prop := ∃ p, mg x = some (.ref p) ∧ ∀ H, SqT K H p (xs.map V.str)
theorem inT_of {K : PySem.W.Frag} {H : Hp} {x : V} {d : PyData} {xs : List Str} (h : Dp K H x d) : (isS d && inV x (xs.map V.str)) = inT xs d := by
  cases h with
  | str t =>
    show (true && (xs.map V.str).any fun y => eqV y (.str t)) = xs.any fun y => y == t
    rw [Bool.true_and, List.any_map]
    rfl
  | _ => rfl
def sorts : List Str := ["size", "table", "room"]
def holds : List Str := ["sent", "answered", "open"]
def holdsT : List Str := ["sent", "answered"]
def isHold (s : Str) (d : PyData) : Bool := if s = ("table" : Str) then inT holdsT d else inT holds d
def rHold (K : PySem.W.Frag) : List V → Hp → Bool → Prop := fun vs H b => ∃ x d s, vs = [x, .str s] ∧ Dp K H x d ∧ b = isHold s d
theorem scHold : FnScope ["value", "sort"] ["value", "sort"] (defScope sIsHold) := ⟨rfl, rfl, rfl, by decide +kernel, rfl, by decide +kernel, by decide +kernel⟩
/-- the parts of a setting -/
structure Pts where
  sort : PyData
  size : PyData
  start : PyData
  changes : PyData
  hold : PyData
def intOf : PyData → Int
  | .int i => i
  | _ => 0
def strOf : PyData → Str
  | .str s => s
  | _ => ""
/-- the first part that is not so -/
def wrong (p : Pts) : Option Str :=
  if !inT sorts p.sort then some "sort" else if !betw 2 4 p.size then some "size" else if !betw 0 (intOf p.size - 1) p.start then some "start"
  else if !okChs (intOf p.size) p.changes then some "changes" else if !isHold (strOf p.sort) p.hold then some "hold" else none
def strV : Option Str → V
  | none => .non
  | some s => .str s
def DpP (K : PySem.W.Frag) (H : Hp) (a b c d e : V) (p : Pts) : Prop := Dp K H a p.sort ∧ Dp K H b p.size ∧ Dp K H c p.start ∧ Dp K H d p.changes ∧ Dp K H e p.hold ∧ Short p.changes
def spWrong (K : PySem.W.Frag) : Sp := fun vs H Q _ => vs.length = 5 ∧ ∃ a b c d e p, vs = [a, b, c, d, e] ∧ DpP K H a b c d e p ∧ ∀ H', Ex H H' → Q (strV (wrong p)) H'
theorem scWrong : FnScope ["sort", "size", "start", "changes", "hold"] ["sort", "size", "start", "changes", "hold"] (defScope sWrongPart) := ⟨rfl, rfl, rfl, by decide +kernel, rfl, by decide +kernel, by decide +kernel⟩
section
variable {P : Program} {w : World} {K : PySem.W.Frag} {mg : Str → Option Value} {base : Heap}
theorem ok_hold (D : Dn K mg "is_hold" sIsHold) (TH : TxG K mg "HOLDS" holds) (UO : Use P w K mg base 1 "is_one_of" ["value", "texts"] (spAsk K 2 (rOneOf K))) : Use P w K mg base 2 "is_hold" ["value", "sort"] (spAsk K 2 (rHold K)) := by
  refine use_of D scHold (fun f fd F => F.binds (ps := ["value", "sort"]) fun _ _ _ _ _ _ us hl => match us, hl with | [_, _], _ => rfl) (fun vs H Q E h => h.1) (fun f cdv A outer s H vs Q E hr h => ?_)
  obtain ⟨_, b, ⟨x, d, so, rfl, hd, rfl⟩, q⟩ := h
  obtain ⟨pH, mH, hH⟩ := TH
  refine ⟨_, pss_cons (ps_if (pt_cmpR op_eq (pv 1) pe_str (nomark _)) (pss_one (ps_ret (pe_use UO hr (by decide) (by rfl) (pa_cons (pv 0) (pa_cons (pe_tup (pa_cons pe_str (pa_cons pe_str pa_nil))) pa_nil))))) pss_nil)
    (pss_one (ps_ret (pe_use UO hr (by decide) (by rfl) (pa_cons (pv 0) (pa_cons (pe_gref (by rfl) mH) pa_nil))))), ?_⟩
  have hx : EvP (tVar 0) (L2.start ["value", "sort"] [x, .str so]) H (De K d) := p_var rfl mo_de hd
  refine q_when (et_test (ev_op (ev_var rfl) ev_c (rv_eq rfl))) (fun c H1 e1 => ?_) fun c H1 e1 => ?_
  · refine s_ret (ev_is (ev_ask (b := inT holdsT d) (Ps := [De K d, Tup (holdsT.map fun t => Is (.str t))]) rfl (ps_cons mo_de (hx.up e1) (ps_cons (mo_tup (fun P hP => by obtain ⟨t, _, rfl⟩ := List.mem_map.mp hP; exact mo_is)) (p_tup (fun P hP => by obtain ⟨t, _, rfl⟩ := List.mem_map.mp hP; exact mo_is) (ps_cons mo_is p_c (ps_cons mo_is p_c ps_nil))) ps_nil)) fun zs H2 e2 ps => ?_) ?_) fun H2 e2 => q H2 (e1.trans e2)
    · match zs, ps with
      | [y, z], ⟨py, ⟨p, xs, hz, h2, h3⟩, _⟩ =>
        subst hz
        have : xs = holdsT.map V.str := allP_is (vs := holdsT.map V.str) h3
        subst this
        exact ⟨y, d, p, _, rfl, py, st_of h2, rfl, (inT_of py).symm⟩
    · have : so = ("table" : Str) := by simpa using c
      unfold isHold
      rw [if_pos this]
  · refine s_ret (ev_is (ev_ask (b := inT holds d) (Ps := [De K d, Is (.ref pH)]) rfl (ps_cons mo_de (hx.up e1) (ps_cons mo_is p_c ps_nil)) fun zs H2 e2 ps => ?_) ?_) fun H2 e2 => q H2 (e1.trans e2)
    · match zs, ps with
      | [y, z], ⟨py, pz, _⟩ => exact ⟨y, d, pH, _, by rw [show z = _ from pz], py, hH H2, rfl, (inT_of py).symm⟩
    · have : so ≠ ("table" : Str) := by simpa using c
      unfold isHold
      rw [if_neg this]
theorem ok_wrong (D : Dn K mg "wrong_part" sWrongPart) (TS : TxG K mg "SORTS" sorts) (UO : Use P w K mg base 1 "is_one_of" ["value", "texts"] (spAsk K 2 (rOneOf K))) (UB : Use P w K mg base 2 "is_between" ["value", "low", "high"] (spAsk K 3 (rBetween K)))
    (UC : Use P w K mg base 4 "are_changes" ["value", "size"] (spAsk K 2 (rChanges K))) (UH : Use P w K mg base 2 "is_hold" ["value", "sort"] (spAsk K 2 (rHold K))) : Use P w K mg base 5 "wrong_part" ["sort", "size", "start", "changes", "hold"] (spWrong K) := by
  refine use_of D scWrong (fun f fd F => F.binds (ps := ["sort", "size", "start", "changes", "hold"]) fun _ _ _ _ _ _ us hl => match us, hl with | [_, _, _, _, _], _ => rfl) (fun vs H Q E h => h.1) (fun f cdv A outer s H vs Q E hr h => ?_)
  obtain ⟨_, a, b, c, d, e, p, rfl, ⟨ha, hb, hc, hd, he, hs⟩, q⟩ := h
  obtain ⟨pS, mS, hS⟩ := TS
  refine ⟨_, pss_cons (ps_if (pt_not (pt_val (pe_use UO hr (by decide) (by rfl) (pa_cons (pv 0) (pa_cons (pe_gref (by rfl) mS) pa_nil))))) (pss_one (ps_ret pe_str)) pss_nil)
    (pss_cons (ps_if (pt_not (pt_val (pe_use UB hr (by decide) (by rfl) (pa_cons (pv 1) (pa_cons pe_int (pa_cons pe_int pa_nil)))))) (pss_one (ps_ret pe_str)) pss_nil)
    (pss_cons (ps_if (pt_not (pt_val (pe_use UB hr (by decide) (by rfl) (pa_cons (pv 2) (pa_cons pe_int (pa_cons (pe_op op_sub (pv 1) pe_int) pa_nil)))))) (pss_one (ps_ret pe_str)) pss_nil)
    (pss_cons (ps_if (pt_not (pt_val (pe_use UC hr (by decide) (by rfl) (pa_cons (pv 3) (pa_cons (pv 1) pa_nil))))) (pss_one (ps_ret pe_str)) pss_nil)
    (pss_cons (ps_if (pt_not (pt_val (pe_use UH hr (by decide) (by rfl) (pa_cons (pv 4) (pa_cons (pv 0) pa_nil))))) (pss_one (ps_ret pe_str)) pss_nil)
    (pss_one (ps_ret pe_non)))))), ?_⟩
  generalize eσ : L2.start ["sort", "size", "start", "changes", "hold"] [a, b, c, d, e] = σ
  have g0 : σ[0]? = some (some a) := by rw [← eσ]; rfl
  have g1 : σ[1]? = some (some b) := by rw [← eσ]; rfl
  have g2 : σ[2]? = some (some c) := by rw [← eσ]; rfl
  have g3 : σ[3]? = some (some d) := by rw [← eσ]; rfl
  have g4 : σ[4]? = some (some e) := by rw [← eσ]; rfl
  have pv' : ∀ {j : Nat} {x : V} {dd : PyData} {H1 : Hp}, Ex H H1 → σ[j]? = some (some x) → Dp K H x dd → EvP (tVar j) σ H1 (De K dd) := fun ex h hd => p_var h mo_de (dp_up ex hd)
  have bt : ∀ {H1 : Hp} {j : Nat} {x : V} {dd : PyData} {lo hi : Int} {tl th : TE}, Ex H H1 → σ[j]? = some (some x) → Dp K H x dd → Ev tl σ H1 (.int lo) → Ev th σ H1 (.int hi) → Ev (tCall (spAsk K 3 (rBetween K)) [] (fun _ _ _ => False) (tCons (tVar j) (tCons tl (tCons th tNil)))) σ H1 (.bl (betw lo hi dd)) := fun {H1 j x dd lo hi tl th} ex h hx h1 h2 =>
    ev_ask (Ps := [De K dd, Is (.int lo), Is (.int hi)]) rfl (ps_cons mo_de (pv' ex h hx) (ps_cons mo_is (.of h1 mo_is rfl) (ps_cons mo_is (.of h2 mo_is rfl) ps_nil))) fun xs H1 e ps => by
      match xs, ps with
      | [y, z, u], ⟨py, pz, pu, _⟩ => exact ⟨y, dd, lo, hi, by rw [show z = _ from pz, show u = _ from pu], py, rfl⟩
  have fin : ∀ {H1 : Hp} {t : Str}, Ex H H1 → wrong p = some t → tRet (tC (.str t)) { nx := fun _ H' => Q .non H', rt := Q } σ H1 := fun {H1 t} ex ew => s_ret ev_c fun H2 e2 => by
    have := q H2 (ex.trans e2)
    rw [ew] at this
    exact this
  refine q_when (et_not (et_B (ev_ask (b := inT sorts p.sort) (Ps := [De K p.sort, Is (.ref pS)]) rfl (ps_cons mo_de (pv' (Ex.refl H) g0 ha) (ps_cons mo_is p_c ps_nil)) fun zs H2 e2 ps => ?_))) (fun k1 H1 e1 => fin e1 (by unfold wrong; rw [if_pos k1])) fun k1 H1 e1 => ?_
  · match zs, ps with
    | [y, z], ⟨py, pz, _⟩ => exact ⟨y, p.sort, pS, _, by rw [show z = _ from pz], py, hS H2, rfl, (inT_of py).symm⟩
  refine q_when (et_not (et_B (bt e1 g1 hb ev_c ev_c))) (fun k2 H2 e2 => fin (e1.trans e2) (by unfold wrong; rw [if_neg (by simpa using k1), if_pos k2])) fun k2 H2 e2 => ?_
  have e02 := e1.trans e2
  have k2' : betw 2 4 p.size = true := by simpa using k2
  obtain ⟨n, en⟩ : ∃ n, p.size = .int n := by
    unfold betw at k2'
    split at k2'
    · exact ⟨_, by assumption⟩
    · cases k2'
  have eb : b = .int n := dp_int (en ▸ hb)
  have in0 : intOf p.size = n := by rw [en]; rfl
  refine q_when (et_not (et_B (bt (hi := n - 1) e02 g2 hc ev_c (ev_op (ev_var (eb ▸ g1)) ev_c rv_I0)))) (fun k3 H3 e3 => fin (e02.trans e3) (by unfold wrong; rw [if_neg (by simpa using k1), if_neg (by simpa using k2), in0, if_pos k3])) fun k3 H3 e3 => ?_
  have e03 := e02.trans e3
  refine q_when (et_not (et_B (ev_ask (b := okChs n p.changes) (Ps := [De K p.changes, Is (.int n)]) rfl (ps_cons mo_de (pv' e03 g3 hd) (ps_cons mo_is (p_is (eb ▸ g1)) ps_nil)) fun zs H4 e4 ps => ?_))) (fun k4 H4 e4 => fin (e03.trans e4) (by unfold wrong; rw [if_neg (by simpa using k1), if_neg (by simpa using k2), in0, if_neg (by simpa using k3), if_pos k4])) fun k4 H4 e4 => ?_
  · match zs, ps with
    | [y, z], ⟨py, pz, _⟩ => exact ⟨y, p.changes, n, by rw [show z = _ from pz], py, hs, rfl⟩
  have e04 := e03.trans e4
  have k1' : inT sorts p.sort = true := by simpa using k1
  obtain ⟨so, es⟩ : ∃ so, p.sort = .str so := by
    unfold inT at k1'
    split at k1'
    · exact ⟨_, by assumption⟩
    · cases k1'
  have ea : a = .str so := dp_str (es ▸ ha)
  have st0 : strOf p.sort = so := by rw [es]; rfl
  refine q_when (et_not (et_B (ev_ask (b := isHold so p.hold) (Ps := [De K p.hold, Is (.str so)]) rfl (ps_cons mo_de (pv' e04 g4 he) (ps_cons mo_is (p_is (ea ▸ g0)) ps_nil)) fun zs H4 e4 ps => ?_))) (fun k5 H5 e5 => fin (e04.trans e5) (by unfold wrong; rw [if_neg (by simpa using k1), if_neg (by simpa using k2), in0, if_neg (by simpa using k3), if_neg (by simpa using k4), st0, if_pos k5])) fun k5 H5 e5 => ?_
  · match zs, ps with
    | [y, z], ⟨py, pz, _⟩ => exact ⟨y, p.hold, so, by rw [show z = _ from pz], py, rfl⟩
  refine s_ret ev_c fun H6 e6 => ?_
  have := q H6 (e04.trans (e5.trans e6))
  have ew : wrong p = none := by
    unfold wrong
    rw [if_neg (by simpa using k1), if_neg (by simpa using k2), in0, if_neg (by simpa using k3), if_neg (by simpa using k4), st0, if_neg (by simpa using k5)]
  rw [ew] at this
  exact this
end
end Chk
/-! raise C(x), C an own error whose __init__ keeps its one argument. -/
namespace Err
open PySem PySem.Spec PyProof.Rows L2
section
variable {X : Cx} {C fI : Addr} {f x : Str} {a : Expr} {te : TE} {p pos : Pos}
/-- an error that flies: its own dict is laid, itself it is not told of -/
theorem Made.fly {pins : List (Addr × Obj)} {σ : L2.St} {H : Hp} {s : Shared} {h' : Heap} {t' : Nat} {e d : Addr} {v : V} {u : Value} {Q : XK} (I : Inv X pins σ H s) (M : Made s.heap h' e C d f u) (r : RelV v u) (R : Raises X (.ref C))
    (q : Q (.ref C) (some d) (upd H d (.xd [(f, v)]))) : MkP X pins σ Q (.ref e) { s with heap := h', toks := t' } := by
  obtain ⟨G, in_, out⟩ := restrict h' fun b => decide (b ≠ e)
  have same : ∀ {b : Addr}, b ≠ e → G.get? b = h'.get? b := fun {b} hb => in_ b (decide_eq_true hb)
  have gone : G.get? e = none := out e (by simp)
  have old : ∀ b o, s.heap.get? b = some o → G.get? b = some o := fun b o q => by
    rw [same (Nat.ne_of_lt (Nat.lt_of_lt_of_le (Heap.lt_size q) M.new))]
    exact M.keep b o q
  have J : Inv X pins σ (upd H d (.xd [(f, v)])) { s with heap := G, toks := t' } :=
    I.laid (t' := t') (a := d) (o := .xd [(f, v)]) (h' := G) old M.dbig ⟨_, M.ns.at fun o z => (same M.dne).trans z, fun g => one_field r f g⟩
  obtain ⟨t0, ho⟩ := M.obj
  refine ⟨e, raw C t0 (some d), _, { s with heap := G, toks := t' }, _, .ref C, some d, rfl, J, fun b o z => ?_, gone, ho, ⟨rfl, rfl⟩, rfl, rfl, ?_, rfl, I.bare, R, q⟩
  · by_cases hb : b = e
    · rw [hb, gone] at z
      cases z
    · exact (same hb).symm.trans z
  · rw [upd_ne (Ne.symm M.dne)]
    exact I.hok.fresh M.new
/-- the reading of C(x) that is raised -/
def tFly (C : Addr) (f : Str) (te : TE) : L2.St → Hp → XK → Prop := fun σ H Q => te σ H fun v H1 => ∀ d, H1 d = none → Q (.ref C) (some d) (upd H1 d (.xd [(f, v)]))
theorem pmk_err (T : ErrC X.K C fI f) (pf : Plain f) (hr : Room 1 X.A) (hm : X.mg x = some (.ref C)) (hg : Gl X x) (ha : PE X a te)
    (hb : ∀ (y : Addr) (u : Value) (qn : Str) (doc pm : Value) (an : Option Addr) (cdv ct : Value) (p1 p2 q1 q2 q3 q4 : Pos), bindArgs (PySem.W.fnOf "__init__" qn (iA f p1 p2) (iB f q1 q2 q3 q4) (iS f) .none .none doc pm an cdv ct) ⟨[.ref y, u], []⟩ = pure [(("self" : Str), Value.ref y), (f, u)])
    (hs : starEach [a] X.env = (false, eval a X.env) :: starEach [] X.env := by rfl) (hdb : (x == ("__debug__" : Str)) = false := by decide) (hpl : (backTo pos (starEach [] X.env)).any (·.1) = false := by rfl) :
    PMk X (.Call (.Name x p) [a] [] pos) (tFly C f te) := by
  intro pins s σ H Q I h
  refine wpAny_Call_Name_kw (ld_glob I hg hm ?_ hdb)
  refine PySem.W.callWith_K (h₀ := X.base) I.ok.mod.kin T.kC ?_ hs hpl
  rw [hs]
  show wpAny _ _ (spliced ((false, eval a X.env) :: backTo pos (starEach [] X.env))) _ _ s
  refine Calls.spliced_cons (thn (ha.run pins s σ H _ I h) fun u s1 ⟨v, H1, I1, r1, q1⟩ => ?_)
  refine Calls.spliced_nil ⟨I1.kIn, ?_⟩
  show wpAny _ _ (call (.ref C) [u]) _ _ _
  have lim := I1.nolimit
  have hd := hr.dp
  have fly : ∀ {h' : Heap} {t' : Nat} {e d : Addr}, Made s1.heap h' e C d f u → MkP X pins σ Q (.ref e) { s1 with heap := h', toks := t' } := fun {h' t' e d} M => M.fly I1 r1 (raises_own T.exC T.tyC) (q1 d (I1.hok.fresh M.dbig))
  exact wpAny_call (made_any T pf I1.kIn lim (by omega) (by show 1 ≤ sizeLine; rw [sizeLine_eq]; omega) (fun y => hb y u) fun h' t' e d M => fly M)
end
end Err
/-! Data whose lists and tuples were made in the run. {k: True for k in xs} over a list of pairs. -/
namespace Chk
open PySem PySem.Spec PyProof.Rows L2 Evl Pd Gd Us
mutual
inductive Dq (H : Hp) : V → PyData → Prop
  | non : Dq H .non .none
  | bl (b : Bool) : Dq H (.bl b) (.bool b)
  | int (i : Int) : Dq H (.int i) (.int i)
  | str (x : Str) : Dq H (.str x) (.str x)
  | lst {a : Addr} {xs : List V} {ds : List PyData} : xs.length ≤ 100000 → H a = some (.lst xs) → DqAll H xs ds → Dq H (.ref a) (.list ds)
  | tup {a : Addr} {xs : List V} {ds : List PyData} : H a = some (.tup xs) → DqAll H xs ds → Dq H (.ref a) (.tuple ds)
inductive DqAll (H : Hp) : List V → List PyData → Prop
  | nil : DqAll H [] []
  | cons {v : V} {vs : List V} {d : PyData} {ds : List PyData} : Dq H v d → DqAll H vs ds → DqAll H (v :: vs) (d :: ds)
end
mutual
theorem dq_up {H H' : Hp} (e : Ex H H') : ∀ {x : V} {d : PyData}, Dq H x d → Dq H' x d
  | _, _, .non => .non
  | _, _, .bl b => .bl b
  | _, _, .int i => .int i
  | _, _, .str x => .str x
  | _, _, .lst z h a => .lst z (e _ _ h) (dqAll_up e a)
  | _, _, .tup h a => .tup (e _ _ h) (dqAll_up e a)
theorem dqAll_up {H H' : Hp} (e : Ex H H') : ∀ {xs : List V} {ds : List PyData}, DqAll H xs ds → DqAll H' xs ds
  | _, _, .nil => .nil
  | _, _, .cons h a => .cons (dq_up e h) (dqAll_up e a)
end
mutual
theorem dq_dp {K : PySem.W.Frag} {H : Hp} : ∀ {x : V} {d : PyData}, Dq H x d → Dp K H x d
  | _, _, .non => .non
  | _, _, .bl b => .bl b
  | _, _, .int i => .int i
  | _, _, .str x => .str x
  | _, _, .lst _ h a => .lst (sq_of h) (dqAll_dp a)
  | _, _, .tup h a => .tup (st_of h) (dqAll_dp a)
theorem dqAll_dp {K : PySem.W.Frag} {H : Hp} : ∀ {xs : List V} {ds : List PyData}, DqAll H xs ds → DpAll K H xs ds
  | _, _, .nil => .nil
  | _, _, .cons h a => .cons (dq_dp h) (dqAll_dp a)
end
theorem dqAll_len {H : Hp} : ∀ {xs : List V} {ds : List PyData}, DqAll H xs ds → xs.length = ds.length
  | _, _, .nil => rfl
  | _, _, .cons _ h => congrArg Nat.succ (dqAll_len h)
theorem dqAll_at {H : Hp} : ∀ {xs : List V} {ds : List PyData} {i : Nat} {x : V}, DqAll H xs ds → xs[i]? = some x → ∃ d, ds[i]? = some d ∧ Dq H x d
  | _, _, 0, _, .cons h _, e => by cases e; exact ⟨_, rfl, h⟩
  | _, _, i + 1, _, .cons _ t, e => by
    obtain ⟨x, h1, h2⟩ := dqAll_at (i := i) t e
    exact ⟨x, h1, h2⟩
theorem dqAll_get {H : Hp} : ∀ {xs : List V} {ds : List PyData} {i : Nat} {d : PyData}, DqAll H xs ds → ds[i]? = some d → ∃ x, xs[i]? = some x ∧ Dq H x d
  | _, _, 0, _, .cons h _, e => by cases e; exact ⟨_, rfl, h⟩
  | _, _, i + 1, _, .cons _ t, e => by
    obtain ⟨x, h1, h2⟩ := dqAll_get (i := i) t e
    exact ⟨x, h1, h2⟩
def Qe (d : PyData) : PV := fun x H => Dq H x d
theorem mo_qe {d : PyData} : Mo (Qe d) := fun _ _ _ e h => dq_up e h
theorem mo_qes {ds : List PyData} : ∀ P ∈ ds.map Qe, Mo P := fun P hP => by
  obtain ⟨d, _, rfl⟩ := List.mem_map.mp hP
  exact mo_qe
theorem allP_qe {H : Hp} : ∀ {ds : List PyData} {xs : List V}, AllP (ds.map Qe) xs H → DqAll H xs ds
  | [], [], _ => .nil
  | d :: ds, x :: xs, h => .cons h.1 (allP_qe h.2)
section
variable {K : PySem.W.Frag} {σ : L2.St} {H : Hp} {te ta tb : TE} {tr : TA} {d e : PyData} {ds : List PyData}
theorem EvP.de (h : EvP te σ H (Qe d)) : EvP te σ H (De K d) := h.imp fun _ _ _ p => dq_dp p
theorem q_int {i : Int} : EvP (tC (.int i)) σ H (Qe (.int i)) := p_c.imp fun x _ _ hx => by rw [show x = _ from hx]; exact .int i
theorem q_str {s : Str} : EvP (tC (.str s)) σ H (Qe (.str s)) := p_c.imp fun x _ _ hx => by rw [show x = _ from hx]; exact .str s
theorem q_bl {b : Bool} : EvP (tC (.bl b)) σ H (Qe (.bool b)) := p_c.imp fun x _ _ hx => by rw [show x = _ from hx]; exact .bl b
theorem q_non : EvP (tC .non) σ H (Qe .none) := p_c.imp fun x _ _ hx => by rw [show x = _ from hx]; exact .non
theorem q_lst (h : EvPs tr σ H (ds.map Qe)) (hl : ds.length ≤ 100000 := by first | decide | simp) : EvP (tLst tr) σ H (Qe (.list ds)) :=
  (p_lst mo_qes h (by rw [List.length_map]; exact hl)).imp fun x H1 _ ⟨a, xs, h1, h2, h3⟩ => by
    have z := allP_qe h3
    rw [h1]; exact .lst (by rw [dqAll_len z]; exact hl) h2 z
theorem q_tup (h : EvPs tr σ H (ds.map Qe)) (hl : ds.length ≤ 100000 := by first | decide | simp) : EvP (tTup tr) σ H (Qe (.tuple ds)) :=
  (p_tup mo_qes h (by rw [List.length_map]; exact hl)).imp fun x H1 _ ⟨a, xs, h1, h2, h3⟩ => by rw [h1]; exact .tup h2 (allP_qe h3)
theorem q_var {i : Nat} {x : V} (h : σ[i]? = some (some x)) (hd : Dq H x d) : EvP (tVar i) σ H (Qe d) := p_var h mo_qe hd
end
/-! ### the dict of a list of pairs -/
/-- a new key goes to the end -/
def addK (ks : List (List Key)) (k : List Key) : List (List Key) := if (ks.any fun x => decide (x = k)) = true then ks else ks ++ [k]
def onceK (l : List (List Key)) : List (List Key) := l.foldl addK []
def trues (ks : List (List Key)) : List (List Key × V) := ks.map fun k => (k, V.bl true)
theorem put_true (ks : List (List Key)) (k : List Key) : putK (trues ks) k (.bl true) = trues (addK ks k) := by
  unfold putK addK trues
  rw [List.any_map]
  show (if (ks.any fun x => decide (x = k)) = true then _ else _) = _
  by_cases h : (ks.any fun x => decide (x = k)) = true
  · rw [if_pos h, if_pos h, List.map_map]
    refine List.map_congr_left fun x hx => ?_
    show (if x = k then (x, V.bl true) else (x, V.bl true)) = _
    split <;> rfl
  · rw [if_neg h, if_neg h, List.map_append]
    rfl
theorem once_len (l : List (List Key)) : (onceK l).length ≤ l.length := by
  have : ∀ (l acc : List (List Key)), (l.foldl addK acc).length ≤ acc.length + l.length := by
    intro l
    induction l with
    | nil => intro acc; exact Nat.le_refl _
    | cons k l ih =>
      intro acc
      refine Nat.le_trans (ih (addK acc k)) ?_
      have : (addK acc k).length ≤ acc.length + 1 := by
        unfold addK
        split <;> simp
      rw [List.length_cons]
      omega
  simpa [onceK] using this l []
theorem once_snoc (l : List (List Key)) (k : List Key) : onceK (l ++ [k]) = addK (onceK l) k := by
  unfold onceK
  rw [List.foldl_append]
  rfl
theorem ite1 {A B : Prop} (h : A) : if true = true then A else B := by
  rw [if_pos rfl]
  exact h
/-- the values are tuples of these keys -/
def KeyAll (H : Hp) (xs : List V) (ks : List (List Key)) : Prop := xs.length = ks.length ∧ ∀ (i : Nat) (x : V) (k : List Key), xs[i]? = some x → ks[i]? = some k → ∃ b, x = .ref b ∧ H b = some (.tup (k.map kV))
theorem p_dct {K : PySem.W.Frag} {σ : L2.St} {H : Hp} {tl : TE} {j : Nat} {vs : List Nat} {a : Addr} {xs : List V} {ks : List (List Key)} {Q : VK} (h : Ev tl σ H (.ref a)) (ha : H a = some (.lst xs)) (hx : KeyAll H xs ks) (hz : xs.length ≤ 40000)
    (hw : ∀ x, wipe ((wipe σ vs).set j (some x)) vs = wipe σ vs) (hv : ∀ x, ((wipe σ vs).set j (some x))[j]? = some (some x))
    (q : ∀ D H', H D = none → Ex H H' → H' D = some (.dT (trues (onceK ks))) → Q (.ref D) H') : Dct.tDct (.dT []) (iList K tl) (gName j) tYes (tVar j) (tC (.bl true)) vs σ H Q := by
  refine h H (Ex.refl H) _ fun H1 e1 => ⟨a, rfl, ⟨xs, sq_of (e1 _ _ ha)⟩, fun D hD => ?_⟩
  have fr : H D = none := fresh_back e1 hD
  refine ⟨fun i m H2 => m = xs.length - i ∧ i ≤ xs.length ∧ Ex H H2 ∧ H2 D = some (.dT (trues (onceK (ks.take i)))), ⟨xs.length, by simp, Nat.zero_le _, e1.trans (Ex.new hD), upd_same⟩, ?_⟩
  rintro i m H2 ⟨rfl, hi, ex, hd⟩
  have hl : SqL K H2 a xs := sq_of (ex _ _ ha)
  by_cases lt : i < xs.length
  · refine .inr ⟨⟨xs, xs[i], hl, by simp [lt]⟩, fun H3 => i + 1 ≤ xs.length ∧ Ex H H3 ∧ H3 D = some (.dT (trues (onceK (ks.take (i + 1))))), fun H3 n => ⟨xs.length - (i + 1), by omega, rfl, n⟩, fun x H3 y => ?_⟩
    obtain ⟨rfl, y⟩ := y
    have at_ : xs[i]? = some x := y xs hl
    have lk : i < ks.length := by rw [← hx.1]; exact lt
    obtain ⟨b, rfl, hb⟩ := hx.2 i x ks[i] at_ (List.getElem?_eq_getElem lk)
    refine ⟨hw (.ref b), ?_⟩
    unfold tYes
    simp only [if_true]
    refine ⟨_, hv (.ref b), ?_⟩
    have grow : ks.take (i + 1) = ks.take i ++ [ks[i]] := by rw [List.take_append_getElem lk]
    have short : (trues (onceK (ks.take i))).length < sizeLine := by
      have := once_len (ks.take i)
      rw [List.length_take] at this
      have : (onceK (ks.take i)).length ≤ 40000 := by have := hx.1; omega
      show ((onceK (ks.take i)).map _).length < sizeLine
      rw [List.length_map]
      exact sz_lt (by omega)
    refine ⟨_, DPut.t hd (ex _ _ hb) short, lt, ex.mut fr, ?_⟩
    rw [upd_same, put_true, grow, once_snoc]
  · have e : i = xs.length := by omega
    refine .inl ⟨⟨xs, hl, by omega⟩, q D H2 fr ex ?_⟩
    rw [hd, e, hx.1, List.take_length]
end Chk
namespace Chk
open PySem PySem.Spec PyProof.Rows L2 Evl Pd Gd Us
def clsBody : Stmt → List Stmt
  | .ClassDef (body := b) .. => b
  | _ => []
abbrev mInit : Stmt := (clsBody (top 24)).getD 0 (.Pass ⟨0, 0, 0, 0⟩)
/-- what a setting holds -/
structure Stg where
  kind : Str
  size : Int
  start : Int
  ks : List (List Key)
  hold : Str
def keyOf : PyData → List Key
  | .tuple [.int i, .int j] => [.inl i, .inl j]
  | _ => []
def keysOf : PyData → List (List Key)
  | .list ds => ds.map keyOf
  | _ => []
def settingOf (p : Pts) : Stg := ⟨strOf p.sort, intOf p.size, intOf p.start, onceK (keysOf p.changes), strOf p.hold⟩
structure SetAt (C : Addr) (g : Stg) (a : Addr) (H : Hp) : Prop where
  ex : ∃ dx d fs, H a = some (.ins C dx fs) ∧ H d = some (.dT (trues g.ks)) ∧ fs.lookup ("_kind" : Str) = some (V.str g.kind) ∧ fs.lookup ("_size" : Str) = some (V.int g.size) ∧ fs.lookup ("_start" : Str) = some (V.int g.start) ∧ fs.lookup ("_changes" : Str) = some (V.ref d) ∧ fs.lookup ("_hold" : Str) = some (V.str g.hold) ∧ fs.lookup ("changes" : Str) = none ∧ fs.lookup ("lets" : Str) = none
def SetV (C : Addr) (g : Stg) : PV := fun x H => ∃ a, x = .ref a ∧ SetAt C g a H
theorem mo_set {C : Addr} {g : Stg} : Mo (SetV C g) := fun _ _ _ e ⟨a, h, dx, d, fs, h1, h2, h3⟩ => ⟨a, h, dx, d, fs, e _ _ h1, e _ _ h2, h3⟩
structure DqP (H : Hp) (a b c d e : V) (p : Pts) : Prop where
  sort : Dq H a p.sort
  size : Dq H b p.size
  start : Dq H c p.start
  changes : Dq H d p.changes
  hold : Dq H e p.hold
  short : Short p.changes
/-- what is right -/
theorem right_of {p : Pts} (h : wrong p = none) : inT sorts p.sort = true ∧ betw 2 4 p.size = true ∧ betw 0 (intOf p.size - 1) p.start = true ∧ okChs (intOf p.size) p.changes = true ∧ isHold (strOf p.sort) p.hold = true := by
  unfold wrong at h
  split at h
  · cases h
  split at h
  · cases h
  split at h
  · cases h
  split at h
  · cases h
  split at h
  · cases h
  rename_i h1 h2 h3 h4 h5
  exact ⟨by simpa using h1, by simpa using h2, by simpa using h3, by simpa using h4, by simpa using h5⟩
theorem inT_str {xs : List Str} {d : PyData} (h : inT xs d = true) : d = .str (strOf d) := by
  unfold inT at h
  split at h
  · rfl
  · cases h
theorem betw_int {lo hi : Int} {d : PyData} (h : betw lo hi d = true) : d = .int (intOf d) := by
  unfold betw at h
  split at h
  · rfl
  · cases h
theorem hold_str {s : Str} {d : PyData} (h : isHold s d = true) : d = .str (strOf d) := by
  unfold isHold at h
  split at h
  · exact inT_str h
  · exact inT_str h
theorem ch_list {n : Int} {d : PyData} (h : okChs n d = true) : ∃ ds, d = .list ds ∧ ∀ e ∈ ds, okCh n e = true := by
  unfold okChs at h
  split at h
  · exact ⟨_, rfl, fun e he => (List.all_eq_true.mp h) e he⟩
  · cases h
theorem key_tup {H : Hp} {x : V} {n : Int} {e : PyData} (h : Dq H x e) (ok : okCh n e = true) : ∃ b, x = .ref b ∧ H b = some (.tup ((keyOf e).map kV)) := by
  unfold okCh at ok
  rw [Bool.and_eq_true] at ok
  obtain ⟨i, j, rfl⟩ := isPair_ints ok.1
  cases h with
  | tup h a =>
    cases a with
    | cons h1 a =>
      cases a with
      | cons h2 a =>
        cases a
        cases h1
        cases h2
        exact ⟨_, rfl, h⟩
theorem keyAll_of {H : Hp} {xs : List V} {ds : List PyData} {n : Int} (h : DqAll H xs ds) (ok : ∀ e ∈ ds, okCh n e = true) : KeyAll H xs (ds.map keyOf) := by
  refine ⟨by rw [dqAll_len h, List.length_map], fun i x k hx hk => ?_⟩
  obtain ⟨e, he, hd⟩ := dqAll_at h hx
  rw [List.getElem?_map, he] at hk
  cases hk
  exact key_tup hd (ok e (List.mem_of_getElem? he))
theorem putF_len (f : Str) (v : V) : ∀ fs : List (Str × V), (putF f v fs).length ≤ fs.length + 1
  | [] => Nat.le_refl _
  | (g, x) :: r => by
    unfold putF
    split
    · simp
    · have := putF_len f v r
      simp only [List.length_cons]
      omega
structure ClsS (K : PySem.W.Frag) (C : Addr) : Prop where
  cl : Cls K C
  kind : NoAttr K C "_kind"
  size : NoAttr K C "_size"
  start : NoAttr K C "_start"
  changes : NoAttr K C "_changes"
  hold : NoAttr K C "_hold"
def spInit (C CB : Addr) : Sp := fun vs H Q E => vs.length = 6 ∧ ∃ (a dx : Addr) (x1 x2 x3 x4 x5 : V) (p : Pts), vs = [.ref a, x1, x2, x3, x4, x5] ∧ H a = some (.ins C dx []) ∧ DqP H x1 x2 x3 x4 x5 p ∧
  (∀ t, wrong p = some t → ∀ d H', Ex H H' → H' d = none → E (.ref CB) (some d) (upd H' d (.xd [("part", V.str t)]))) ∧
  (wrong p = none → ∀ H', (∀ b o, b ≠ a → H b = some o → H' b = some o) → SetAt C (settingOf p) a H' → Q .non H')
theorem scInit : FnScope ["self", "sort", "size", "start", "changes", "hold", "part", "pair"] ["self", "sort", "size", "start", "changes", "hold"] (defScope mInit) := ⟨rfl, rfl, rfl, by decide +kernel, rfl, by decide +kernel, by decide +kernel⟩
theorem pf_part : Err.Plain "part" := ⟨by decide +kernel, by decide +kernel⟩
section
variable {P : Program} {w : World} {K : PySem.W.Frag} {mg : Str → Option Value} {base : Heap}
theorem ok_init {C CB fB f : Addr} {fd : FuncData} (F : Fun K "__init__" "Setting.__init__" mInit f fd) (EB : Err.ErrC K CB fB "part") (mB : mg "BadSetting" = some (.ref CB)) (T : ClsS K C)
    (UW : Use P w K mg base 5 "wrong_part" ["sort", "size", "start", "changes", "hold"] (spWrong K)) : FnOk P w K mg base (L2.CX P w) 6 f fd ["self", "sort", "size", "start", "changes", "hold"] (spInit C CB) := by
  refine F.okX scInit (fun vs H Q E h => h.1) (fun cdv A outer s H vs Q E hr h => ?_)
  obtain ⟨_, a, dx, x1, x2, x3, x4, x5, p, rfl, ha, hp, bad, good⟩ := h
  refine ⟨_, pss_cons (ps_set (i := 6) scInit.nd rfl (Or.inl rfl) (pe_use UW hr (by decide) (by rfl) (pa_cons (pv 1) (pa_cons (pv 2) (pa_cons (pv 3) (pa_cons (pv 4) (pa_cons (pv 5) pa_nil)))))))
    (pss_cons (ps_if (pt_cmpR op_notN (pv 6) pe_non (nomark _)) (pss_one (ps_raise rfl (takes_of rfl rfl rfl rfl) (Err.pmk_err EB pf_part (hr.mono (by decide)) mB (by rfl) (pv 6) (fun _ _ _ _ _ _ _ _ _ _ _ _ _ _ => rfl)))) pss_nil)
    (pss_cons (ps_fld (pv 0) (pv 1) rfl) (pss_cons (ps_fld (pv 0) (pv 2) rfl) (pss_cons (ps_fld (pv 0) (pv 3) rfl)
    (pss_cons (ps_fld (pv 0) (Dct.pe_dct (mk := .dT []) (own := [("pair", 7)]) (g := gName 7) (tt := tYes) (tk := tVar 7) (tv := tC (.bl true)) (hu_of hr) (fun _ _ _ h hb => dt_empty h hb) rfl scInit.nd (pi_list (pv 4)) (blkOk_by (N := ["self", "sort", "size", "start", "changes", "hold", "part", "pair"]) (sc := defScope mInit) (by decide +kernel))
      (fun _ _ _ _ _ => pg_name (i := 7) scInit.nd rfl (Or.inl rfl)) (fun _ _ _ _ _ => pts_nil) (fun _ _ _ _ _ => pv 7) (fun _ _ _ _ _ => pe_bl)) rfl)
    (pss_one (ps_fld (pv 0) (pv 5) rfl))))))), ?_⟩
  generalize eW : wrong p = wp at bad good
  refine q_asg (v := strV wp) (fun H1 e1 Q' q' => ⟨x1, rfl, x2, rfl, x3, rfl, x4, rfl, x5, rfl, rfl, x1, x2, x3, x4, x5, p, rfl,
    ⟨dp_up e1 (dq_dp hp.sort), dp_up e1 (dq_dp hp.size), dp_up e1 (dq_dp hp.start), dp_up e1 (dq_dp hp.changes), dp_up e1 (dq_dp hp.hold), hp.short⟩, fun H2 e2 => by rw [eW]; exact q' H2 e2⟩) fun H1 e1 => ?_
  have test : EvT (tTest (tOp (fun x y H Q => y = .non ∧ Q (.bl (!decide (x = .non))) H) (tVar 6) (tC .non))) ((L2.start ["self", "sort", "size", "start", "changes", "hold", "part", "pair"] [.ref a, x1, x2, x3, x4, x5]).set 6 (some (strV wp))) H1 (!decide (strV wp = .non)) :=
    et_test (ev_op (ev_var rfl) ev_c fun H2 _ Q' q' => ⟨rfl, q' H2 (Ex.refl H2)⟩)
  refine q_when test (fun c H2 e2 => ?_) fun c H2 e2 => ?_
  · cases wp with
    | none => simp [strV] at c
    | some t => exact ⟨.str t, rfl, fun d hd => bad t rfl d H2 (e1.trans e2) hd⟩
  cases wp with
  | some t => simp [strV] at c
  | none =>
    have g := good rfl
    obtain ⟨r1, r2, r3, r4, r5⟩ := right_of eW
    obtain ⟨ds, ed, okd⟩ := ch_list r4
    have e02 := e1.trans e2
    have h2a : H2 a = some (.ins C dx []) := e02 _ _ ha
    have s1 : x1 = .str (strOf p.sort) := by
      have := hp.sort
      rw [inT_str r1] at this
      cases this
      rfl
    have s2 : x2 = .int (intOf p.size) := by
      have := hp.size
      rw [betw_int r2] at this
      cases this
      rfl
    have s3 : x3 = .int (intOf p.start) := by
      have := hp.start
      rw [betw_int r3] at this
      cases this
      rfl
    have s5 : x5 = .str (strOf p.hold) := by
      have := hp.hold
      rw [hold_str r5] at this
      cases this
      rfl
    have hch := hp.changes
    rw [ed] at hch
    obtain ⟨l, xs, rfl, hl, hD⟩ : ∃ l xs, x4 = .ref l ∧ H l = some (.lst xs) ∧ DqAll H xs ds := by
      cases hch with
      | lst z h a => exact ⟨_, _, rfl, h, a⟩
    have la : l ≠ a := fun z => by
      rw [z, ha] at hl
      cases hl
    have kx := keyAll_of hD okd
    refine ⟨x1, rfl, .ref a, rfl, a, C, dx, [], rfl, h2a, T.cl, T.kind, by decide, ?_⟩
    refine ⟨x2, rfl, .ref a, rfl, a, C, dx, _, rfl, upd_same, T.cl, T.size, Nat.lt_of_le_of_lt (putF_len _ _ _) (by decide), ?_⟩
    refine ⟨x3, rfl, .ref a, rfl, a, C, dx, _, rfl, upd_same, T.cl, T.start, Nat.lt_of_le_of_lt (putF_len _ _ _) (by have := putF_len "_kind" x1 []; simp at this; omega), ?_⟩
    rw [upd_upd, upd_upd]
    have fl : (putF "_start" x3 (putF "_size" x2 (putF "_kind" x1 []))).length ≤ 3 := by
      have a1 := putF_len "_start" x3 (putF "_size" x2 (putF "_kind" x1 []))
      have a2 := putF_len "_size" x2 (putF "_kind" x1 [])
      have a3 := putF_len "_kind" x1 []
      simp only [List.length_nil] at a3
      omega
    generalize efs : putF "_start" x3 (putF "_size" x2 (putF "_kind" x1 [])) = fs at fl
    have stay : ∀ {b : Addr} {o : HO}, b ≠ a → H b = some o → (upd H2 a (.ins C dx fs)) b = some o := fun {b o} hb h => by
      rw [upd_ne hb]
      exact e02 _ _ h
    have kx' : KeyAll (upd H2 a (.ins C dx fs)) xs (ds.map keyOf) := ⟨kx.1, fun i x k hx hk => by
      obtain ⟨b, eb, hb⟩ := kx.2 i x k hx hk
      exact ⟨b, eb, stay (fun z => by rw [z, ha] at hb; cases hb) hb⟩⟩
    dsimp only [tSeq, sFld]
    refine p_dct (j := 7) (vs := [7]) (ev_var rfl) (stay la hl) kx' (by have := hp.short ds ed; rw [dqAll_len hD]; omega) ?w1 ?w2 fun D H3 hn e3 hd => ?_
    case w1 => exact fun _ => rfl
    case w2 => exact fun _ => rfl
    refine ⟨.ref a, rfl, a, C, dx, fs, rfl, e3 _ _ upd_same, T.cl, T.changes, by omega, ?_⟩
    refine ⟨x5, rfl, .ref a, rfl, a, C, dx, _, rfl, upd_same, T.cl, T.hold, by have := putF_len "_changes" (V.ref D) fs; omega, ?_⟩
    rw [upd_upd]
    refine g _ (fun b o hb h => ?_) ⟨dx, D, _, upd_same, ?_, ?_, ?_, ?_, ?_, ?_, ?_, ?_⟩
    · rw [upd_ne hb]
      exact e3 _ _ (stay hb h)
    · have : D ≠ a := fun z => by
        rw [z, upd_same] at hn
        cases hn
      rw [upd_ne this, hd]
      show _ = some (HO.dT (trues (onceK (keysOf p.changes))))
      rw [ed]
      rfl
    all_goals rw [← efs]
    all_goals repeat rw [lookup_putF]
    · rw [if_neg (by decide), if_neg (by decide), if_neg (by decide), if_neg (by decide), if_pos rfl, s1]; rfl
    · rw [if_neg (by decide), if_neg (by decide), if_neg (by decide), if_pos rfl, s2]; rfl
    · rw [if_neg (by decide), if_neg (by decide), if_pos rfl, s3]; rfl
    · rw [if_neg (by decide), if_pos rfl]
    · rw [if_pos rfl, s5]; rfl
    · rw [if_neg (by decide), if_neg (by decide), if_neg (by decide), if_neg (by decide), if_neg (by decide)]; rfl
    · rw [if_neg (by decide), if_neg (by decide), if_neg (by decide), if_neg (by decide), if_neg (by decide)]; rfl
end
end Chk
/-! a == b and a != b of an own class that has __eq__ alone, both answers. -/
namespace OwnNe
open PySem PySem.W PySem.Calls PyProof.Rows
section
variable {prog : Program} {w : World} {A : Around} {E : Value → Shared → Prop} {s : Shared} {K : Frag} {x C L f : Addr} {h₀ : Heap} {m : Str → Option Value} {ox : Obj} {od : Option Obj} {name : Str} {b tb : Value} {B id : String}
theorem bound_slot {M : Model} {args : List Value} {Q : Option Value → Shared → Prop} (X : K.In s.heap) (I : InstAt s.heap x ox C od) (hs : findIn K (.ref C) name = some (some (.builtin id))) (S : Slot B name id)
    (h : wpAny M A (call (.builtin id) (.ref x :: args)) (fun v => Q (some v)) E s) : wpAny M A (callSpecialIfBound? (.ref x) name args) Q E s := by
  simp only [callSpecialIfBound?, bindSpecialIfBound?]
  refine wpAny_holding (wpAny_bind (wpAny_bind (wpAny_bind (I.type.here ((looks_findIn X hs).here ?_)))))
  simp only [S.bind]
  refine wpAny_bind (wpAny_askSetting (wpAny_ite ?_))
  have last : wpAny M A (call (.builtin id) ([.ref x] ++ args) >>= fun v => pure (some v)) Q E s := wpAny_bind (wpAny_mono h (fun v s' h' => wpAny_pure h') fun _ _ e => e)
  split
  · exact wpAny_bind (wpAny_pure (wpAny_pure last))
  · exact wpAny_tryCatch (wpAny_bind (wpAny_pure (wpAny_pure last)))
structure EqC (K : Frag) (C f : Addr) : Prop where
  eq : findIn K (.ref C) "__eq__" = some (some (.ref f))
  ne : findIn K (.ref C) "__ne__" = some (some (.builtin "object.__ne__"))
  fn : isFn K (.ref f) = true
  ob : mroIn K C (.type "object") = some true
/-- object.__ne__ asks the own __eq__ -/
theorem ne_entry {Q : Fin → Shared → Prop} (X : K.In s.heap) (I : InstAt s.heap x ox C od) (T : EqC K C f) (hu : A.units < cLine)
    (hc : wpAny (model prog w) A (call (.ref f) [.ref x, b]) (fun v s' => ∃ r, v = .bool r ∧ Q (.done (.ret (.bool (!r)))) s') E s) : wpAny (model prog w) A (Builtin.«object.__ne__» ⟨[.ref x, b], []⟩) Q E s := by
  unfold Builtin.«object.__ne__»
  repeat (first
    | with_reducible refine wpAny_cRoomFor hu ?_
    | (refine wpAny_bind (m := callSpecialIfBound? (.ref x) (Str.ofString "__eq__") [b]) (ifBound_K X I T.eq T.fn (wpAny_mono hc (fun r s' hr => by
        obtain ⟨q, rfl, hq⟩ := hr
        repeat (first | exact hq | exact wpAny_pure hq | exact wpAny_truthy_bool hq | (refine wpAny_bind (m := truthy (.bool _)) (wpAny_truthy_bool ?_)) | wp_step)) fun _ _ e => e)))
    | wp_step)
theorem ne_K {Q : Value → Shared → Prop} (hu : A.units + 1 < cLine) (X : K.In s.heap) (I : InstAt s.heap x ox C od) (hb : Looks (model prog w) s.heap (typeOf b) tb) (hn : notFirst K C tb = true) (T : EqC K C f)
    (hc : wpAny (model prog w) A.in1 (call (.ref f) [.ref x, b]) (fun v s' => ∃ r, v = .bool r ∧ Q (.bool (!r)) s') E s) : wpAny (model prog w) A (richCompare .NotEq (.ref x) b) Q E s := by
  have sub : Looks (model prog w) s.heap (isInstance (.ref x) (.type "object")) true := I.type.andThen (looks_mroIn X T.ob)
  have one : wpAny (model prog w) A (tryCompare (.ref x) "__ne__" b) (fun r s' => ∃ v, r = some v ∧ Q v s') E s := by
    unfold tryCompare
    refine wpAny_bind (bound_slot X I T.ne PySem.F.cmp_object.ne (wpAny_call (codeAny_call_builtin PySem.F.cmp_object.ne.plain PySem.F.cmpEntry_ne
      (@check_slot (model prog w) _ _ s "object.__ne__" "object" "__ne__" (.ref x) [b] [] _ PySem.F.cmpKind_ne PySem.F.cmpSplit_ne sub (PySem.F.cmpArgs_ne _ _) (ne_entry (A := A.in1) X I T hu (wpAny_mono hc (fun v s' hv => ?_) fun _ _ e => e))))))
    obtain ⟨r, rfl, hq⟩ := hv
    first | exact ⟨r, rfl, wpAny_pure ⟨_, rfl, hq⟩⟩ | exact ⟨r, rfl, wpAny_pure (wpAny_pure ⟨_, rfl, hq⟩)⟩ | exact ⟨r, rfl, ⟨_, rfl, hq⟩⟩
  unfold richCompare
  simp only [oneThing_ref]
  refine wpAny_holding (wpAny_bind (wpAny_cRoomFor (Nat.lt_of_succ_lt hu) ?_))
  refine wpAny_bind (I.type.here (wpAny_bind (hb.here ?_)))
  split
  · rename_i q
    have e : subIn K tb (.ref C) = some false := by
      rcases Bool.or_eq_true_iff.mp hn with e | e
      · rw [beq_iff_eq.mp e] at q; simp at q
      · exact beq_iff_eq.mp e
    refine wpAny_bind ((looks_subIn X e).here ?_)
    simp only [Bool.false_eq_true, if_false]
    refine wpAny_bind (wpAny_mono one (fun r s' z => ?_) fun _ _ e => e)
    obtain ⟨v, rfl, hq⟩ := z
    exact wpAny_pure hq
  · refine wpAny_bind (wpAny_pure ?_)
    simp only [Bool.false_eq_true, if_false]
    refine wpAny_bind (wpAny_mono one (fun r s' z => ?_) fun _ _ e => e)
    obtain ⟨v, rfl, hq⟩ := z
    exact wpAny_pure hq
end
end OwnNe
namespace OwnNe
open PySem PySem.Spec PyProof.Rows L2 Evl Pd
/-- what stands beside an instance of the class at C: another one, or a list -/
def Beside (C : Addr) (y : V) (H : Hp) : Prop := (∃ b dy gs, y = .ref b ∧ H b = some (.ins C dy gs)) ∨ ∃ b xs, y = .ref b ∧ H b = some (.lst xs)
def rOwn (C : Addr) (sp : Sp) (neg : Bool) : R2 := fun x y H Q => ∃ (a dx : Addr) (fs : List (Str × V)), x = .ref a ∧ H a = some (.ins C dx fs) ∧ Beside C y H ∧ sp [.ref a, y] H (fun v H' => ∃ r, v = .bl r ∧ Q (.bl (if neg then !r else r)) H') (fun _ _ _ => False)
section
variable {X : Cx} {C f : Addr} {fd : FuncData} {ps : List Str} {sp : Sp} {n : Nat}
theorem look_beside {pins : List (Addr × Obj)} {σ : L2.St} {H : Hp} {s : Shared} {y : V} {u : Value} (I : Inv X pins σ H s) (ry : RelV y u) (h : Beside C y H) (nl : PySem.W.notFirst X.K C (.type "list") = true) :
    ∃ tb, PySem.W.Looks (model X.prog X.w) s.heap (typeOf u) tb ∧ PySem.W.notFirst X.K C tb = true := by
  rcases h with ⟨b, dy, gs, rfl, hb⟩ | ⟨b, xs, rfl, hb⟩
  · cases ry
    obtain ⟨mB, J, _⟩ := ins_get I.hok hb
    obtain ⟨od, J, _⟩ := J.look
    exact ⟨.ref C, J.type, by simp [PySem.W.notFirst]⟩
  · cases ry
    obtain ⟨_, its, k, _, ho⟩ := (show ObjOk X.prog X.w H s.heap b (.lst xs) from I.hok b _ hb)
    exact ⟨.type "list", fun A Q E s' kk q => wpAny_typeOf_ref (kk _ _ ho) q, nl⟩
theorem op_eqOwn (F : FnOk X.prog X.w X.K X.mg X.base CX0 n f fd ps sp) (T : EqC X.K C f) (hb : L2.Binds X.K fd ps []) (hr : Room n X.A) (nl : PySem.W.notFirst X.K C (.type "list") = true) : OpR X (compareOp .Eq) (rOwn C sp false) := by
  intro pins s σ H x y v u Q I rx ry h
  obtain ⟨a, dx, fs, rfl, ha, hy, q⟩ := h
  obtain rfl : v = Value.ref a := rx
  obtain ⟨tb, L, nf⟩ := look_beside I ry hy nl
  obtain ⟨mA, J, _⟩ := ins_get I.hok ha
  obtain ⟨od, J, _⟩ := J.look
  obtain ⟨m, hF⟩ := I.fr
  have hu := hr.un
  refine PySem.W.cmp_K (op := .Eq) (tb := tb) (by omega) hF I.ok.mod.kin J L nf T.eq T.fn ?_
  have r2 : Vals [V.ref a, y] [Value.ref a, u] := .cons rfl (.cons ry .nil)
  refine wpAny_mono (run_fn F hr hb .nil pass0 I r2 (by rw [List.append_nil]; exact q)) (fun z s1 hz => ?_) fun _ _ e => e
  obtain ⟨v, H1, I1, rz, r, rfl, q1⟩ := hz
  cases rz
  exact ⟨.bl r, H1, I1, rfl, q1⟩
theorem op_neOwn (F : FnOk X.prog X.w X.K X.mg X.base CX0 n f fd ps sp) (T : EqC X.K C f) (hb : L2.Binds X.K fd ps []) (hr : Room (n + 1) X.A) (nl : PySem.W.notFirst X.K C (.type "list") = true) : OpR X (compareOp .NotEq) (rOwn C sp true) := by
  intro pins s σ H x y v u Q I rx ry h
  obtain ⟨a, dx, fs, rfl, ha, hy, q⟩ := h
  obtain rfl : v = Value.ref a := rx
  obtain ⟨tb, L, nf⟩ := look_beside I ry hy nl
  obtain ⟨mA, J, _⟩ := ins_get I.hok ha
  obtain ⟨od, J, _⟩ := J.look
  have hu := hr.un
  refine ne_K (tb := tb) (by omega) I.kIn J L nf T ?_
  have r2 : Vals [V.ref a, y] [Value.ref a, u] := .cons rfl (.cons ry .nil)
  have hl := F.len _ _ _ _ q
  have e0 : Env0 X.prog X.w X.K X.mg X.base X.A.in1 X.stack s H := by
    have e := I.env0
    exact ⟨e.frames, e.mod, e.bs, e.bsz, e.funs, e.frf, e.hok, e.bare⟩
  refine wpAny_call (codeAny_mono (F.run X.A.in1 X.stack s H ⟨[.ref a, u], []⟩ [.ref a, u] [.ref a, y] _ _ hr.in1 e0 (by
    have := hb s [.ref a, u] I.kIn (by simpa using hl)
    simpa using this) r2 q) fun r s' hq => ?_)
  cases r with
  | error e => exact (show False from hq).elim
  | ok fl =>
    cases fl with
    | ret w =>
      obtain ⟨z, H', I', rz, r, rfl, q1⟩ := I.after hq
      cases rz
      exact ⟨r, rfl, .bl (!r), H', I', rfl, q1⟩
    | next => exact False.elim hq
    | brk => exact False.elim hq
    | cont => exact False.elim hq
end
end OwnNe
namespace Chk
open PySem PySem.Spec PyProof.Rows L2 Evl Pd Gd Us
abbrev mth (j : Nat) : Stmt := (clsBody (top 24)).getD j (.Pass ⟨0, 0, 0, 0⟩)
abbrev mKind : Stmt := mth 1
abbrev mSize : Stmt := mth 2
abbrev mStart : Stmt := mth 3
abbrev mHold : Stmt := mth 4
abbrev mChanges : Stmt := mth 5
abbrev mLets : Stmt := mth 6
abbrev mEq : Stmt := mth 7
theorem scKind : FnScope ["self"] ["self"] (defScope mKind) := ⟨rfl, rfl, rfl, by decide +kernel, rfl, by decide +kernel, by decide +kernel⟩
theorem scSize : FnScope ["self"] ["self"] (defScope mSize) := ⟨rfl, rfl, rfl, by decide +kernel, rfl, by decide +kernel, by decide +kernel⟩
theorem scStart : FnScope ["self"] ["self"] (defScope mStart) := ⟨rfl, rfl, rfl, by decide +kernel, rfl, by decide +kernel, by decide +kernel⟩
theorem scHoldP : FnScope ["self"] ["self"] (defScope mHold) := ⟨rfl, rfl, rfl, by decide +kernel, rfl, by decide +kernel, by decide +kernel⟩
theorem scChangesM : FnScope ["self"] ["self"] (defScope mChanges) := ⟨rfl, rfl, rfl, by decide +kernel, rfl, by decide +kernel, by decide +kernel⟩
theorem scLets : FnScope ["self", "one", "other"] ["self", "one", "other"] (defScope mLets) := ⟨rfl, rfl, rfl, by decide +kernel, rfl, by decide +kernel, by decide +kernel⟩
theorem scEq : FnScope ["self", "other"] ["self", "other"] (defScope mEq) := ⟨rfl, rfl, rfl, by decide +kernel, rfl, by decide +kernel, by decide +kernel⟩
section
variable {σ : L2.St} {H : Hp} {te ta tb : TE} {K : PySem.W.Frag} {C : Addr} {f : Str} {v : V}
theorem ev_fld {a dx : Addr} {fs : List (Str × V)} (c : Cls K C) (n : NoAttr K C f) (he : Ev te σ H (.ref a)) (h : H a = some (.ins C dx fs)) (l : fs.lookup f = some v) : Ev (tFld K te f) σ H v := fun H1 e Q q =>
  he H1 e _ fun H2 e2 => ⟨a, C, dx, fs, v, rfl, e2 _ _ (e _ _ h), c, n, l, q H2 e2⟩
def eqK (ks ls : List (List Key)) : Bool := ks.length == ls.length && ks.all fun k => ls.any fun j => decide (j = k)
def eqS (g h : Stg) : Bool := decide (g.kind = h.kind) && (decide (g.size = h.size) && (decide (g.start = h.start) && (eqK g.ks h.ks && decide (g.hold = h.hold))))
def hasK (g : Stg) (d e : PyData) : Bool := match d, e with
  | .int i, .int j => g.ks.any fun k => decide (k = [.inl i, .inl j])
  | _, _ => false
theorem val_true (ks : List (List Key)) (k : List Key) : (valV (trues ks) k).isSome = ks.any fun x => decide (x = k) := by
  unfold valV trues
  rw [Option.isSome_map, Bool.eq_iff_iff, List.find?_isSome]
  simp only [List.any_eq_true, List.mem_map, decide_eq_true_eq]
  constructor
  · rintro ⟨p, ⟨j, hj, rfl⟩, e⟩
    exact ⟨j, hj, e⟩
  · rintro ⟨j, hj, e⟩
    exact ⟨_, ⟨j, hj, rfl⟩, e⟩
end
def spEqS (C : Addr) : Sp := fun vs H Q _ => vs.length = 2 ∧ ∃ a g y, vs = [.ref a, y] ∧ SetAt C g a H ∧ ((∃ b g', y = .ref b ∧ SetAt C g' b H ∧ ∀ H', Ex H H' → Q (.bl (eqS g g')) H') ∨ ∃ b xs, y = .ref b ∧ H b = some (.lst xs) ∧ ∀ H', Ex H H' → Q (.bl false) H')
def spLets (K : PySem.W.Frag) (C : Addr) : Sp := fun vs H Q _ => vs.length = 3 ∧ ∃ a g y z d e, vs = [.ref a, y, z] ∧ SetAt C g a H ∧ Dp K H y d ∧ Dp K H z e ∧ ∀ H', Ex H H' → Q (.bl (hasK g d e)) H'
section
variable {P : Program} {w : World} {K : PySem.W.Frag} {mg : Str → Option Value} {base : Heap} {C f : Addr} {fd : FuncData}
theorem ok_get {x q : Str} {st : Stmt} {g : Str} {p1 p2 p3 : Pos} (F : Fun K x q st f fd) (S : FnScope ["self"] ["self"] (defScope st)) (hb : defBody st = [.Return (some (.Attribute (.Name "self" p1) g p2)) p3]) (c : Cls K C) (n : NoAttr K C g) : FnOk P w K mg base CX0 1 f fd ["self"] (getSp C g) := by
  refine F.ok S (fun vs H Q E h => ?_) (fun cdv A outer s H vs Q E hr h => ?_)
  · obtain ⟨a, dx, fs, v, rfl, _⟩ := h
    rfl
  · obtain ⟨a, dx, fs, v, rfl, ea, l, q⟩ := h
    rw [hb]
    refine ⟨_, pss_one (ps_ret (pe_fld (pe_var (i := 0) rfl ((S.par "self" (List.Mem.head _)).elim (fun z => .inl z) (fun z => .inr (.inl z)))) rfl)), ?_⟩
    exact ⟨.ref a, rfl, a, C, dx, fs, v, rfl, ea, c, n, l, q⟩
theorem ok_eqS (F : Fun K "__eq__" "Setting.__eq__" mEq f fd) (B : Bc mg) (mS : mg "Setting" = some (.ref C)) (T : ClsS K C) (I : C8.InsC K C) (nl : PySem.W.kitOne K (.type "list") (.ref C) = some false) : FnOk P w K mg base CX0 1 f fd ["self", "other"] (spEqS C) := by
  refine F.ok scEq (fun vs H Q E h => h.1) (fun cdv A outer s H vs Q E hr h => ?_)
  obtain ⟨_, a, g, y, rfl, hg, h⟩ := h
  refine ⟨_, pss_one (ps_ret (pe_and (pe_callB call_isi (by rfl) B.isi boot_isinstance (pa_cons (pv 1) (pa_cons (pe_gref (by rfl) mS) pa_nil)))
    (pe_and (pe_cmpR op_eq (pe_fld (pv 0) rfl) (pe_fld (pv 1) rfl) (nomark _)) (pe_and (pe_cmpR op_eq (pe_fld (pv 0) rfl) (pe_fld (pv 1) rfl) (nomark _)) (pe_and (pe_cmpR op_eq (pe_fld (pv 0) rfl) (pe_fld (pv 1) rfl) (nomark _))
    (pe_and (pe_cmpR (EqT.op_eqT (hu_of hr)) (pe_fld (pv 0) rfl) (pe_fld (pv 1) rfl) (nomark _)) (pe_one (pe_cmpR op_eq (pe_fld (pv 0) rfl) (pe_fld (pv 1) rfl) (nomark _)))))))))
    , ?_⟩
  have isi : ∀ {t : Value} {b : Bool}, TyX K H y t → PySem.W.kitOne K t (.ref C) = some b → (∀ H1, Ex H H1 → TyX K H1 y t) → Ev (tCB (rIsi K) (tCons (tVar 1) (tCons (tC (.ref C)) tNil))) (L2.start ["self", "other"] [.ref a, y]) H (.bl b) := fun {t b} _ hk up H1 e Q q =>
    ⟨y, rfl, y, .ref C, t, .ref C, b, rfl, .own C, up H1 e, hk, q H1 (Ex.refl H1)⟩
  obtain ⟨dx, d, fs, ha, hd, f1, f2, f3, f4, f5, _⟩ := hg.ex
  have sf : ∀ {n : Str} {v : V}, NoAttr K C n → fs.lookup n = some v → Ev (tFld K (tVar 0) n) (L2.start ["self", "other"] [.ref a, y]) H v := fun n l => ev_fld T.cl n (ev_var rfl) ha l
  rcases h with ⟨b, g', rfl, hg', q⟩ | ⟨b, xs, rfl, hb, q⟩
  · obtain ⟨dy, e, gs, hb, he, k1, k2, k3, k4, k5, _⟩ := hg'.ex
    have ty : ∀ H1, Ex H H1 → TyX K H1 (.ref b) (.ref C) := fun H1 ex => .base (.ins (ex _ _ hb) T.cl I.ha I.hn I.htk I.hm)
    have of_ : ∀ {n : Str} {v : V}, NoAttr K C n → gs.lookup n = some v → Ev (tFld K (tVar 1) n) (L2.start ["self", "other"] [.ref a, .ref b]) H v := fun n l => ev_fld T.cl n (ev_var rfl) hb l
    have dicts : Ev (tOp EqT.rEqT (tFld K (tVar 0) "_changes") (tFld K (tVar 1) "_changes")) (L2.start ["self", "other"] [.ref a, .ref b]) H (.bl (eqK g.ks g'.ks)) :=
      ev_op (sf T.changes f4) (of_ T.changes k4) fun H1 ex Q q => ⟨d, e, g.ks, g'.ks, rfl, rfl, ex _ _ hd, ex _ _ he, q H1 (Ex.refl H1)⟩
    refine s_ret (ev_is (ev_andV (isi (ty H (Ex.refl H)) I.me ty) fun _ => ev_andV (ev_op (sf T.kind f1) (of_ T.kind k1) (rv_eq rfl)) fun _ => ev_andV (ev_op (sf T.size f2) (of_ T.size k2) (rv_eq rfl)) fun _ => ev_andV (ev_op (sf T.start f3) (of_ T.start k3) (rv_eq rfl)) fun _ =>
      ev_andV dicts fun _ => ev_op (sf T.hold f5) (of_ T.hold k5) (rv_eq rfl)) ?_) fun H1 ex => q H1 ex
    unfold eqS
    rw [Bool.true_and]
    simp
  · have ty : ∀ H1, Ex H H1 → TyX K H1 (.ref b) (.type "list") := fun H1 ex => .base (.lst (ex _ _ hb))
    exact s_ret (ev_is (ev_andV (b := false) (isi (ty H (Ex.refl H)) nl ty) fun c => nomatch c) rfl) fun H1 ex => q H1 ex
theorem ok_lets (F : Fun K "lets" "Setting.lets" mLets f fd) (T : ClsS K C) (UI : Use P w K mg base 1 "is_integer" ["value"] (spAsk K 1 (rInteger K))) : FnOk P w K mg base CX0 2 f fd ["self", "one", "other"] (spLets K C) := by
  refine F.ok scLets (fun vs H Q E h => h.1) (fun cdv A outer s H vs Q E hr h => ?_)
  obtain ⟨_, a, g, y, z, d, e, rfl, hg, hy, hz, q⟩ := h
  refine ⟨_, pss_one (ps_ret (pe_and (pe_use UI hr (by decide) (by rfl) (pa_cons (pv 1) pa_nil)) (pe_and (pe_use UI hr (by decide) (by rfl) (pa_cons (pv 2) pa_nil))
    (pe_one (pe_cmp (pc_din (hu_of hr) (pe_tup (pa_cons (pv 1) (pa_cons (pv 2) pa_nil))) (pe_fld (pv 0) rfl)) (by rfl)))))), ?_⟩
  obtain ⟨dx, dd, fs, ha, hd, f1, f2, f3, f4, f5, _⟩ := hg.ex
  have int : ∀ {j : Nat} {v : V} {c : PyData}, (L2.start ["self", "one", "other"] [.ref a, y, z])[j]? = some (some v) → Dp K H v c → Ev (tCall (spAsk K 1 (rInteger K)) [] (fun _ _ _ => False) (tCons (tVar j) tNil)) (L2.start ["self", "one", "other"] [.ref a, y, z]) H (.bl (isI c)) := fun {j v c} hj hc =>
    ev_ask (Ps := [De K c]) rfl (ps_cons mo_de (p_var hj mo_de hc) ps_nil) fun xs H1 ex ps => by
      match xs, ps with
      | [u], ⟨pu, _⟩ => exact ⟨u, c, rfl, pu, rfl⟩
  refine s_ret (ev_is (ev_andV (b := isI e && hasK g d e) (int rfl hy) fun c1 => ev_andV (b := hasK g d e) (int rfl hz) fun c2 => ?_) ?_) fun H1 ex => q H1 ex
  · cases d with
    | int i =>
      cases e with
      | int j =>
        rw [dp_int hy, dp_int hz]
        refine fun H1 e1 Q q => ⟨_, rfl, _, rfl, show 2 ≤ sizeLine from by decide, fun p hp => ?_⟩
        have e2 : Ex H (upd H1 p (.tup [.int i, .int j])) := e1.trans (Ex.new hp)
        refine ⟨.ref a, rfl, a, C, dx, fs, .ref dd, rfl, e2 _ _ ha, T.cl, T.changes, f4, dd, _, rfl, DGet.t (k := [.inl i, .inl j]) (e2 _ _ hd) upd_same, ?_⟩
        rw [val_true]
        exact q _ (Ex.new hp)
      | _ => cases c2
    | _ => cases c1
  · cases d <;> first | rfl | (cases e <;> rfl)
end
end Chk
namespace Chk
open PySem PySem.Spec PyProof.Rows L2 Evl Pd Gd Us
def keyD : Key → PyData
  | .inl i => .int i
  | .inr s => .str s
def pairD (k : List Key) : PyData := .tuple (k.map keyD)
/-- by their texts -/
def sortD (ds : List PyData) : List PyData := ds.mergeSort (PySem.W.dataLe false fun d => PyData.str (txt d))
theorem dqAll_pairs {H : Hp} : ∀ {l : List (V × PyData)}, (∀ p ∈ l, Dq H p.1 p.2) → DqAll H (l.map (·.1)) (l.map (·.2))
  | [], _ => .nil
  | p :: l, h => .cons (h p List.mem_cons_self) (dqAll_pairs fun q hq => h q (List.mem_cons_of_mem _ hq))
theorem dqAll_zip {H : Hp} : ∀ {xs : List V} {ds : List PyData}, DqAll H xs ds → ∀ p ∈ xs.zip ds, Dq H p.1 p.2
  | _, _, .nil, p, hp => by cases hp
  | _, _, .cons h t, p, hp => by
    rcases List.mem_cons.mp hp with rfl | hp
    · exact h
    · exact dqAll_zip t p hp
theorem dq_sorted {H : Hp} {xs : List V} {ds : List PyData} (h : DqAll H xs ds) : DqAll H ((bySt (xs.zip ds)).map (·.1)) (sortD ds) := by
  have e : (bySt (xs.zip ds)).map (·.2) = sortD ds := by
    unfold bySt sortD
    have z := List.map_mergeSort (r := PySem.W.dataLe false fun b : V × PyData => PyData.str (txt b.2)) (s := PySem.W.dataLe false fun d => PyData.str (txt d)) (f := fun x : V × PyData => x.2) (l := xs.zip ds) (fun a _ b _ => rfl)
    rw [z]
    rw [List.map_snd_zip (by rw [dqAll_len h]; exact Nat.le_refl _)]
  rw [← e]
  refine dqAll_pairs fun p hp => dqAll_zip h p ?_
  exact List.mem_mergeSort.mp hp
theorem dq_keys {H : Hp} : ∀ k : List Key, DqAll H (k.map kV) (k.map keyD)
  | [] => .nil
  | .inl i :: k => .cons (.int i) (dq_keys k)
  | .inr s :: k => .cons (.str s) (dq_keys k)
theorem dq_isKeys {H : Hp} : ∀ {ks : List (List Key)} {bs : List Addr}, IsKeys H (trues ks) bs → DqAll H (bs.map V.ref) (ks.map pairD)
  | [], _, h => by
    cases h
    exact .nil
  | k :: ks, _, h => by
    cases h with
    | cons a t => exact .cons (.tup a (dq_keys k)) (dq_isKeys t)
def spChs (C : Addr) : Sp := fun vs H Q _ => vs.length = 1 ∧ ∃ a g, vs = [.ref a] ∧ SetAt C g a H ∧ (∀ k ∈ g.ks, Showy (pairD k)) ∧ g.ks.length ≤ 1000 ∧ ∀ x H', Ex H H' → (∃ r, x = .ref r ∧ H r = none) → Qe (.list (sortD (g.ks.map pairD))) x H' → Q x H'
section
variable {P : Program} {w : World} {K : PySem.W.Frag} {mg : Str → Option Value} {base : Heap} {C f : Addr} {fd : FuncData}
theorem ok_chs (F : Fun K "changes" "Setting.changes" mChanges f fd) (T : ClsS K C) (bs : mg "sorted" = none) (bl : mg "list" = none) (bt : mg "str" = none) : FnG P w K mg base CX0 1 f fd ["self"] (spChs C) := by
  refine okG F scChangesM (fun vs H Q E h => h.1) (fun cdv A outer s H vs Q E hr hg h => ?_)
  obtain ⟨_, a, g, rfl, hgA, hs, hl, q⟩ := h
  have hu : (A.deeper (envOfC "Setting.changes" (defScope mChanges) s.heap.objs.size f cdv)).units + 64 < cLine := by have := hr.un; omega
  refine ⟨_, pss_one (ps_ret (pe_callBK (cr_sortS hg hu) (by rfl) bs (by decide +kernel) (pa_cons (pe_callTy (call_list_dT rfl) (by rfl) bl boot_list (pa_cons (pe_fld (pv 0) rfl) pa_nil)) pa_nil) (pk_cons (pe_bltn (v := .ty "str") (by rfl) bt boot_str rfl) pk_nil))), ?_⟩
  obtain ⟨dx, d, fs, ha, hd, f1, f2, f3, f4, f5, _⟩ := hgA.ex
  refine ⟨.ref a, rfl, a, C, dx, fs, .ref d, rfl, ha, T.cl, T.changes, f4, d, trues g.ks, rfl, .inl hd, fun p bs hp hk => ?_⟩
  have hq := dq_isKeys hk
  have e1 : Ex H (upd H p (.lst (bs.map V.ref))) := Ex.new hp
  refine ⟨p, bs.map V.ref, g.ks.map pairD, rfl, rfl, sq_of upd_same, dqAll_dp (dqAll_up e1 hq), fun e he => ?_, fun r hr2 => ?_⟩
  · obtain ⟨k, hk, rfl⟩ := List.mem_map.mp he
    exact hs k hk
  · refine q (.ref r) _ (e1.trans (Ex.new hr2)) ⟨r, rfl, fresh_back e1 hr2⟩ (.lst ?_ upd_same (dqAll_up (e1.trans (Ex.new hr2)) (dq_sorted hq)))
    rw [List.length_map]
    unfold bySt
    rw [List.length_mergeSort, List.length_zip, dqAll_len hq, Nat.min_self, List.length_map]
    omega
end
end Chk
namespace Chk
open PySem PySem.Spec PyProof.Rows L2 Evl Pd Gd Us
def ptsV (p : Pts) : List PV := [Qe p.sort, Qe p.size, Qe p.start, Qe p.changes, Qe p.hold]
theorem dqP_of {H : Hp} {xs : List V} {p : Pts} (h : AllP (ptsV p) xs H) (hs : Short p.changes) : ∃ a b c d e, xs = [a, b, c, d, e] ∧ DqP H a b c d e p := by
  match xs, h with
  | [a, b, c, d, e], ⟨h1, h2, h3, h4, h5, _⟩ => exact ⟨a, b, c, d, e, rfl, h1, h2, h3, h4, h5, hs⟩
theorem dqP_up {H H' : Hp} {a b c d e : V} {p : Pts} (x : Ex H H') (h : DqP H a b c d e p) : DqP H' a b c d e p := ⟨dq_up x h.sort, dq_up x h.size, dq_up x h.start, dq_up x h.changes, dq_up x h.hold, h.short⟩
section
variable {σ : L2.St} {H : Hp} {ta : TA} {C CB : Addr} {p : Pts} {E : XK}
theorem ex_laid {H1 : Hp} {x dx : Addr} (h1 : H1 x = none) (h2 : H1 dx = none) : Ex H1 (upd (upd H1 dx (.own x)) x (.ins C dx [])) := fun b o e => by
  rw [upd_ne (ne_of_none e h1), upd_ne (ne_of_none e h2)]
  exact e
/-- Setting(..) of right parts -/
theorem p_make (h : EvPs ta σ H (ptsV p)) (hs : Short p.changes) (ok : wrong p = none) : EvP (tMake C (spInit C CB) [] E ta) σ H (SetV C (settingOf p)) := fun H1 e Q q => h H1 e _ fun xs H2 e2 ps x dx n1 n2 _ => by
  obtain ⟨a, b, c, d, f, rfl, hp⟩ := dqP_of ps hs
  have up := ex_laid (C := C) n1 n2
  refine ⟨rfl, x, dx, a, b, c, d, f, p, rfl, upd_same, dqP_up up hp, fun t ht => (by rw [ok] at ht; cases ht), fun _ H3 kp at_ => ⟨rfl, q _ H3 ?_ ⟨x, rfl, at_⟩⟩⟩
  exact e2.trans fun b o eb => kp b o (ne_of_none eb n1) (up b o eb)
/-- Setting(..) of parts of which one is wrong -/
theorem make_bad {Q : VK} {t : Str} (h : EvPs ta σ H (ptsV p)) (hs : Short p.changes) (bad : wrong p = some t) (hE : ∀ d H', Ex H H' → H' d = none → E (.ref CB) (some d) (upd H' d (.xd [("part", V.str t)]))) : tMake C (spInit C CB) [] E ta σ H Q :=
  h H (Ex.refl H) _ fun xs H2 e2 ps x dx n1 n2 _ => by
    obtain ⟨a, b, c, d, f, rfl, hp⟩ := dqP_of ps hs
    have up := ex_laid (C := C) n1 n2
    refine ⟨rfl, x, dx, a, b, c, d, f, p, rfl, upd_same, dqP_up up hp, fun u hu d H3 ex hd => ?_, fun ok => (by rw [bad] at ok; cases ok)⟩
    rw [bad] at hu
    cases hu
    exact hE d H3 (e2.trans (up.trans ex)) hd
end
/-! ### what is asked of a setting -/
section
variable {σ : L2.St} {H : Hp} {te ta tb : TE} {K : PySem.W.Frag} {C : Addr} {g h : Stg} {E : XK}
/-- its parts -/
theorem ev_prop {n : Str} {v : V} (he : EvP te σ H (SetV C g)) (l : ∀ {a : Addr} {H : Hp}, SetAt C g a H → ∃ dx fs, H a = some (.ins C dx fs) ∧ fs.lookup n = some v) : Ev (tProp C (getSp C n) [] E te) σ H v := fun H1 e Q q =>
  he H1 e _ fun x H2 e2 ⟨a, ex, at_⟩ => by
    obtain ⟨dx, fs, ha, hl⟩ := l at_
    exact ⟨a, dx, fs, ex, ha, a, dx, fs, v, rfl, ha, hl, q H2 e2⟩
theorem get_kind {a : Addr} {H : Hp} (h : SetAt C g a H) : ∃ dx fs, H a = some (.ins C dx fs) ∧ fs.lookup ("_kind" : Str) = some (V.str g.kind) := let ⟨dx, _, fs, h1, _, f1, _⟩ := h.ex; ⟨dx, fs, h1, f1⟩
theorem get_size {a : Addr} {H : Hp} (h : SetAt C g a H) : ∃ dx fs, H a = some (.ins C dx fs) ∧ fs.lookup ("_size" : Str) = some (V.int g.size) := let ⟨dx, _, fs, h1, _, _, f1, _⟩ := h.ex; ⟨dx, fs, h1, f1⟩
theorem get_start {a : Addr} {H : Hp} (h : SetAt C g a H) : ∃ dx fs, H a = some (.ins C dx fs) ∧ fs.lookup ("_start" : Str) = some (V.int g.start) := let ⟨dx, _, fs, h1, _, _, _, f1, _⟩ := h.ex; ⟨dx, fs, h1, f1⟩
theorem get_hold {a : Addr} {H : Hp} (h : SetAt C g a H) : ∃ dx fs, H a = some (.ins C dx fs) ∧ fs.lookup ("_hold" : Str) = some (V.str g.hold) := let ⟨dx, _, fs, h1, _, _, _, _, _, f1, _⟩ := h.ex; ⟨dx, fs, h1, f1⟩
/-- two settings, == and != -/
theorem ev_own {neg : Bool} (h1 : EvP ta σ H (SetV C g)) (h2 : EvP tb σ H (SetV C h)) : Ev (tOp (OwnNe.rOwn C (spEqS C) neg) ta tb) σ H (.bl (if neg then !eqS g h else eqS g h)) := fun H1 e Q q =>
  h1 H1 e _ fun x H2 e2 p1 => h2 H2 (e.trans e2) _ fun y H3 e3 ⟨b, eb, at2⟩ => by
    obtain ⟨a, rfl, at1⟩ := mo_set _ _ _ e3 p1
    subst eb
    obtain ⟨dx, d, fs, ha, _⟩ := at1.ex
    obtain ⟨dy, d2, gs, hb, _⟩ := at2.ex
    exact ⟨a, dx, fs, rfl, ha, .inl ⟨b, dy, gs, rfl, hb⟩, rfl, a, g, .ref b, rfl, at1, .inl ⟨b, h, rfl, at2, fun H4 e4 => ⟨_, rfl, q H4 (e2.trans (e3.trans e4))⟩⟩⟩
/-- a setting beside a list -/
theorem ev_ownL {neg : Bool} {P : PV} (hP : ∀ x H, P x H → ∃ b xs, x = .ref b ∧ H b = some (.lst xs)) (h1 : EvP ta σ H (SetV C g)) (h2 : EvP tb σ H P) : Ev (tOp (OwnNe.rOwn C (spEqS C) neg) ta tb) σ H (.bl neg) := fun H1 e Q q =>
  h1 H1 e _ fun x H2 e2 p1 => h2 H2 (e.trans e2) _ fun y H3 e3 p2 => by
    obtain ⟨a, rfl, at1⟩ := mo_set _ _ _ e3 p1
    obtain ⟨b, xs, rfl, hb⟩ := hP y H3 p2
    obtain ⟨dx, d, fs, ha, _⟩ := at1.ex
    refine ⟨a, dx, fs, rfl, ha, .inr ⟨b, xs, rfl, hb⟩, rfl, a, g, .ref b, rfl, at1, .inr ⟨b, xs, rfl, hb, fun H4 e4 => ⟨_, rfl, ?_⟩⟩⟩
    have := q H4 (e2.trans (e3.trans e4))
    cases neg <;> exact this
theorem p_chs (he : EvP te σ H (SetV C g)) (hs : ∀ k ∈ g.ks, Showy (pairD k)) (hl : g.ks.length ≤ 1000) : EvP (tMeth C "changes" (spChs C) [] E te tNil) σ H (Qe (.list (sortD (g.ks.map pairD)))) := fun H1 e Q q => he H1 e _ fun x H2 e2 ⟨a, ex, at_⟩ => by
  obtain ⟨dx, d, fs, ha, _, _, _, _, _, _, n, _⟩ := at_.ex
  exact ⟨a, dx, fs, ex, ha, n, rfl, a, g, by rw [ex]; rfl, at_, hs, hl, fun y H3 e3 _ p => q y H3 (e2.trans e3) p⟩
/-- the same, and the list is new -/
theorem p_chsN (he : EvP te σ H (SetV C g)) (hs : ∀ k ∈ g.ks, Showy (pairD k)) (hl : g.ks.length ≤ 1000) : EvP (tMeth C "changes" (spChs C) [] E te tNil) σ H (fun y H' => (∃ r, y = .ref r ∧ H r = none) ∧ Qe (.list (sortD (g.ks.map pairD))) y H') := fun H1 e Q q => he H1 e _ fun x H2 e2 ⟨a, ex, at_⟩ => by
  obtain ⟨dx, d, fs, ha, _, _, _, _, _, _, n, _⟩ := at_.ex
  exact ⟨a, dx, fs, ex, ha, n, rfl, a, g, by rw [ex]; rfl, at_, hs, hl, fun y H3 e3 ⟨r, er, nr⟩ p => q y H3 (e2.trans e3) ⟨⟨r, er, fresh_back (e.trans e2) nr⟩, p⟩⟩
theorem ev_lets {d e : PyData} (he : EvP te σ H (SetV C g)) (h1 : EvP ta σ H (De K d)) (h2 : EvP tb σ H (De K e)) : Ev (tMeth C "lets" (spLets K C) [] E te (tCons ta (tCons tb tNil))) σ H (.bl (hasK g d e)) := fun H1 e1 Q q => he H1 e1 _ fun x H2 e2 ⟨a, ex, at_⟩ => by
  obtain ⟨dx, dd, fs, ha, _, _, _, _, _, _, _, n⟩ := at_.ex
  refine ⟨a, dx, fs, ex, ha, n, h1 H2 (e1.trans e2) _ fun y H3 e3 p1 => h2 H3 (e1.trans (e2.trans e3)) _ fun z H4 e4 p2 => ⟨rfl, a, g, y, z, d, e, by rw [ex]; rfl, ?_, dp_up e4 p1, p2, fun H5 e5 => q H5 (e2.trans (e3.trans (e4.trans e5)))⟩⟩
  obtain ⟨b, eb, at2⟩ := mo_set (C := C) (g := g) _ _ _ (e3.trans e4) ⟨a, rfl, at_⟩
  cases eb
  exact at2
end
end Chk
/-! xs[::-1] of a list. -/
namespace RevSl
open PySem PySem.Spec PyProof.Rows L2 Evl Pd
section
variable {X : Cx} {e : Expr} {kc : Nat} {p0 : Pos} {te : TE} {tk : TO} {p1 p2 pos : Pos}
def tRevL (K : PySem.W.Frag) (te : TE) (tk : TO) : TE := fun σ H Q => te σ H fun x H1 => tk σ H1 fun o H2 => o = some (-1) ∧ ∃ a xs, x = .ref a ∧ SqL K H2 a xs ∧ ∀ p, H2 p = none → Q (.ref p) (upd H2 p (.lst xs.reverse))
theorem pe_rev (he : PE X e te) (hk : PO X (some (.UnaryOp .USub (.Constant (.int 1) kc p0) p1)) tk) : PE X (.Subscript e (.Slice none none (some (.UnaryOp .USub (.Constant (.int 1) kc p0) p1)) p2) pos) (tRevL X.K te tk) := by
  refine ⟨fun pins s σ H Q I h => ?_⟩
  refine Subscript_ (thn (he.run pins s σ H _ I h) fun v s1 ⟨x, H1, I1, r1, q1⟩ => ?_)
  refine wpAny_Slice ?_
  rw [evalPart_none]
  refine wpAny_pure (wpAny_pure (thn (hk.run pins s1 σ H1 _ I1 q1) fun vk s3 ⟨o, H3, I3, pk, eo, a, xs, ex, hx, q⟩ => ?_))
  subst eo ex
  obtain rfl : v = Value.ref a := r1
  have I4 : Inv X pins σ H3 { s3 with heap := s3.heap.push { cls := .type "slice", data := .fields #[.none, .none, vk] } } := I3.kept (t' := s3.toks) fun b ob q => Heap.get?_push_of_some _ q
  obtain ⟨its, r, ht, hz⟩ := I4.list hx
  have hlen := r.length
  show wpAny (model X.prog X.w) X.A (subscriptTail e (.Slice none none (some (.UnaryOp .USub (.Constant (.int 1) kc p0) p1)) p2) (.ref a) (.ref s3.heap.objs.size)) (EP X pins σ Q) X.xe { s3 with heap := s3.heap.push { cls := .type "slice", data := .fields #[.none, .none, vk] } }
  refine tail_any (ops := [.ref a, .ref s3.heap.objs.size]) ht.isList.typeIs slot_list_getitem.lookup ?_ (by with_unfolding_all rfl)
  refine wpAny_getItem_list_slice ht.isList (Heap.IsSliceOf.new ..) .none .none pk (by simp) ?_ ?_
  · rw [PySem.W.krv_pick]
    have I5 : Inv X pins σ (upd H3 (s3.heap.push { cls := .type "slice", data := .fields #[.none, .none, vk] }).objs.size (.lst xs.reverse)) _ :=
      I4.laid (t' := s3.toks) (o := .lst xs.reverse) (fun b ob q => Heap.get?_push_of_some _ q) (Nat.le_refl _) ⟨by rw [List.length_reverse]; exact hz, its.reverse, 0, Vals.reverse r, Heap.get?_push_size _ rfl⟩
    exact ⟨.ref _, _, I5, rfl, q _ (I4.hok.fresh (Nat.le_refl _))⟩
  · rw [List.size_toArray]
    omega
end
end RevSl
namespace Lw
open PySem PySem.Spec PyProof.Rows L2 Evl Pd Gd Us Chk
abbrev sChanges : Stmt := top 31
abbrev sSetting : Stmt := top 32
abbrev sTurnPool : Stmt := top 33
/-! ### draws as values -/
def RgV (lo hi : Int) : PV := fun x _ => ∃ n, x = .int n ∧ lo ≤ n ∧ n < hi
theorem mo_rg {lo hi : Int} : Mo (RgV lo hi) := fun _ _ _ _ h => h
/-- one of these -/
def OneOf (ds : List PyData) : PV := fun x H => ∃ d ∈ ds, Dq H x d
theorem mo_one {ds : List PyData} : Mo (OneOf ds) := fun _ _ _ e ⟨d, h1, h2⟩ => ⟨d, h1, dq_up e h2⟩
section
variable {σ : L2.St} {H : Hp} {ta tb : TE} {K : PySem.W.Frag} {E : XK} {m : Int} {ds : List PyData}
theorem p_draw (h1 : EvP ta σ H (PoolV K)) (h2 : Ev tb σ H (.int m)) (hm : 0 < m) : EvP (tCall (spDraw K) [] E (tCons ta (tCons tb tNil))) σ H (RgV 0 m) := fun H1 e Q q =>
  h1 H1 e _ fun x H2 e2 p1 => h2 H2 (e.trans e2) _ fun H3 e3 => ⟨x, m, rfl, mo_pool _ _ _ e3 p1, hm, fun n H4 n0 n1 e4 => q _ H4 (e2.trans (e3.trans e4)) ⟨n, rfl, n0, n1⟩⟩
theorem p_pick (h1 : EvP ta σ H (PoolV K)) (h2 : EvP tb σ H (Qe (.list ds))) (hm : ds ≠ []) : EvP (tCall (spPick K) [] E (tCons ta (tCons tb tNil))) σ H (OneOf ds) := fun H1 e Q q =>
  h1 H1 e _ fun x H2 e2 p1 => h2 H2 (e.trans e2) _ fun y H3 e3 p2 => by
    cases p2 with
    | lst z hl hd =>
      refine ⟨x, _, _, rfl, mo_pool _ _ _ e3 p1, sq_of hl, fun z => hm (by have := dqAll_len hd; rw [z] at this; exact List.length_eq_zero_iff.mp this.symm), fun v H4 i hv e4 => ?_⟩
      obtain ⟨d, h1, h2⟩ := dqAll_at hd hv
      exact q v H4 (e2.trans (e3.trans e4)) ⟨d, List.mem_of_getElem? h1, dq_up e4 h2⟩
end
theorem s_retP {σ : L2.St} {H : Hp} {te : TE} {P : PV} {D : Ends} (h : EvP te σ H P) (k : ∀ x H1, Ex H H1 → P x H1 → D.rt x H1) : tRet te D σ H := d_ret h k
/-! ### a pool a turn -/
def spTurn (K : PySem.W.Frag) : Sp := fun vs H Q _ => vs.length = 2 ∧ ∃ (a : Addr) (ns : List Int) (k : Int), vs = [.ref a, .int k] ∧ SqL K H a (ns.map V.int) ∧ ns.length ≤ 100000 ∧ 0 ≤ k ∧ k ≤ 100 ∧ ∀ x H', Ex H H' → PoolV K x H' → Q x H'
theorem scTurn : FnScope ["script", "k", "cell"] ["script", "k"] (defScope sTurnPool) := ⟨rfl, rfl, rfl, by decide +kernel, rfl, by decide +kernel, by decide +kernel⟩
section
variable {P : Program} {w : World} {K : PySem.W.Frag} {mg : Str → Option Value} {base : Heap}
theorem ok_turn (D : Dn K mg "_law_turn_pool" sTurnPool) (B : Bt mg) (UP : Use P w K mg base 2 "_law_pool" ["cell", "salt", "many"] (spPool K)) : Use P w K mg base 3 "_law_turn_pool" ["script", "k"] (spTurn K) := by
  refine use_of D scTurn (fun f fd F => F.binds (ps := ["script", "k"]) fun _ _ _ _ _ _ us hl => match us, hl with | [_, _], _ => rfl) (fun vs H Q E h => h.1) (fun f cdv A outer s H vs Q E hr h => ?_)
  obtain ⟨_, a, ns, k, rfl, hS, hn, k0, k1, q⟩ := h
  have hu : (A.deeper (envOfC "_law_turn_pool" (defScope sTurnPool) s.heap.objs.size f cdv)).units < cLine := by have := hr.un; omega
  refine ⟨_, pss_cons (ps_set (i := 2) scTurn.nd rfl (Or.inl rfl) (pe_ifExp (pt_cmpR (op_neNil hu) (pv 0) (pe_lst pa_nil) (nomark _))
      (pe_ix ix_list (pv 0) (pe_op op_mod (pe_callTy call_int1 (by rfl) B.int PyProof.Rows.boot_int (pa_cons (pv 1) pa_nil)) (pe_callB call_len_seq (by rfl) B.len PySem.boot_len (pa_cons (pv 0) pa_nil))) (fun _ _ => rfl)) (pe_op op_add pe_int (pv 1))))
    (pss_one (ps_ret (pe_use UP hr (by decide) (by rfl) (pa_cons (pv 2) (pa_cons (pv 1) (pa_cons pe_int pa_nil)))))), ?_⟩
  refine d_asg (P := fun x _ => ∃ c : Int, x = .int c) ?any fun x H1 e1 ⟨c, hc⟩ => ?_
  case any =>
    refine p_ife (b := !(ns.map V.int).isEmpty) (et_test fun H1 e Q q => ⟨_, rfl, show 0 ≤ sizeLine from Nat.zero_le _, fun p hp => ⟨a, p, ns.map V.int, rfl, rfl, ex_l (e.trans (Ex.new hp)) hS, sq_of upd_same, fun z hz => ?_, q _ (Ex.new hp)⟩⟩) (fun c => ?_) fun c => ?_
    · obtain ⟨n, _, rfl⟩ := List.mem_map.mp hz
      exact .inl rfl
    · have pos : 0 < ns.length := by
        cases ns with
        | nil => cases c
        | cons _ _ => simp
      have r0 : 0 ≤ k % (ns.length : Int) := Int.emod_nonneg _ (by omega)
      have r1 : k % (ns.length : Int) < ns.length := Int.emod_lt_of_pos _ (by omega)
      obtain ⟨j, ej⟩ : ∃ j : Nat, k % (ns.length : Int) = (j : Int) := ⟨(k % (ns.length : Int)).toNat, by omega⟩
      have jl : j < ns.length := by omega
      have len : Ev (tCB (rLenS K) (tCons (tVar 0) tNil)) (L2.start ["script", "k", "cell"] [.ref a, .int k]) H (.int (ns.length : Int)) := ev_is (ev_len (ev_var rfl) hS) (by rw [List.length_map])
      refine .of (ev_op (ev_var rfl) (ev_is (ev_op (ev_int (ev_var rfl)) len (rv_I (show (0 : Int) < ns.length by omega))) (congrArg V.int ej)) (rv_ixL hS (atI_nat (x := .int ns[j]) (by simp [jl])))) (fun _ _ _ _ h => h) ⟨_, rfl⟩
    · exact .of (ev_op ev_c (ev_var rfl) rv_I0) (fun _ _ _ _ h => h) ⟨_, rfl⟩
  subst hc
  exact s_retP (P := PoolV K) (p_call (P := PoolV K) (Ps := [Is (.int c), Is (.int k), Is (.int 420)]) (ps_cons mo_is (p_is rfl) (ps_cons mo_is (p_is rfl) (ps_cons mo_is p_c ps_nil))) fun xs H2 e2 ps Q' q' => by
    match xs, ps with
    | [y, z, u], ⟨py, pz, pu, _⟩ => exact ⟨c, k, 420, by rw [show y = _ from py, show z = _ from pz, show u = _ from pu], k0, k1, by decide, by decide, fun x H3 e3 p => q' x H3 e3 p⟩) fun x H2 e2 p => q x H2 (e1.trans e2) p
end
/-! ### [x for x in xs if ..] of data -/
section
variable {K : PySem.W.Frag} {σ : L2.St} {H : Hp} {tl : TE} {tt : TT} {j : Nat} {vs : List Nat} {l : Addr} {xs : List V} {ds : List PyData}
theorem p_lcQ (R : Nat → List PyData → Prop) (Fl : Nat → Bool → Prop) (h : Ev tl σ H (.ref l)) (hl : H l = some (.lst xs)) (hD : DqAll H xs ds) (hz : ds.length ≤ 40000) (r0 : R 0 [])
    (rt : ∀ i es d, R i es → ds[i]? = some d → Fl i true → R (i + 1) (es ++ [d])) (rf : ∀ i es, i < ds.length → R i es → Fl i false → R (i + 1) es)
    (hw : ∀ x, wipe ((wipe σ vs).set j (some x)) vs = wipe σ vs) (hv : ∀ x, ((wipe σ vs).set j (some x))[j]? = some (some x))
    (ht : ∀ i x d H1, Ex H H1 → xs[i]? = some x → ds[i]? = some d → ∀ Q : Bool → Hp → Prop, (∀ b H2, Ex H1 H2 → Fl i b → Q b H2) → tt ((wipe σ vs).set j (some x)) H1 Q) :
    EvP (tLc (iList K tl) (gName j) tt (tVar j) vs) σ H (fun x H' => ∃ es, R ds.length es ∧ Dq H' x (.list es)) := fun H1 e Q q => h H1 e _ fun H2 e2 => by
  have e02 := e.trans e2
  have ln := dqAll_len hD
  refine ⟨l, rfl, ⟨xs, sq_of (e02 _ _ hl)⟩, fun D hn => ?_⟩
  have n0 : H D = none := fresh_back e02 hn
  refine lc_list (xs := xs) (fun i H3 => Ex H2 H3 ∧ ∃ ys es, H3 D = some (.lst ys) ∧ R i es ∧ DqAll H ys es ∧ ys.length ≤ i) ⟨Ex.new hn, [], [], upd_same, r0, .nil, Nat.le_refl _⟩ (fun i H3 _ p => sq_of (p.1 _ _ (e02 _ _ hl))) (fun i x H3 hx p => ?_) fun H3 p => ?_
  · obtain ⟨e3, ys, es, hy, hr, hd, hl2⟩ := p
    obtain ⟨d, hd1, hd2⟩ := dqAll_at hD hx
    have il : i < xs.length := (List.getElem?_eq_some_iff.mp hx).1
    refine ⟨hw x, ht i x d H3 (e02.trans e3) hx hd1 _ fun b H4 e4 fl => ?_⟩
    cases b with
    | true =>
      simp only [if_true]
      refine ⟨x, hv x, ys, e4 _ _ hy, sz_lt (by omega), (e3.trans e4).mut hn, ys ++ [x], es ++ [d], upd_same, rt i es d hr hd1 fl, ?_, by simp; omega⟩
      clear hr hy hl2 e4 e3 fl q ht
      induction hd using DqAll.rec (motive_1 := fun _ _ _ => True) with
      | nil => exact .cons hd2 .nil
      | cons a _ _ ih => exact .cons a ih
      | _ => trivial
    | false =>
      simp only [Bool.false_eq_true, if_false]
      exact ⟨e3.trans e4, ys, es, e4 _ _ hy, rf i es (by omega) hr fl, hd, by omega⟩
  · obtain ⟨e3, ys, es, hy, hr, hd, hl2⟩ := p
    exact q (.ref D) H3 (e2.trans e3) ⟨es, by rw [← ln]; exact hr, .lst (by omega) hy (dqAll_up (e02.trans e3) hd)⟩
end
end Lw
namespace Lw
open PySem PySem.Spec PyProof.Rows L2 Evl Pd Gd Us Chk
def pr (i j : Int) : PyData := .tuple [.int i, .int j]
def base6 : List PyData := [pr 0 1, pr 1 0, pr 0 2, pr 2 0, pr 1 2, pr 2 1]
def chBase (n : Int) : List PyData := if n = 2 then base6.take 2 else base6
def ChV (n : Int) : PV := fun x H => ∃ es, es.Sublist (chBase n) ∧ Dq H x (.list es)
theorem mo_ch {n : Int} : Mo (ChV n) := fun _ _ _ e ⟨es, h1, h2⟩ => ⟨es, h1, dq_up e h2⟩
def cutA {α : Type} (xs : List α) (lo hi : Option Int) : List α := (xs.drop (HT.sIx xs.length 0 lo)).take (HT.sIx xs.length xs.length hi - HT.sIx xs.length 0 lo)
theorem dqAll_drop {H : Hp} : ∀ (n : Nat) {xs : List V} {ds : List PyData}, DqAll H xs ds → DqAll H (xs.drop n) (ds.drop n)
  | 0, _, _, h => h
  | n + 1, _, _, .nil => .nil
  | n + 1, _, _, .cons _ t => dqAll_drop n t
theorem dqAll_take {H : Hp} : ∀ (n : Nat) {xs : List V} {ds : List PyData}, DqAll H xs ds → DqAll H (xs.take n) (ds.take n)
  | 0, _, _, _ => by simp only [List.take_zero]; exact .nil
  | n + 1, _, _, .nil => .nil
  | n + 1, _, _, .cons h t => .cons h (dqAll_take n t)
theorem dqAll_cut {H : Hp} {xs : List V} {ds : List PyData} (lo hi : Option Int) (h : DqAll H xs ds) : DqAll H (cutV xs lo hi) (cutA ds lo hi) := by
  unfold cutV cutA
  rw [dqAll_len h]
  exact dqAll_take _ (dqAll_drop _ h)
section
variable {σ : L2.St} {H : Hp} {te : TE} {tl th : TO} {K : PySem.W.Frag} {ds : List PyData} {lo hi : Option Int}
theorem p_slQ (h : EvP te σ H (Qe (.list ds))) (h1 : EvO tl σ H lo) (h2 : EvO th σ H hi) : EvP (tSl (rSlL K) te tl th) σ H (Qe (.list (cutA ds lo hi))) := fun H1 e Q q =>
  h H1 e _ fun x H2 e2 p => h1 H2 (e.trans e2) _ fun H3 e3 => h2 H3 (e.trans (e2.trans e3)) _ fun H4 e4 => by
    cases p with
    | @lst a xs _ z hl hd =>
      refine ⟨a, xs, rfl, sq_of ((e3.trans e4) _ _ hl), fun p hp => q _ _ (e2.trans (e3.trans (e4.trans (Ex.new hp)))) (.lst ?_ upd_same (dqAll_up (e3.trans (e4.trans (Ex.new hp))) (dqAll_cut lo hi hd)))⟩
      exact Nat.le_trans (cutV_length xs lo hi) z
theorem q_pr {i j : Int} : EvP (tTup (tCons (tC (.int i)) (tCons (tC (.int j)) tNil))) σ H (Qe (pr i j)) := q_tup (ds := [.int i, .int j]) (ps_cons mo_qe q_int (ps_cons mo_qe q_int ps_nil))
end
def spCh (K : PySem.W.Frag) : Sp := fun vs H Q _ => vs.length = 2 ∧ ∃ (x : V) (n : Int), vs = [x, .int n] ∧ PoolV K x H ∧ (n = 2 ∨ n = 3) ∧ ∀ y H', Ex H H' → ChV n y H' → Q y H'
theorem scCh : FnScope ["pool", "size", "pairs", "pair"] ["pool", "size"] (defScope sChanges) := ⟨rfl, rfl, rfl, by decide +kernel, rfl, by decide +kernel, by decide +kernel⟩
section
variable {P : Program} {w : World} {K : PySem.W.Frag} {mg : Str → Option Value} {base : Heap}
theorem ok_ch (D : Dn K mg "_law_changes" sChanges) (UD : Use P w K mg base 1 "_law_draw" ["pool", "many"] (spDraw K)) : Use P w K mg base 2 "_law_changes" ["pool", "size"] (spCh K) := by
  refine use_of D scCh (fun f fd F => F.binds (ps := ["pool", "size"]) fun _ _ _ _ _ _ us hl => match us, hl with | [_, _], _ => rfl) (fun vs H Q E h => h.1) (fun f cdv A outer s H vs Q E hr h => ?_)
  obtain ⟨_, x, n, rfl, hp, hn, q⟩ := h
  refine ⟨_, pss_cons (ps_set (i := 2) scCh.nd rfl (Or.inl rfl) (pe_slice sl_list (pe_lst (pa_cons (pe_tup (pa_cons pe_int (pa_cons pe_int pa_nil))) (pa_cons (pe_tup (pa_cons pe_int (pa_cons pe_int pa_nil))) (pa_cons (pe_tup (pa_cons pe_int (pa_cons pe_int pa_nil))) (pa_cons (pe_tup (pa_cons pe_int (pa_cons pe_int pa_nil))) (pa_cons (pe_tup (pa_cons pe_int (pa_cons pe_int pa_nil))) (pa_cons (pe_tup (pa_cons pe_int (pa_cons pe_int pa_nil))) pa_nil)))))))
      po_none (po_some (pe_op op_mul (pv 1) (pe_op op_sub (pv 1) pe_int)))))
    (pss_one (ps_ret (pe_lc (own := [("pair", 3)]) (g := gName 3) rfl scCh.nd (pi_list (pv 2)) (blkOk_by (N := ["pool", "size", "pairs", "pair"]) (sc := defScope sChanges) (by decide +kernel))
      (fun _ _ _ _ _ => pg_name (i := 3) scCh.nd rfl (Or.inl rfl)) (fun _ _ _ _ _ => pts_one (pt_cmpR op_gt (pe_use UD hr (by decide) (by rfl) (pa_cons (pv 0) (pa_cons pe_int pa_nil))) pe_int (nomark _))) (fun _ _ _ _ _ => pv 3)))), ?_⟩
  refine d_asg (P := Qe (.list (chBase n))) ?list fun y H1 e1 py => ?_
  case list =>
    have all : EvP (tLst (tCons (tTup (tCons (tC (.int 0)) (tCons (tC (.int 1)) tNil))) (tCons (tTup (tCons (tC (.int 1)) (tCons (tC (.int 0)) tNil))) (tCons (tTup (tCons (tC (.int 0)) (tCons (tC (.int 2)) tNil))) (tCons (tTup (tCons (tC (.int 2)) (tCons (tC (.int 0)) tNil))) (tCons (tTup (tCons (tC (.int 1)) (tCons (tC (.int 2)) tNil))) (tCons (tTup (tCons (tC (.int 2)) (tCons (tC (.int 1)) tNil))) tNil)))))))
        (L2.start ["pool", "size", "pairs", "pair"] [x, .int n]) H (Qe (.list base6)) := q_lst (ds := base6) (ps_cons mo_qe q_pr (ps_cons mo_qe q_pr (ps_cons mo_qe q_pr (ps_cons mo_qe q_pr (ps_cons mo_qe q_pr (ps_cons mo_qe q_pr ps_nil))))))
    rcases hn with rfl | rfl
    · have cut : EvP _ (L2.start ["pool", "size", "pairs", "pair"] [x, .int 2]) H (Qe (.list (cutA base6 none (some 2)))) := p_slQ (K := K) (hi := some 2) all eo_none (eo_some (ev_is (ev_op (ev_var (i := 1) rfl) (ev_is (ev_op (ev_var (i := 1) rfl) (ev_c (v := .int 1)) (rv_I0 (g := fun i j => V.int (i - j)))) (w := .int 1) rfl) (rv_I (C := CMul) (g := fun i j => .int (i * j)) (Or.inl ⟨by decide, by decide⟩))) rfl))
      exact cut
    · have cut : EvP _ (L2.start ["pool", "size", "pairs", "pair"] [x, .int 3]) H (Qe (.list (cutA base6 none (some 6)))) := p_slQ (K := K) (hi := some 6) all eo_none (eo_some (ev_is (ev_op (ev_var (i := 1) rfl) (ev_is (ev_op (ev_var (i := 1) rfl) (ev_c (v := .int 1)) (rv_I0 (g := fun i j => V.int (i - j)))) (w := .int 2) rfl) (rv_I (C := CMul) (g := fun i j => .int (i * j)) (Or.inl ⟨by decide, by decide⟩))) rfl))
      exact cut
  cases py with
  | lst z hl hd =>
    refine s_retP (P := ChV n) ((p_lcQ (K := K) (fun i es => es.Sublist ((chBase n).take i)) (fun _ _ => True) (ev_var rfl) hl hd ?short (List.Sublist.refl _) ?rt ?rf (fun _ => rfl) (fun _ => rfl) ?ht).imp fun v H2 e2 ⟨es, h1, h2⟩ => ⟨es, by rw [List.take_length] at h1; exact h1, h2⟩) fun v H2 e2 p => q v H2 (e1.trans e2) p
    case short => rcases hn with rfl | rfl <;> decide
    case rt =>
      intro i es d hs hd' _
      have il := (List.getElem?_eq_some_iff.mp hd').1
      have e0 := (List.getElem?_eq_some_iff.mp hd').2
      rw [← List.take_append_getElem il, e0]
      exact hs.append (List.Sublist.refl _)
    case rf =>
      intro i es il hs _
      exact hs.trans (List.take_sublist_take_left (by omega))
    case ht =>
      intro i v d H2 e2 hv hd' Q' q'
      refine p_draw (H := H2) (p_var rfl mo_pool (mo_pool _ _ _ (e1.trans e2) hp)) ev_c (by decide) H2 (Ex.refl H2) _ fun u H3 e3 ⟨m, hm, _⟩ => ?_
      exact ⟨m, 0, hm, rfl, _, rfl, q' _ H3 e3 trivial⟩
end
end Lw
namespace Lw
open PySem PySem.Spec PyProof.Rows L2 Evl Pd Gd Us Chk
mutual
theorem dq_by {H H' : Hp} (hl : ∀ b xs, H b = some (.lst xs) → H' b = some (.lst xs)) (ht : ∀ b xs, H b = some (.tup xs) → H' b = some (.tup xs)) : ∀ {x : V} {d : PyData}, Dq H x d → Dq H' x d
  | _, _, .non => .non
  | _, _, .bl b => .bl b
  | _, _, .int i => .int i
  | _, _, .str x => .str x
  | _, _, .lst z h a => .lst z (hl _ _ h) (dqAll_by hl ht a)
  | _, _, .tup h a => .tup (ht _ _ h) (dqAll_by hl ht a)
theorem dqAll_by {H H' : Hp} (hl : ∀ b xs, H b = some (.lst xs) → H' b = some (.lst xs)) (ht : ∀ b xs, H b = some (.tup xs) → H' b = some (.tup xs)) : ∀ {xs : List V} {ds : List PyData}, DqAll H xs ds → DqAll H' xs ds
  | _, _, .nil => .nil
  | _, _, .cons h a => .cons (dq_by hl ht h) (dqAll_by hl ht a)
end
def holdsOf (so : Str) : List Str := if so = ("table" : Str) then ["sent", "answered", "answered"] else ["sent", "answered", "open"]
def drawnK (so : Str) (n k : Int) (l : V) (h : Str) : List (Key × V) := [(.inr "sort", .str so), (.inr "size", .int n), (.inr "start", .int k), (.inr "changes", l), (.inr "hold", .str h)]
/-- a drawn setting -/
def DrawnS (so : Str) : PV := fun x H => ∃ (p : Addr) (n k : Int) (l : V) (h : Str), x = .ref p ∧ H p = some (.dK (drawnK so n k l h)) ∧ ChV n l H ∧ (n = 2 ∨ n = 3) ∧ 0 ≤ k ∧ k < n ∧ h ∈ holdsOf so
theorem mo_drawn {so : Str} : Mo (DrawnS so) := fun _ _ _ e ⟨p, n, k, l, h, h1, h2, h3, h4⟩ => ⟨p, n, k, l, h, h1, e _ _ h2, mo_ch _ _ _ e h3, h4⟩
def spSetting (K : PySem.W.Frag) : Sp := fun vs H Q _ => vs.length = 2 ∧ ∃ (x : V) (so : Str), vs = [x, .str so] ∧ PoolV K x H ∧ ∀ y H', Ex H H' → DrawnS so y H' → Q y H'
theorem scSetting : FnScope ["pool", "sort", "size", "some"] ["pool", "sort"] (defScope sSetting) := ⟨rfl, rfl, rfl, by decide +kernel, rfl, by decide +kernel, by decide +kernel⟩
section
variable {P : Program} {w : World} {K : PySem.W.Frag} {mg : Str → Option Value} {base : Heap}
theorem ok_setting (D : Dn K mg "_law_setting" sSetting) (UD : Use P w K mg base 1 "_law_draw" ["pool", "many"] (spDraw K)) (UC : Use P w K mg base 2 "_law_changes" ["pool", "size"] (spCh K)) (UP : Use P w K mg base 2 "_law_pick" ["pool", "some"] (spPick K)) :
    Use P w K mg base 3 "_law_setting" ["pool", "sort"] (spSetting K) := by
  refine use_of D scSetting (fun f fd F => F.binds (ps := ["pool", "sort"]) fun _ _ _ _ _ _ us hl => match us, hl with | [_, _], _ => rfl) (fun vs H Q E h => h.1) (fun f cdv A outer s H vs Q E hr h => ?_)
  obtain ⟨_, x, so, rfl, hp, q⟩ := h
  refine ⟨_, pss_cons (ps_set (i := 2) scSetting.nd rfl (Or.inl rfl) (pe_op op_add pe_int (pe_use UD hr (by decide) (by rfl) (pa_cons (pv 0) (pa_cons pe_int pa_nil)))))
    (pss_cons (ps_set (i := 3) scSetting.nd rfl (Or.inl rfl) (pe_ifExp (pt_cmpR op_eq (pv 1) pe_str (nomark _)) (pe_lst (pa_cons pe_str (pa_cons pe_str (pa_cons pe_str pa_nil)))) (pe_lst (pa_cons pe_str (pa_cons pe_str (pa_cons pe_str pa_nil))))))
    (pss_one (ps_ret (pe_disp (pps_cons pe_str (pv 1) (pps_cons pe_str (pv 2) (pps_cons pe_str (pe_use UD hr (by decide) (by rfl) (pa_cons (pv 0) (pa_cons (pv 2) pa_nil))) (pps_cons pe_str (pe_use UC hr (by decide) (by rfl) (pa_cons (pv 0) (pa_cons (pv 2) pa_nil)))
      (pps_cons pe_str (pe_use UP hr (by decide) (by rfl) (pa_cons (pv 0) (pa_cons (pv 3) pa_nil))) pps_nil))))) (by rfl) (by rfl) (fun z => by cases z) (by decide))))), ?_⟩
  have h0 : ∀ {σ : L2.St} {H1 : Hp}, σ[0]? = some (some x) → Ex H H1 → EvP (tVar 0) σ H1 (PoolV K) := fun hv e => p_var hv mo_pool (mo_pool _ _ _ e hp)
  refine d_asg (P := fun x _ => x = .int 2 ∨ x = .int 3) (p_op (P1 := Is (.int 2)) (P2 := RgV 0 2) mo_is p_c (p_draw (h0 rfl (Ex.refl H)) ev_c (by decide)) fun y z H1 e py ⟨m, hm, m0, m1⟩ Q' q' => ⟨2, m, py, hm, q' _ H1 (Ex.refl H1) ?_⟩) fun y H1 e1 hy => ?_
  · have : m = 0 ∨ m = 1 := by omega
    rcases this with rfl | rfl
    · exact .inl rfl
    · exact .inr rfl
  obtain ⟨n, hn, rfl⟩ : ∃ n : Int, (n = 2 ∨ n = 3) ∧ y = .int n := by
    rcases hy with h | h
    · exact ⟨2, .inl rfl, h⟩
    · exact ⟨3, .inr rfl, h⟩
  have txts : ∀ {σ : L2.St} {a b c : Str}, EvP (tLst (tCons (tC (.str a)) (tCons (tC (.str b)) (tCons (tC (.str c)) tNil)))) σ H1 (Qe (.list (([a, b, c] : List Str).map PyData.str))) := fun {σ a b c} => q_lst (ds := ([a, b, c] : List Str).map PyData.str) (ps_cons mo_qe q_str (ps_cons mo_qe q_str (ps_cons mo_qe q_str ps_nil)))
  refine d_asg (P := Qe (.list ((holdsOf so).map PyData.str))) (p_ife (b := decide (V.str so = .str "table")) (et_test (ev_op (ev_var rfl) ev_c (rv_eq rfl))) (fun c => ?_) fun c => ?_) fun z H2 e2 hz => ?_
  · have : so = ("table" : Str) := by simpa using c
    unfold holdsOf
    rw [if_pos this]
    exact txts
  · have : so ≠ ("table" : Str) := by simpa using c
    unfold holdsOf
    rw [if_neg this]
    exact txts
  have e02 := e1.trans e2
  refine fun p np => ?_
  have e3 : Ex H2 (upd H2 p (.dK [])) := Ex.new np
  refine ⟨.str so, rfl, .int n, rfl, ?_⟩
  refine p_draw (H := upd H2 p (.dK [])) (h0 rfl (e02.trans e3)) (ev_var rfl) (by omega) _ (Ex.refl _) _ fun k' H3 e4 ⟨k, ek, k0, k1⟩ => ?_
  have e5 := e02.trans (e3.trans e4)
  refine ⟨x, rfl, .int n, rfl, rfl, x, n, rfl, mo_pool _ _ _ e5 hp, hn, fun l H4 e6 hl => ?_⟩
  have e7 := e5.trans e6
  have ne : holdsOf so ≠ [] := by unfold holdsOf; split <;> simp
  refine p_pick (H := H4) (h0 rfl e7) (p_var rfl mo_qe (mo_qe _ _ _ (e3.trans (e4.trans e6)) hz)) (by intro z; exact ne (List.map_eq_nil_iff.mp z)) _ (Ex.refl _) _ fun v H5 e8 ⟨d, hd, dv⟩ => ?_
  obtain ⟨t, ht, rfl⟩ := List.mem_map.mp hd
  cases dv
  have hpD : H5 p = some (.dK []) := e8 _ _ (e6 _ _ (e4 _ _ upd_same))
  refine ⟨hpD, drawnK so n k l t, by rw [ek]; rfl, show 5 ≤ 15 from by decide, ?_⟩
  have fr : H2 p = none := np
  have up : Ex H (upd H5 p (.dK (mergeK [] (drawnK so n k l t)))) := (e7.trans e8).mut (fresh_back e02 fr)
  refine q (.ref p) _ up ⟨p, n, k, l, t, rfl, ?_, ?_, hn, k0, k1, ht⟩
  · rw [upd_same]
    rfl
  · obtain ⟨es, h1, h2⟩ := mo_ch _ _ _ e8 hl
    refine ⟨es, h1, dq_by (fun b xs hb => ?_) (fun b xs hb => ?_) h2⟩
    · rw [upd_ne (fun z => by rw [z, hpD] at hb; cases hb)]; exact hb
    · rw [upd_ne (fun z => by rw [z, hpD] at hb; cases hb)]; exact hb
end
end Lw
namespace Chk
open PySem PySem.Spec PyProof.Rows L2 Evl Pd Gd Us
def psInit : List Str := ["self", "sort", "size", "start", "changes", "hold"]
/-- all that a caller of the class asks -/
structure SetC (P : Program) (w : World) (K : PySem.W.Frag) (mg : Str → Option Value) (base : Heap) (C CB : Addr) : Prop where
  mS : mg "Setting" = some (.ref C)
  T : ClsS K C
  make : ∃ fI fd, Mk K C fI ∧ L2.Binds K fd psInit [] ∧ FnOk P w K mg base (L2.CX P w) 6 fI fd psInit (spInit C CB)
  lets : ∃ f fd, Meth K C "lets" f ∧ L2.Binds K fd ["self", "one", "other"] [] ∧ FnOk P w K mg base CX0 2 f fd ["self", "one", "other"] (spLets K C)
  chs : ∃ f fd, Meth K C "changes" f ∧ L2.Binds K fd ["self"] [] ∧ FnG P w K mg base CX0 1 f fd ["self"] (spChs C)
  eq : ∃ f fd, OwnNe.EqC K C f ∧ L2.Binds K fd ["self", "other"] [] ∧ FnOk P w K mg base CX0 1 f fd ["self", "other"] (spEqS C)
  nl : PySem.W.notFirst K C (.type "list") = true
  kind : ∃ p g fd, PropOf K C "kind" p g ∧ L2.Binds K fd ["self"] [] ∧ FnOk P w K mg base CX0 1 g fd ["self"] (getSp C "_kind")
  size : ∃ p g fd, PropOf K C "size" p g ∧ L2.Binds K fd ["self"] [] ∧ FnOk P w K mg base CX0 1 g fd ["self"] (getSp C "_size")
  start : ∃ p g fd, PropOf K C "start" p g ∧ L2.Binds K fd ["self"] [] ∧ FnOk P w K mg base CX0 1 g fd ["self"] (getSp C "_start")
  hold : ∃ p g fd, PropOf K C "hold" p g ∧ L2.Binds K fd ["self"] [] ∧ FnOk P w K mg base CX0 1 g fd ["self"] (getSp C "_hold")
section
variable {X : Cx} {C CB : Addr} {e o : Expr} {es : List Expr} {p pos apos : Pos} {ta tb : TE} {t : TA} {j : Nat}
theorem pe_setting {E : XK} (S : SetC X.prog X.w X.K X.mg X.base C CB) (hr : Room j X.A) (hk : 7 ≤ j) (hg : Gl X "Setting") (hx : Passes (L2.CX X.prog X.w) X E) (ha : PA X (e :: es) t)
    (he : starEach (e :: es) X.env = (false, eval e X.env) :: starEach es X.env := by rfl) (hpl : (backTo pos (starEach es X.env)).any (·.1) = false := by rfl) :
    PE X (.Call (.Name "Setting" p) (e :: es) [] pos) (tMake C (spInit C CB) [] E t) := by
  obtain ⟨fI, fd, M, b, F⟩ := S.make
  exact pe_make M F (hr.mono hk) hg S.mS b .nil hx ha (by decide) he hpl
theorem pe_lets {pl : Sem Bool} (S : SetC X.prog X.w X.K X.mg X.base C CB) (hr : Room j X.A) (hk : 2 ≤ j) (ho : PE X o ta) (ha : PA X (e :: es) t)
    (hst : starEach (e :: es) X.env = (false, eval e X.env) :: starEach es X.env := by rfl) (hpl : (backTo pos (starEach es X.env)).any (·.1) = false := by rfl)
    (ht : eval (.Call (.Attribute o "lets" apos) (e :: es) [] pos) X.env = (do
      let ov ← eval o X.env
      standAt apos.atName
      let (f, first) ← holding [ov] (getMethod ov "lets" pl)
      callWith pos f first (backTo pos (starEach (e :: es) X.env)) (backToKw pos (keywordEach [] X.env))) := by rfl) :
    PE X (.Call (.Attribute o "lets" apos) (e :: es) [] pos) (tMeth C "lets" (spLets X.K C) [] (fun _ _ _ => False) ta t) := by
  obtain ⟨f, fd, M, b, F⟩ := S.lets
  exact pe_meth ho S.T.cl M F (hr.mono hk) b .nil pass0 ha hst hpl ht
theorem pe_chs {pl : Sem Bool} (S : SetC X.prog X.w X.K X.mg X.base C CB) (hr : Room j X.A) (hk : 1 ≤ j) (hu : X.A.guards = some []) (ho : PE X o ta)
    (ht : eval (.Call (.Attribute o "changes" apos) [] [] pos) X.env = (do
      let ov ← eval o X.env
      standAt apos.atName
      let (f, first) ← holding [ov] (getMethod ov "changes" pl)
      callWith pos f first (backTo pos (starEach [] X.env)) (backToKw pos (keywordEach [] X.env))) := by rfl) :
    PE X (.Call (.Attribute o "changes" apos) [] [] pos) (tMeth C "changes" (spChs C) [] (fun _ _ _ => False) ta tNil) := by
  obtain ⟨f, fd, M, b, F⟩ := S.chs
  exact pe_meth0G ho S.T.cl M F (hr.mono hk) hu b pass0 ht
theorem op_eqSet (S : SetC X.prog X.w X.K X.mg X.base C CB) (hr : Room j X.A) (hk : 1 ≤ j) : OpR X (compareOp .Eq) (OwnNe.rOwn C (spEqS C) false) := by
  obtain ⟨f, fd, M, b, F⟩ := S.eq
  exact OwnNe.op_eqOwn F M b (hr.mono hk) S.nl
theorem op_neSet (S : SetC X.prog X.w X.K X.mg X.base C CB) (hr : Room j X.A) (hk : 2 ≤ j) : OpR X (compareOp .NotEq) (OwnNe.rOwn C (spEqS C) true) := by
  obtain ⟨f, fd, M, b, F⟩ := S.eq
  exact OwnNe.op_neOwn F M b (hr.mono hk) S.nl
theorem pe_kindP (S : SetC X.prog X.w X.K X.mg X.base C CB) (hr : Room j X.A) (hk : 2 ≤ j) (ho : PE X o ta) (hab : attributeBase o "kind" X.env (eval o X.env) = eval o X.env := by rfl) : PE X (.Attribute o "kind" pos) (tProp C (getSp C "_kind") [] (fun _ _ _ => False) ta) := by
  obtain ⟨pp, g, fd, M, b, F⟩ := S.kind
  exact pe_prop ho S.T.cl M F (hr.mono hk) b .nil pass0 hab
theorem pe_sizeP (S : SetC X.prog X.w X.K X.mg X.base C CB) (hr : Room j X.A) (hk : 2 ≤ j) (ho : PE X o ta) (hab : attributeBase o "size" X.env (eval o X.env) = eval o X.env := by rfl) : PE X (.Attribute o "size" pos) (tProp C (getSp C "_size") [] (fun _ _ _ => False) ta) := by
  obtain ⟨pp, g, fd, M, b, F⟩ := S.size
  exact pe_prop ho S.T.cl M F (hr.mono hk) b .nil pass0 hab
theorem pe_startP (S : SetC X.prog X.w X.K X.mg X.base C CB) (hr : Room j X.A) (hk : 2 ≤ j) (ho : PE X o ta) (hab : attributeBase o "start" X.env (eval o X.env) = eval o X.env := by rfl) : PE X (.Attribute o "start" pos) (tProp C (getSp C "_start") [] (fun _ _ _ => False) ta) := by
  obtain ⟨pp, g, fd, M, b, F⟩ := S.start
  exact pe_prop ho S.T.cl M F (hr.mono hk) b .nil pass0 hab
theorem pe_holdP (S : SetC X.prog X.w X.K X.mg X.base C CB) (hr : Room j X.A) (hk : 2 ≤ j) (ho : PE X o ta) (hab : attributeBase o "hold" X.env (eval o X.env) = eval o X.env := by rfl) : PE X (.Attribute o "hold" pos) (tProp C (getSp C "_hold") [] (fun _ _ _ => False) ta) := by
  obtain ⟨pp, g, fd, M, b, F⟩ := S.hold
  exact pe_prop ho S.T.cl M F (hr.mono hk) b .nil pass0 hab
/-- repr of True, False -/
def rReprB : List V → Hp → VK → Prop := fun xs H Q => ∃ b : Bool, xs = [.bl b] ∧ Q (.str (if b then "True" else "False")) H
theorem cr_reprB : CallR X (.builtin "repr") rReprB := by
  intro pins s σ H xs us Q I r h
  obtain ⟨b, rfl, q⟩ := h
  obtain ⟨u, rfl, ru⟩ := vals1 r
  cases ru
  exact PySem.P.repr_of_bool ⟨.str _, H, I.tok _, ⟨_, rfl⟩, q⟩
end
section
variable {σ : L2.St} {H : Hp} {te ta tb : TE} {K : PySem.W.Frag}
theorem ev_reprB {b : Bool} (h : Ev te σ H (.bl b)) : Ev (tCB rReprB (tCons te tNil)) σ H (.str (if b then "True" else "False")) := fun H1 e Q q => h H1 e _ fun H2 e2 => ⟨b, rfl, q H2 e2⟩
theorem ev_inD {d : PyData} {ds : List PyData} (h1 : EvP ta σ H (De K d)) (h2 : EvP tb σ H (De K (.list ds))) (s1 : SeqAt.shaped d = true) (s2 : SeqAt.shaped (.list ds) = true) : Ev (tOp (rInD K) ta tb) σ H (.bl (ds.any fun z => PyData.eqv z d)) := fun H1 e Q q =>
  h1 H1 e _ fun x H2 e2 p1 => h2 H2 (e.trans e2) _ fun y H3 e3 p2 => ⟨d, ds, dp_up e3 p1, p2, s1, s2, q H3 (e2.trans e3)⟩
theorem ev_ninD {d : PyData} {ds : List PyData} (h1 : EvP ta σ H (De K d)) (h2 : EvP tb σ H (De K (.list ds))) (s1 : SeqAt.shaped d = true) (s2 : SeqAt.shaped (.list ds) = true) : Ev (tOp (rNotInD K) ta tb) σ H (.bl (!ds.any fun z => PyData.eqv z d)) := fun H1 e Q q =>
  h1 H1 e _ fun x H2 e2 p1 => h2 H2 (e.trans e2) _ fun y H3 e3 p2 => ⟨d, ds, dp_up e3 p1, p2, s1, s2, q H3 (e2.trans e3)⟩
theorem s_forRange {D : Ends} {tu : TS} {ta : TA} {j : Nat} {lo n : Int} (h : EvA ta σ H [.int lo, .int n]) (hn : -100000 ≤ lo ∧ lo ≤ 100000 ∧ -100000 ≤ n ∧ n ≤ 100000) (Pv : Nat → L2.St → Hp → Prop) (h0 : ∀ H1, Ex H H1 → Pv 0 σ H1)
    (hs : ∀ (i : Nat) σ' H', lo + (i : Int) < n → Pv i σ' H' → tu { D with nx := Pv (i + 1), ct := Pv (i + 1), bk := D.nx } (σ'.set j (some (.int (lo + (i : Int))))) H') (hd : ∀ σ' H', Pv (n - lo).toNat σ' H' → D.nx σ' H') : tFor (iRng2 ta) (gName j) tu D σ H :=
  h H (Ex.refl H) _ fun H1 e => ⟨lo, n, rfl, ⟨by omega, by omega, by omega, by omega⟩, for_range (lo := lo) (n := (n - lo).toNat) Pv (h0 H1 e) (fun i σ' H' hi p => hs i σ' H' (by omega) p) hd⟩
theorem q_forRange {D : Ends} {tz tu : TS} {ta : TA} {j : Nat} {lo n : Int} (h : EvA ta σ H [.int lo, .int n]) (hn : -100000 ≤ lo ∧ lo ≤ 100000 ∧ -100000 ≤ n ∧ n ≤ 100000) (Pv : Nat → L2.St → Hp → Prop) (h0 : ∀ H1, Ex H H1 → Pv 0 σ H1)
    (hs : ∀ (i : Nat) σ' H', lo + (i : Int) < n → Pv i σ' H' → tu { D with nx := Pv (i + 1), ct := Pv (i + 1), bk := tz D } (σ'.set j (some (.int (lo + (i : Int))))) H') (hd : ∀ σ' H', Pv (n - lo).toNat σ' H' → tz D σ' H') : tSeq (tFor (iRng2 ta) (gName j) tu) tz D σ H :=
  s_forRange (D := { D with nx := tz D }) h hn Pv h0 hs hd
end
end Chk
namespace Lw
open PySem PySem.Spec PyProof.Rows L2 Evl Pd Gd Us Chk
theorem toDe {K : PySem.W.Frag} {σ : L2.St} {H : Hp} {te : TE} {d : PyData} (h : EvP te σ H (Qe d)) : EvP te σ H (De K d) := h.imp fun _ _ _ p => dq_dp p
abbrev sJust : Stmt := top 37
/-- what made lets is just what the list holds -/
structure Just (g : Stg) (ds : List PyData) : Prop where
  all : ∀ i j : Int, hasK g (.int i) (.int j) = ds.any fun z => PyData.eqv z (pr i j)
  sh : SeqAt.shaped (.list ds) = true
def spJust (K : PySem.W.Frag) (C : Addr) : Sp := fun vs H Q _ => vs.length = 2 ∧ ∃ (x y : V) (g : Stg) (ds : List PyData), vs = [x, y] ∧ SetV C g x H ∧ Dq H y (.list ds) ∧ Just g ds ∧ ∀ H', Ex H H' → Q (.bl true) H'
theorem scJust : FnScope ["made", "changes", "low", "high"] ["made", "changes"] (defScope sJust) := ⟨rfl, rfl, rfl, by decide +kernel, rfl, by decide +kernel, by decide +kernel⟩
section
variable {P : Program} {w : World} {K : PySem.W.Frag} {mg : Str → Option Value} {base : Heap} {C CB : Addr}
theorem ok_just (D : Dn K mg "_law_lets_just" sJust) (S : SetC P w K mg base C CB) (br : mg "range" = none) (bp : mg "repr" = none) : Use P w K mg base 3 "_law_lets_just" ["made", "changes"] (spJust K C) := by
  refine use_of D scJust (fun f fd F => F.binds (ps := ["made", "changes"]) fun _ _ _ _ _ _ us hl => match us, hl with | [_, _], _ => rfl) (fun vs H Q E h => h.1) (fun f cdv A outer s H vs Q E hr h => ?_)
  obtain ⟨_, x, y, g, ds, rfl, hx, hy, J, q⟩ := h
  have hu : (A.deeper (envOfC "_law_lets_just" (defScope sJust) s.heap.objs.size f cdv)).units + 65 < cLine := by have := hr.un; omega
  refine ⟨_, pss_cons (ps_for PassesOwn.never rfl (pi_range2 (by rfl) br (pa_cons (pe_un un_neg pe_int) (pa_cons pe_int pa_nil))) (pg_name (i := 2) scJust.nd rfl (Or.inl rfl))
      (pss_one (ps_for PassesOwn.never rfl (pi_range2 (by rfl) br (pa_cons (pe_un un_neg pe_int) (pa_cons pe_int pa_nil))) (pg_name (i := 3) scJust.nd rfl (Or.inl rfl))
        (pss_one (ps_if (pt_cmpR op_ne (pe_callB cr_reprB (by rfl) bp (by decide +kernel) (pa_cons (pe_lets S hr (by decide) (pv 0) (pa_cons (pv 2) (pa_cons (pv 3) pa_nil))) pa_nil))
            (pe_callB cr_reprB (by rfl) bp (by decide +kernel) (pa_cons (pe_cmpR (op_inD hu) (pe_tup (pa_cons (pv 2) (pa_cons (pv 3) pa_nil))) (pv 1) (by rfl)) pa_nil)) (nomark _)) (pss_one (ps_ret pe_bl)) pss_nil)))))
    (pss_one (ps_ret (pe_and (pe_not (pe_lets S hr (by decide) (pv 0) (pa_cons pe_str (pa_cons pe_int pa_nil)))) (pe_and (pe_not (pe_lets S hr (by decide) (pv 0) (pa_cons pe_non (pa_cons pe_non pa_nil)))) (pe_one (pe_not (pe_lets S hr (by decide) (pv 0) (pa_cons pe_bl (pa_cons pe_int pa_nil))))))))), ?_⟩
  have rng : ∀ {σ : L2.St} {H1 : Hp}, EvA (tCons (tUn (rU fun i => .int (-i)) (tC (.int 1))) (tCons (tC (.int 5)) tNil)) σ H1 [.int (-1), .int 5] := fun {σ H1} => ea_cons (ev_un ev_c ru_neg) (ea_cons ev_c ea_nil)
  have lets : ∀ {σ : L2.St} {H1 : Hp} {ta tb : TE} {d e : PyData}, Ex H H1 → σ[0]? = some (some x) → EvP ta σ H1 (De K d) → EvP tb σ H1 (De K e) → Ev (tMeth C "lets" (spLets K C) [] (fun _ _ _ => False) (tVar 0) (tCons ta (tCons tb tNil))) σ H1 (.bl (hasK g d e)) :=
    fun ex h0 h1 h2 => ev_lets (p_var h0 mo_set (mo_set _ _ _ ex hx)) h1 h2
  have vint : ∀ {σ : L2.St} {H1 : Hp} {j : Nat} {i : Int}, σ[j]? = some (some (V.int i)) → EvP (tVar j) σ H1 (Qe (.int i)) := fun h => q_var h (.int _)
  refine q_forRange rng (by decide) (fun _ σ' H' => ∃ o1 o2, σ' = [some x, some y, o1, o2] ∧ Ex H H') (fun H1 e1 => ⟨_, _, rfl, e1⟩) ?turn ?done
  case done =>
    rintro σ' H1 ⟨o1, o2, rfl, e1⟩
    refine s_ret (ev_is (ev_andV (ev_notV (lets e1 rfl (toDe q_str) (toDe q_int))) fun _ => ev_andV (ev_notV (lets e1 rfl (toDe q_non) (toDe q_non))) fun _ => ev_notV (lets e1 rfl (toDe q_bl) (toDe q_int))) rfl) fun H2 e2 => q H2 (e1.trans e2)
  case turn =>
    rintro i σ' H1 hi ⟨o1, o2, rfl, e1⟩
    refine s_forRange rng (by decide) (fun _ σ' H' => ∃ o2, σ' = [some x, some y, some (V.int (-1 + (i : Int))), o2] ∧ Ex H H') (fun H2 e2 => ⟨_, rfl, e1.trans e2⟩) ?turn2 ?done2
    case done2 =>
      rintro σ' H2 ⟨o2, rfl, e2⟩
      exact ⟨_, _, rfl, e2⟩
    case turn2 =>
      rintro k σ' H2 hk ⟨o2, rfl, e2⟩
      have mem : EvP (tTup (tCons (tVar 2) (tCons (tVar 3) tNil))) [some x, some y, some (V.int (-1 + (i : Int))), some (V.int (-1 + (k : Int)))] H2 (Qe (pr (-1 + (i : Int)) (-1 + (k : Int)))) := q_tup (ds := [.int _, .int _]) (ps_cons mo_qe (vint rfl) (ps_cons mo_qe (vint rfl) ps_nil))
      refine s_when (et_test (ev_op (ev_reprB (lets e2 rfl (toDe (vint rfl)) (toDe (vint rfl)))) (ev_reprB (ev_inD (toDe mem) (toDe (q_var rfl (dq_up e2 hy))) (by rfl) J.sh)) (rv_ne rfl))) (fun c => ?_) fun _ H3 e3 => ⟨_, rfl, e2.trans e3⟩
      rw [J.all] at c
      simp at c
end
end Lw
/-! sorted(xs, key=lambda x: str(x)) -/
namespace LamK
open PySem PySem.Spec PyProof.Rows L2 Evl Pd Gd Chk LamX
section
variable {X : Cx} {pins : List (Addr × Obj)} {σ : L2.St} {H : Hp} {s : Shared}
/-- the lambda is called: str(v) in a frame of its own -/
theorem lam_str {A : Around} {E : Value → Shared → Prop} {f c' : Addr} {q x : Str} {params : Arguments} {scope : Scope} {cl : List (Str × Addr)} {pm ctv v : Value} {p1 p2 p3 : Pos} {t : Str} {h : Heap} {tk : Nat}
    (I : Inv X pins σ H s) (kp : ∀ b o, s.heap.get? b = some o → h.get? b = some o) (bt : X.mg "str" = none) (hA : A.depth < recursionLimit)
    (hf : s.heap.get? f = some (PySem.W.kla_obj "<lambda>" q params (.Call (.Name "str" p1) [.Name x p2] [] p3) scope cl pm c' ctv)) (hc : H c' = some (CodeO c' q))
    (hk : scope.kind = .function) (hco : scope.isCoroutine = false) (hgen : scope.isGenerator = false) (hx : scope.names.lookup x = some .local) (hs : scope.names.lookup ("str" : Str) = some .globalImplicit) (hcell : ∀ y ∈ scope.names, y.2 ≠ .cell) (hxd : (x == ("__debug__" : Str)) = false)
    (hbind : bindArgs (PySem.W.kla_fn "<lambda>" q params (.Call (.Name "str" p1) [.Name x p2] [] p3) scope cl pm (.ref c') ctv) ⟨[v], []⟩ = pure [(x, v)])
    (go : ∀ (A' : Around) (E' : Value → Shared → Prop) (h1 : Heap) (tk1 : Nat) (Q : Value → Shared → Prop), A'.guards = A.guards → A'.units ≤ A.units + 3 → (∀ b o, s.heap.get? b = some o → h1.get? b = some o) →
      (∀ h2 u tk2, (∀ b o, h1.get? b = some o → h2.get? b = some o) → Q (.str t u) { s with heap := h2, toks := tk2 }) → wpAny (model X.prog X.w) A' (call (.type "str") [v]) Q E' { s with heap := h1, toks := tk1 }) :
    wpAny (model X.prog X.w) A (call (.ref f) [v]) (PySem.W.KeyPure (.str t) { s with heap := h, toks := tk }) E { s with heap := h, toks := tk } := by
  obtain ⟨⟨oc, vs, tq, hoc, hdc, hvc⟩, _, _⟩ := I.hok c' _ hc
  obtain ⟨mb, n1, n2⟩ := I.mod.blt
  have gk : ∀ {b o}, X.base.get? b = some o → h.get? b = some o := fun e => kp _ _ (I.bk _ _ e)
  refine wpAny_call (PySem.W.kla_callFunE hA (kp _ _ hf) rfl hco hgen rfl ⟨c', oc, vs, tq, rfl, kp _ _ hoc, hdc, hvc⟩ ?_)
  rw [hbind]
  have lim : h.NoLimit := I.nolimit.keeps kp
  refine wpAny_pure (wpAny_newFunctionEnv hcell (fun y hy => by
    rcases List.mem_singleton.mp hy with rfl
    exact hx) (fun h₁ hns hsb => ⟨lim.fresh _ hsb, ?_⟩) hk)
  have kp1 : ∀ b o, h.get? b = some o → h₁.get? b = some o := fun b o e => hsb.extBut b o (Nat.ne_of_lt (Heap.lt_size e)) (Heap.get?_push_of_some _ e)
  refine PySem.W.kla_codeExpr ?_
  refine wpAny_Call_Name_kw (Calls.Name_function_global hk hs (Calls.loadGlobal_builtin (mg := X.mg) (I.mod.glob.keeps fun b o e => kp1 _ _ (gk e)) bt (mb := mb) (n1.keeps fun b o e => kp1 _ _ (gk e)) ((n2 "str" (by decide)).trans Chk.boot_str) ?_))
  refine PyProof.Rows.callWith_type1 ?_ (by rfl) (by rfl)
  show wpAny _ _ (spliced ((false, eval (.Name x p2) _) :: [])) _ _ _
  refine Calls.spliced_cons (wpAny_Name (wpAny_loadName_local (v := v) hk hx hns (by simp [List.lookup]) ?_) hxd)
  refine Calls.spliced_nil ?_
  refine go _ _ h₁ _ _ ?g1 ?g2 (fun b o e => kp1 _ _ (kp _ _ e)) fun h2 u tk2 k2 => ?_
  case g1 => rfl
  case g2 => exact Nat.le_refl _
  exact ⟨h2, tk2, rfl, fun b o e => k2 _ _ (kp1 _ _ e), .str _ _⟩
end
theorem dqAll_ext {H H' : Hp} (e : ExtN H H') {xs : List V} {ds : List PyData} (h : DqAll H xs ds) : DqAll H' xs ds := Lw.dqAll_by (fun _ _ h => e _ _ h fun _ z => nomatch z) (fun _ _ h => e _ _ h fun _ z => nomatch z) h
/-- the reading -/
def RSrt (T : List (Addr × Str)) (y : V) (H1 : Hp) (Q : VK) : Prop := ∃ a xs ds, y = .ref a ∧ H1 a = some (.lst xs) ∧ DqAll H1 xs ds ∧ xs.length ≤ 100000 ∧ (∀ d ∈ ds, Showy d) ∧ Tabs T H1 ∧
  ∀ H2, ExtN H1 H2 → Tabs T H2 → ∀ r, H2 r = none → Q (.ref r) (upd H2 r (.lst ((bySt (xs.zip ds)).map (·.1))))
def tSrt (T : List (Addr × Str)) (te : TE) : TE := fun σ H Q => te σ H fun x H1 => ∃ y, [x] = [y] ∧ RSrt T y H1 Q
section
variable {X : Cx}
theorem pe_sortLam {T : List (Addr × Str)} {c P : Addr} {params : Arguments} {scope : Scope} {x : Str} {e : Expr} {te : TE} {p p1 p2 p3 lpos kpos pos : Pos} (hgd : X.A.guards = some []) (hu : X.A.units + 64 < cLine) (hA : X.A.depth + 3 < recursionLimit) (TB : TabB X.base X.mg c P) (hcode : X.env.code = .ref c)
    (hmT : (P, X.env.qual ++ "<lambda>") ∈ T) (huT : ∀ p ∈ T, p.1 = P → p.2 = X.env.qual ++ "<lambda>") (hg : Gl X "sorted") (bs : X.mg "sorted" = none) (bt : X.mg "str" = none) (he : PE X e te) (hdef : defaultsOf params X.env = ([], []))
    (hk : scope.kind = .function) (hco : scope.isCoroutine = false) (hgen : scope.isGenerator = false) (hx : scope.names.lookup x = some .local) (hs : scope.names.lookup ("str" : Str) = some .globalImplicit) (hcell : ∀ y ∈ scope.names, y.2 ≠ .cell) (hfree : ∀ y ∈ scope.names, y.2 ≠ .free) (hxd : (x == ("__debug__" : Str)) = false)
    (hbind : ∀ (q : Str) (cl : List (Str × Addr)) (pm cv ctv v : Value), bindArgs (PySem.W.kla_fn "<lambda>" q params (.Call (.Name "str" p1) [.Name x p2] [] p3) scope cl pm cv ctv) ⟨[v], []⟩ = pure [(x, v)])
    (hs1 : starEach [e] X.env = (false, eval e X.env) :: starEach [] X.env := by rfl) (hb1 : backTo pos (starEach [e] X.env) = (false, eval e X.env) :: backTo pos (starEach [] X.env) := by rfl) (hpl : (backTo pos (starEach [e] X.env)).any (·.1) = false := by rfl) :
    PE X (.Call (.Name "sorted" p) [e] [⟨some "key", .Lambda params (.Call (.Name "str" p1) [.Name x p2] [] p3) scope lpos, kpos⟩] pos) (tSrt T te) := by
  refine ⟨fun pins s σ H Q I h0 => ?_⟩
  refine wpAny_Call_Name_kw (ld_blt I hg bs (by decide +kernel : bootBuiltins "sorted" = some (.builtin "sorted")) ?_)
  have pa : PA X [e] (tCons te tNil) := pa_cons (hs := hs1) he pa_nil
  have pq : tCons te tNil σ H (fun vs H1 => ∃ y, vs = [y] ∧ RSrt T y H1 Q) := h0
  refine PyProof.Rows.callWith_kw (thn (pa.run pos pins s σ H _ I pq) fun us s1 ⟨vs, H1, I1, r1, y, ev, a, xs, ds, ey, ha, hd, hl, hsh, hT, q⟩ => ?_) hb1 hpl (by rfl) (by rfl)
  subst ev ey
  cases r1 with
  | cons ra rn =>
    cases rn
    cases ra
    show wpAny _ _ (evalAll ((do let v ← eval (.Lambda params (.Call (.Name "str" p1) [.Name x p2] [] p3) scope lpos) X.env; standAt pos; pure v) :: [])) _ _ s1
    refine wpAny_evalAll_cons (wpAny_bind (lam_make2 I1 TB hcode hmT huT hT hdef (fun y hy z => absurd z (hfree y hy)) fun f c' pm ctv H2 s2 I2 eN T2 hf hfn hfr hc => ?_))
    refine wpAny_bind (wpAny_standAt (wpAny_pure (wpAny_evalAll_nil ?_)))
    have hS : SqL X.K H2 a xs := sq_of (eN _ _ ha fun _ z => nomatch z)
    have hd2 := dqAll_ext eN hd
    obtain ⟨its, rv, pl, hl2⟩ := I2.list hS
    have ln : (xs.zip ds).length = xs.length := by rw [List.length_zip, dqAll_len hd2, Nat.min_self]
    show wpAny _ _ (call (.builtin "sorted") [.ref a] [(Str.ofString "key", .ref f)]) _ _ _
    have each := each_of (dqAll_dp (K := X.K) hd2) rv
    refine PySem.W.sorted_key_data (b := false) (fun b : V × PyData => PyData.str (txt b.2)) pl.isList each (PySem.W.AllAlike.of fun _ _ => by simp [PySem.W.alike]) (PySem.W.Sortable.others fun _ => ⟨(fun z => nomatch z), fun _ z => nomatch z⟩) (by rw [ln]; exact hl2)
      (fun b _ => by have e : (PyData.str (txt b.2)).depth = 0 := by simp [PyData.depth]
                     rw [e]; omega) (ksk_s1 _ _) (fun _ => ksk_l1 _ _) (fun _ => rfl) (fun v b hb hm h tk kp => ?_) fun out cc h' tk kp hn hD hl3 eo => ?_
    · obtain ⟨y, d⟩ := b
      obtain ⟨rb, hb⟩ := hb
      have hsd := hsh d (List.of_mem_zip hm).2
      obtain ⟨as, rd⟩ := Dp.reads I2 d y v hb rb
      refine lam_str I2 kp bt (by show X.A.depth < recursionLimit; omega) hf hc hk hco hgen hx hs hcell hxd (hbind _ _ _ _ _ _) fun A' E' h1 tk1 Q' eg eu k1 fin => ?_
      rcases hsd with ⟨t, rfl⟩ | ⟨⟨es, rfl⟩, z1, z2, z3, z4⟩
      · cases rd
        exact PySem.P.str_of_str (fin h1 _ tk1 fun _ _ z => z)
      · cases rd with
        | tuple g1 g2 g3 g4 =>
          refine str_of_reads (.tuple g1 g2 g3 g4) z1 (PyData.noDict_hsm z2) (eg.trans hgd) (by have eu' : A'.units ≤ X.A.units + 1 + 1 + 3 := eu; omega) k1 (fun h2 u tk2 k2 => fin h2 u tk2 k2) z4
    · have vo := vals_of eo
      have lo : ((bySt (xs.zip ds)).map (·.1)).length ≤ sizeLine := by
        unfold bySt
        rw [List.length_map, List.length_mergeSort, ln]
        exact hl2
      have ok : ObjOk X.prog X.w (upd H2 (s2.heap.objs.size + 1) (.lst ((bySt (xs.zip ds)).map (·.1)))) h' (s2.heap.objs.size + 1) (.lst ((bySt (xs.zip ds)).map (·.1))) := ⟨lo, out, cc, vo, hD⟩
      exact ⟨.ref (s2.heap.objs.size + 1), _, I2.laid (t' := tk) kp (Nat.le_succ _) ok, rfl, q _ eN T2 _ (I2.hok.fresh (Nat.le_succ _))⟩
end
end LamK
namespace Gd
open PySem PySem.Spec PyProof.Rows L2 Evl Pd
/-- a def whose code object is at c -/
structure FunC (K : PySem.W.Frag) (x qual : Str) (st : Stmt) (f : Addr) (fd : FuncData) (c : Addr) : Prop where
  ex : ∃ (oc : Value) (od : Option Addr) (kV doc pm : Value) (an : Option Addr) (ct : Value) (osl : Array (Option Value)), fd = PySem.W.fnOf x qual (defArgs st) (defBody st) (defScope st) .none kV doc pm an (.ref c) ct ∧
    K.lookup f = some ⟨oc, od, .func (PySem.W.fnOf x qual (defArgs st) (defBody st) (defScope st) .none kV doc pm an (.ref c) ct), osl⟩ ∧ PySem.W.codeIn K (.ref c) qual = true
section
variable {P : Program} {w : World} {K : PySem.W.Frag} {mg : Str → Option Value} {base : Heap} {k : Nat} {f c : Addr} {fd : FuncData} {ps : List Str} {sp : Sp}
theorem okGC {x qual : Str} {st : Stmt} {N : List Str} (F : FunC K x qual st f fd c) (S : FnScope N ps (defScope st)) (len : ∀ vs H Q E, sp vs H Q E → vs.length = ps.length)
    (body : ∀ (A : Around) (outer : List Env) (s : Shared) (H : Hp) (vs : List V) (Q : VK) (E : XK), Room k (A.deeper (envOfC qual (defScope st) s.heap.objs.size f (.ref c))) → (A.deeper (envOfC qual (defScope st) s.heap.objs.size f (.ref c))).guards = some [] → sp vs H Q E →
      ∃ t, PSs (cxOf CX0 P w K mg base N qual (defScope st) f (.ref c) A outer s H E).nox (defBody st) t ∧ t { nx := fun _ H' => Q .non H', rt := Q } (start N vs) H) : FnG P w K mg base CX0 (k + 1) f fd ps sp := by
  obtain ⟨oc, od, kV, doc, pm, an, ct, osl, rfl, lk, hcd⟩ := F.ex
  refine ⟨len, fun A outer s H args us vs Q E hr hg e0 hb r hsp => ?_⟩
  have nl := len _ _ _ _ hsp
  have inK : K.In s.heap := e0.mod.kin.keeps fun b o e => (e0.bs b o e).1
  have bounded : s.heap.NoLimit := e0.mod.nolimit.keeps fun b o e => (e0.bs b o e).1
  refine codeAny_call_function hr.depth (inK _ _ lk) rfl S.co S.gen rfl (PySem.W.codeRec_of inK hcd) (hb _ _ _ _ (wpAny_newFunctionEnv_cells S.kind (fun ⟨n, v⟩ hy => (S.par n (List.of_mem_zip hy).1).imp id fun q => ⟨q, PySem.W.cellsFrom_some _ _ _ (.inl q)⟩) fun env he s1 x => ?_))
  subst he
  refine ⟨bounded.keeps x.toInCall.keep, codeAny_func ?_⟩
  obtain ⟨t, ht, hq⟩ := body A outer s H vs Q E (hr.deeper _) hg hsp
  have I : Inv (cxOf CX0 P w K mg base N qual (defScope st) f (.ref c) A outer s H E) [] (start N vs) H s1 := inv_start S hr.hd e0 nl r x
  refine wpAny_mono (ht.nox.run [] s1 (start N vs) H _ I hq) (fun fl s' hs => ?_) fun e s' hs => hs
  cases fl with
  | ret u =>
    obtain ⟨v, σ', H', J, rv, q⟩ := hs
    exact ⟨v, H', J.os, J.bare, J.base, J.hok, rv, q⟩
  | next =>
    obtain ⟨σ', H', J, q⟩ := hs
    exact ⟨V.non, H', J.os, J.bare, J.base, J.hok, rfl, q⟩
  | brk =>
    obtain ⟨_, _, _, q⟩ := hs
    exact False.elim q
  | cont =>
    obtain ⟨_, _, _, q⟩ := hs
    exact False.elim q
end
end Gd
namespace Lw
open PySem PySem.Spec PyProof.Rows L2 Evl Pd Gd Us Chk LamX LamK
abbrev sSorted : Stmt := top 30
abbrev TabT := List (Addr × Str)
def spSrt (T : TabT) : Sp := fun vs H Q _ => vs.length = 1 ∧ ∃ x ds, vs = [x] ∧ Dq H x (.list ds) ∧ (∀ d ∈ ds, Showy d) ∧ Tabs T H ∧ ∀ y H', ExtN H H' → Tabs T H' → Dq H' y (.list (sortD ds)) → Q y H'
theorem scSorted : FnScope ["some"] ["some"] (defScope sSorted) := ⟨rfl, rfl, rfl, by decide +kernel, rfl, by decide +kernel, by decide +kernel⟩
section
variable {P : Program} {w : World} {K : PySem.W.Frag} {mg : Str → Option Value} {base : Heap} {f c tb : Addr} {fd : FuncData} {T : TabT}
theorem ok_sorted (F : FunC K "_law_sorted" "_law_sorted" sSorted f fd c) (TB : TabB base mg c tb) (hmT : (tb, ("_law_sorted.<locals>.<lambda>" : Str)) ∈ T) (huT : ∀ p ∈ T, p.1 = tb → p.2 = ("_law_sorted.<locals>.<lambda>" : Str)) (bs : mg "sorted" = none) (bt : mg "str" = none) : FnG P w K mg base CX0 1 f fd ["some"] (spSrt T) := by
  refine okGC F scSorted (fun vs H Q E h => h.1) (fun A outer s H vs Q E hr hg h => ?_)
  obtain ⟨_, x, ds, rfl, hx, hs, hT, q⟩ := h
  have hu : (A.deeper (envOfC "_law_sorted" (defScope sSorted) s.heap.objs.size f (.ref c))).units + 64 < cLine := by have := hr.un; omega
  have hd : (A.deeper (envOfC "_law_sorted" (defScope sSorted) s.heap.objs.size f (.ref c))).depth + 3 < recursionLimit := by have := hr.dp; omega
  have qn : ∀ (E : XK), (cxOf CX0 P w K mg base ["some"] "_law_sorted" (defScope sSorted) f (.ref c) A outer s H E).nox.env.qual ++ "<lambda>" = ("_law_sorted.<locals>.<lambda>" : Str) := fun _ => by kernel_rfl
  refine ⟨_, pss_one (ps_ret (pe_sortLam (T := T) (c := c) (P := tb) hg hu hd TB rfl (by rw [qn]; exact hmT) (by rw [qn]; exact huT) (by rfl) bs bt (pv 0) rfl rfl rfl rfl (by rfl) (by rfl) (by decide) (by decide) (by decide) (fun _ _ _ _ _ _ => rfl))), ?_⟩
  cases hx with
  | @lst a xs _ z hl hD =>
    refine ⟨.ref a, rfl, .ref a, rfl, a, xs, ds, rfl, hl, hD, z, hs, hT, fun H2 e2 T2 r hr2 => ?_⟩
    have e3 : Ex H2 (upd H2 r (.lst ((bySt (xs.zip ds)).map (·.1)))) := Ex.new hr2
    refine q (.ref r) _ (e2.trans (ExtN.of e3)) (T2.ext e3) (.lst ?_ upd_same (dqAll_up e3 (dq_sorted (dqAll_ext e2 hD))))
    rw [List.length_map]
    unfold bySt
    rw [List.length_mergeSort, List.length_zip, dqAll_len hD, Nat.min_self, ← dqAll_len hD]
    exact z
end
end Lw
/-! try with several except clauses, each with a name or without. -/
namespace TryAs
open PySem PySem.Spec PyProof.Rows L2
/-- a clause: its class, the slot of its name, its suite -/
structure Cl where
  cls : Value
  slot : Option Nat
  ts : Addr → Value → Option Addr → TS
/-- the ends of a suite whose name is let go behind it -/
def less (i : Nat) (D : Ends) : Ends := { nx := fun σ H => D.nx (σ.set i none) H, rt := D.rt, bk := fun σ H => D.bk (σ.set i none) H, ct := fun σ H => D.ct (σ.set i none) H }
def runs (c : Cl) (a : Addr) (k : Value) (d : Option Addr) (D : Ends) (σ : L2.St) (H : Hp) : Prop := match c.slot with
  | none => c.ts a k d D σ H
  | some i => c.ts a k d (less i D) (σ.set i (some (.ref a))) H
/-- what the clauses wish of what flies, one after the other -/
def wish (K : PySem.W.Frag) (Wout : WX) (D : Ends) : List Cl → WX
  | [] => Wout
  | c :: r => fun k d σ H => ∃ b, PySem.W.exmOne K k c.cls = some b ∧ (b = true → ∀ a, H a = none → runs c a k d D σ H) ∧ (b = false → wish K Wout D r k d σ H)
inductive Cls (X : Cx) : List ExceptHandler → List Cl → Prop
  | nil : Cls X [] []
  | bare {x : Str} {c : Value} {ts : Addr → Value → Option Addr → TS} {st : Stmt} {suite : List Stmt} {p1 p2 : Pos} {hds : List ExceptHandler} {l : List Cl} (hc : Names X x c)
      (su : ∀ (a : Addr) (o : Obj) (k : Value) (d : Option Addr) (pn : List (Addr × Obj)), Zc k d o → (∃ vs, o.data = .fields vs) → PSs (X.suite a ((a, o) :: pn)) (st :: suite) (ts a k d)) (r : Cls X hds l) :
      Cls X (.ExceptHandler (some (.Name x p1)) none (st :: suite) p2 :: hds) (⟨c, none, ts⟩ :: l)
  | named {x n : Str} {i : Nat} {c : Value} {ts : Addr → Value → Option Addr → TS} {st : Stmt} {suite : List Stmt} {p1 p2 : Pos} {hds : List ExceptHandler} {l : List Cl} (hi : X.N[i]? = some n) (hl : X.env.kindOf n = some .local) (hc : Names X x c)
      (su : ∀ (a : Addr) (o : Obj) (k : Value) (d : Option Addr) (pn : List (Addr × Obj)), Zc k d o → (∃ vs, o.data = .fields vs) → PSs (X.suite a ((a, o) :: pn)) (st :: suite) (ts a k d)) (r : Cls X hds l) :
      Cls X (.ExceptHandler (some (.Name x p1)) (some n) (st :: suite) p2 :: hds) (⟨c, some i, ts⟩ :: l)
section
variable {X : Cx} {body : List Stmt} {h₀ : ExceptHandler} {hds : List ExceptHandler} {l : List Cl} {pos : Pos} {tb : WX → TS} {Wout : WX}
/-- what is known of the thing that flies, seen from the def that may catch it -/
structure Sees (X : Cx) (pins : List (Addr × Obj)) (σ : L2.St) (H : Hp) (B : Heap) (a : Addr) (k : Value) (d : Option Addr) (s : Shared) : Prop where
  inv : ∃ sI, Inv X pins σ H sI ∧ (∀ b o, sI.heap.get? b = some o → b ∉ frs X.stack → B.get? b = some o) ∧ sI.heap.UpToSlots s.heap ∧ s.os = sI.os ∧ AllBare s.gens
  fly : HandSPX.FlyingZ B (X.env :: X.outer) a (Zc k d) s.heap
  free : H a = none
theorem Sees.here {pins : List (Addr × Obj)} {σ : L2.St} {H : Hp} {B : Heap} {a : Addr} {k : Value} {d : Option Addr} {s : Shared} (v : Sees X pins σ H B a k d s) : Inv X pins σ H s := by
  obtain ⟨sI, J, nb, up, os, ag⟩ := v.inv
  exact J.landed nb v.fly.1 up os ag
theorem Sees.moved {pins : List (Addr × Obj)} {σ : L2.St} {H : Hp} {B : Heap} {a : Addr} {k : Value} {d : Option Addr} {s : Shared} (v : Sees X pins σ H B a k d s) {h' : Heap} (fl : HandSPX.FlyingZ B (X.env :: X.outer) a (Zc k d) h') (u : s.heap.UpToSlots h') :
    Sees X pins σ H B a k d { s with heap := h' } := by
  obtain ⟨sI, J, nb, up, os, ag⟩ := v.inv
  exact ⟨⟨sI, J, nb, up.trans u, os, ag⟩, fl, v.free⟩
theorem Sees.obj {pins : List (Addr × Obj)} {σ : L2.St} {H : Hp} {B : Heap} {a : Addr} {k : Value} {d : Option Addr} {s : Shared} (v : Sees X pins σ H B a k d s) (hf : X.env.frame = some X.env.locals) :
    ∃ o vs, s.heap.get? a = some o ∧ Zc k d o ∧ o.data = .fields vs ∧ Inv (X.suite a ((a, o) :: (X.pn ++ pins))) [] σ H s := by
  obtain ⟨o, vs, ho, hz, hd⟩ := v.fly.there
  have frames : s.heap.FunFrames B (X.env :: X.outer) := v.fly.2.2.1
  have out : a ∉ frs (X.env :: X.outer) := fun m => by
    obtain ⟨_, o', e', nd⟩ := frames.mem m
    rw [ho] at e'
    cases e'
    exact nd _ hd
  have n1 : a ≠ X.env.locals := fun z => out (List.mem_filterMap.mpr ⟨X.env, List.mem_cons_self, by rw [hf, z]⟩)
  have n2 : a ∉ X.fs := fun m => by
    obtain ⟨e, he, q⟩ := List.mem_filterMap.mp m
    exact out (List.mem_filterMap.mpr ⟨e, List.mem_cons_of_mem _ he, q⟩)
  exact ⟨o, vs, ho, hz, hd, v.here.suite ho hd v.free n1 n2⟩
/-- the clause's class, as the suite's context sees it -/
theorem sees_name {pins : List (Addr × Obj)} {σ : L2.St} {H : Hp} {a : Addr} {c : Value} {o : Obj} {s : Shared} {x : Str} {p1 : Pos} {Q E : Value → Shared → Prop} (S : Inv (X.suite a ((a, o) :: (X.pn ++ pins))) [] σ H s) (hc : Names X x c) (q : Q c s) :
    wpAny (model X.prog X.w) (X.A.mark (some (.ref a))) (eval (.Name x p1) X.env) Q E s := by
  obtain ⟨g, nd, m | ⟨m, bv, nn⟩⟩ := hc
  · exact ld_glob (X := X.suite a ((a, o) :: (X.pn ++ pins))) S g m q nd
  · exact ld_blt (X := X.suite a ((a, o) :: (X.pn ++ pins))) S g m bv q nn nd
theorem handled (stk : X.stack = X.env :: X.outer) (fr : X.env.frame = some X.env.locals) (nd : X.N.Nodup) (tk : Takes X Wout) {D : Ends} {pins : List (Addr × Obj)} {σ : L2.St} {H : Hp} {B : Heap} {a : Addr} {k : Value} {d : Option Addr} :
    ∀ {hds : List ExceptHandler} {l : List Cl}, Cls X hds l → ∀ {s : Shared}, Sees X pins σ H B a k d s → wish X.K Wout D l k d σ H → wpAny (model X.prog X.w) X.A (handleBy (.ref a) X.env hds) (SP X pins D) X.xe s := by
  intro hds l hk
  induction hk with
  | nil =>
    intro s v w
    refine wpAny_handleBy_nil ?_
    obtain ⟨_, _, _, o, vs, t, ot, _, ho, _, hd, h1, _⟩ := id v.fly
    unfold PySem.passOn
    refine wpAny_bind (wpAny_field ho hd h1 ?_)
    rw [if_neg (show ¬ ((Value.ref t == Value.none) = true) from by simp)]
    have away : wpAny (model X.prog X.w) X.A (setFlight (.ref a) X.env.frame) (fun _ s4 => wpAny (model X.prog X.w) X.A (throw (.ref a) : Sem Flow) (SP X pins D) X.xe s4) X.xe s := by
      rw [fr]
      obtain ⟨sI, J, nb, up, os, ag⟩ := v.inv
      refine HandSPX.setFlight_upZ v.fly fun h4 q4 u4 => wpAny_throw (tk _ _ ?_)
      exact ⟨a, B, sI, pins, σ, H, k, d, rfl, J, nb, up.trans u4, .inr (.inr (by rw [stk]; exact q4)), v.free, os, ag, w⟩
    first
      | exact wpAny_bind (wpAny_pure (wpAny_bind away))
      | exact wpAny_bind away
  | @bare x c ts st suite p1 p2 rest l2 hc su r ih =>
    intro s v w
    obtain ⟨b, e1, yes, no⟩ := w
    obtain ⟨o, vs, ho, hz, hd, S⟩ := v.obj fr
    refine wpAny_handleBy_cons (codeAny_handlers_test ?_) (by intro q; cases q)
    have lt : PySem.W.Looks (model X.prog X.w) s.heap (typeOf (.ref a)) k := fun A Q E s' kk q => wpAny_typeOf_ref (kk _ _ ho) (by rw [hz.1]; exact q)
    refine sees_name S hc ((PySem.W.exm_one (M := model X.prog X.w) v.here.kIn lt e1).here ?_)
    cases b with
    | false =>
      show wpAny _ X.A (handleBy (.ref a) X.env rest) _ _ _
      exact ih v (no rfl)
    | true =>
      refine codeAny_handlers_suite (HandSPX.lands_againZ v.fly fun h4 f4 u4 => ?_)
      have v4 := v.moved f4 u4
      obtain ⟨o4, vs4, ho4, hz4, hd4, S4⟩ := v4.obj fr
      have ok := v.here.ok
      refine wpAny_mono ((su a o4 k d (X.pn ++ pins) hz4 ⟨_, hd4⟩).run [] _ _ H _ S4 (yes rfl a v.free)) (fun f s6 hsp => ?_) (fun _ _ z => False.elim z)
      cases f with
      | ret u =>
        obtain ⟨v6, σ6, H6, S6, r6, q6⟩ := hsp
        exact ⟨_, _, _, S6.unsuite ok, r6, q6⟩
      | next | brk | cont =>
        obtain ⟨σ6, H6, S6, q6⟩ := hsp
        exact ⟨_, _, S6.unsuite ok, q6⟩
  | @named x n i c ts st suite p1 p2 rest l2 hi hl hc su r ih =>
    intro s v w
    obtain ⟨b, e1, yes, no⟩ := w
    obtain ⟨o, vs, ho, hz, hd, S⟩ := v.obj fr
    refine wpAny_handleBy_cons (codeAny_handlers_test ?_) (by intro q; cases q)
    have lt : PySem.W.Looks (model X.prog X.w) s.heap (typeOf (.ref a)) k := fun A Q E s' kk q => wpAny_typeOf_ref (kk _ _ ho) (by rw [hz.1]; exact q)
    refine sees_name S hc ((PySem.W.exm_one (M := model X.prog X.w) v.here.kIn lt e1).here ?_)
    cases b with
    | false =>
      show wpAny _ X.A (handleBy (.ref a) X.env rest) _ _ _
      exact ih v (no rfl)
    | true =>
      refine codeAny_handlers_suite_as (HandSPX.lands_againZ v.fly fun h4 f4 u4 => ?_)
      have v4 := v.moved f4 u4
      obtain ⟨o4, vs4, ho4, hz4, hd4, S4⟩ := v4.obj fr
      have ok := v.here.ok
      refine store_ok (X := X.suite a ((a, o4) :: (X.pn ++ pins))) (v := .ref a) S4 nd hi (.inl hl) rfl (fun s5 S5 => ?_) (.inr hl)
      refine wpAny_mono ((su a o4 k d (X.pn ++ pins) hz4 ⟨_, hd4⟩).run [] s5 _ H _ S5 (yes rfl a v.free)) (fun f s6 hsp => ?_) (fun _ _ z => False.elim z)
      have gone : ∀ {σ6 : L2.St} {H6 : Hp} {Q : Shared → Prop}, Inv (X.suite a ((a, o4) :: (X.pn ++ pins))) [] σ6 H6 s6 → (∀ s7, Inv X pins (σ6.set i none) H6 s7 → Q s7) →
          wpAny (model X.prog X.w) X.A (do bindName X.env n .none; unbindBehindTheSuite X.env n p2) (fun _ s7 => Q s7) X.xe s6 := fun {σ6 H6 Q} S6 q => gone_ok (S6.unsuite ok) nd hi hl q
      cases f with
      | ret u =>
        obtain ⟨v6, σ6, H6, S6, r6, q6⟩ := hsp
        exact gone S6 fun s7 J7 => ⟨_, _, _, J7, r6, q6⟩
      | next | brk | cont =>
        obtain ⟨σ6, H6, S6, q6⟩ := hsp
        exact gone S6 fun s7 J7 => ⟨_, _, J7, q6⟩
/-- try: body / except X as n: .. / except Y: .. -/
theorem ps_try_clauses (stk : X.stack = X.env :: X.outer) (fr : X.env.frame = some X.env.locals) (nd : X.N.Nodup) (tk : Takes X Wout)
    (hb : ∀ (W : WX) (pn : List (Addr × Obj)) (xe : Value → Shared → Prop), Takes (X.tr pn xe) W → PassesOwn (model X.prog X.w) X.A X.env xe → PSs (X.tr pn xe) body (tb W))
    (hh : Cls X (h₀ :: hds) l) : PS X (.Try body (h₀ :: hds) [] [] pos) (fun D σ H => tb (wish X.K Wout D l) D σ H) := by
  refine ⟨fun pins s σ H D I h => ?_⟩
  have ok := I.ok
  have frames : X.A.frames = some (X.env :: X.outer) := by rw [ok.frames, stk]
  refine wpAny_Try_except (wpAny_mono ((hb (wish X.K Wout D l) (X.pn ++ pins) (fun e s₁ => wpAny (model X.prog X.w) X.A (noteFrame e X.env) (fun _ s₂ => wpAny (model X.prog X.w) X.A (setFlight e none) (fun _ s₃ =>
    wpAny (model X.prog X.w) X.A (handleBy e X.env (h₀ :: hds)) (SP X pins D) X.xe s₃) X.xe s₂) X.xe s₁) (fun u s' xx => ?_) PassesOwn.looking).run [] s σ H D (I.toTry _) h) (fun f s1 hsp => ?_) (fun e s1 he => he))
  · obtain ⟨a, B, sI, pins', σ', H', k, d, rfl, J', nb, up, sky, na, os, ag, w⟩ := xx
    have J : Inv X pins σ' H' sI := J'.ofTry ok
    have sky' : Sky B (X.env :: X.outer) a (Zc k d) X.env.locals s'.heap := by rw [← stk]; exact sky
    show wpAny (model X.prog X.w) X.A (noteFrame (.ref a) X.env) _ _ _
    refine Sky.land Zc.steady frames fr sky' fun h3 f3 u3 => ?_
    exact handled stk fr nd tk hh ⟨⟨sI, J, nb, up.trans u3, os, ag⟩, f3, na⟩ w
  · cases f with
    | next =>
      obtain ⟨σ', H', J', q⟩ := hsp
      exact wpAny_execs_nil ⟨σ', H', J'.ofTry ok, q⟩
    | ret u =>
      obtain ⟨v, σ', H', J', r, q⟩ := hsp
      exact ⟨v, σ', H', J'.ofTry ok, r, q⟩
    | brk | cont =>
      obtain ⟨σ', H', J', q⟩ := hsp
      exact ⟨σ', H', J'.ofTry ok, q⟩
end
end TryAs
namespace Lw
open PySem PySem.Spec PyProof.Rows L2 Evl Pd Gd Us Chk LamX LamK TryAs
abbrev sBad : Stmt := top 34
abbrev sTold : Stmt := top 36
/-- try: call() / except BadSetting as e: return ["setting", e.part] / .. -/
def TBad (CS : Addr) : (XK → Hp → VK → Prop) → Hp → VK → Prop := fun tl H Q =>
  tl (fun k d H' => ∃ dd v, k = .ref CS ∧ d = some dd ∧ H' dd = some (.xd [("part", v)]) ∧ ∀ p, H' p = none → Q (.ref p) (upd H' p (.lst [.str "setting", v]))) H fun _ H' => Q .non H'
/-- the classes that the clauses name -/
structure Cat (mg : Str → Option Value) (x : Str) : Prop where
  ex : ∃ C : Addr, mg x = some (.ref C)
theorem scBad : FnScope ["call", "e"] ["call"] (defScope sBad) := ⟨rfl, rfl, rfl, by decide +kernel, rfl, by decide +kernel, by decide +kernel⟩
theorem takes_len {X : Cx} {W : WX} (t : Takes X W) : Takes X (fun cls d σ H => σ.length = X.N.length → W cls d σ H) := fun u s' x => by
  obtain ⟨a, B, sI, pins, σ, H, cls, d, e, I, nb, up, sky, na, os, ag, w⟩ := x
  exact t u s' ⟨a, B, sI, pins, σ, H, cls, d, e, I, nb, up, sky, na, os, ag, w I.len⟩
theorem bad_gives {X : Cx} {g CS fS : Addr} {cdg : Value} {q : Str} (ES : Err.ErrC X.K CS fS "part") (mS : X.mg "BadSetting" = some (.ref CS)) (me : PySem.W.exmOne X.K (.ref CS) (.ref CS) = some true)
    (c1 : Cat X.mg "BadEnd") (c2 : Cat X.mg "BadPact") (c3 : Cat X.mg "BadName") (c4 : Cat X.mg "BadDeed") (c5 : Cat X.mg "BadArgument") (c6 : Cat X.mg "BadState") (c7 : Cat X.mg "BadMove") (c8 : Cat X.mg "BadScript") (c9 : Cat X.mg "BadClaim") (c10 : Cat X.mg "PactError") :
    GivesTo X ["call", "e"] "_law_bad" (defScope sBad) g cdg (defBody sBad) "call" q (TBad CS) := by
  intro f c' s H Q tl act hc h
  obtain ⟨C1, m1⟩ := c1.ex
  obtain ⟨C2, m2⟩ := c2.ex
  obtain ⟨C3, m3⟩ := c3.ex
  obtain ⟨C4, m4⟩ := c4.ex
  obtain ⟨C5, m5⟩ := c5.ex
  obtain ⟨C6, m6⟩ := c6.ex
  obtain ⟨C7, m7⟩ := c7.ex
  obtain ⟨C8', m8⟩ := c8.ex
  obtain ⟨C9, m9⟩ := c9.ex
  obtain ⟨C10, m10⟩ := c10.ex
  have xf : XfC X.K CS := ⟨ES.ga, ES.gg, ES.exC, ES.hdC⟩
  refine ⟨_, pss_cons (ps_try_clauses (X := (cxOf C8.CX0 X.prog X.w X.K X.mg X.base ["call", "e"] "_law_bad" (defScope sBad) g cdg X.A X.stack s H C8.E0).nox)
      (tb := fun W D σ H => ∃ Ech : XK, (∀ cls d (σ' : L2.St) H', Ech cls d H' → σ'.length = 2 → W cls d σ' H') ∧ σ[0]? = some (some (.ref f)) ∧ H c' = some (CodeO c' q) ∧ tl Ech H fun _ H' => D.nx σ H')
      (l := [⟨.ref CS, some 1, fun a k d => tRet (tLst (tCons (tC (.str "setting")) (tCons (tXf a k d CS "part" (tVar 1)) tNil)))⟩, ⟨.ref C1, some 1, fun _ _ _ => tNever⟩, ⟨.ref C2, some 1, fun _ _ _ => tNever⟩, ⟨.ref C3, some 1, fun _ _ _ => tNever⟩, ⟨.ref C4, some 1, fun _ _ _ => tNever⟩,
        ⟨.ref C5, some 1, fun _ _ _ => tNever⟩, ⟨.ref C6, some 1, fun _ _ _ => tNever⟩, ⟨.ref C7, some 1, fun _ _ _ => tNever⟩, ⟨.ref C8', some 1, fun _ _ _ => tNever⟩, ⟨.ref C9, some 1, fun _ _ _ => tNever⟩, ⟨.ref C10, none, fun _ _ _ => tNever⟩])
      rfl rfl scBad.nd LamX.takes0 (fun W pn xe tk _ => ?body) ?cls) (pss_one (ps_ret pe_non)), ?_⟩
  case body =>
    refine ⟨fun pins s' σ H' D I h' => ?_⟩
    obtain ⟨Ech, hW, h1, h2, h3⟩ := h'
    exact (pss_one (ps_expr (act _ pn xe Ech _ _ (takes_len tk) hW))).run pins s' σ H' D I ⟨h1, h2, h3⟩
  case cls =>
    refine .named rfl rfl ⟨by rfl, by decide, .inl mS⟩ (fun a o k d pn hz hf => pss_one (ps_ret (pe_lst (pa_cons pe_str (pa_cons (pe_xf xf ES.noF hz hf (pv 1)) pa_nil))))) ?_
    refine .named rfl rfl ⟨by rfl, by decide, .inl m1⟩ (fun a o k d pn hz hf => pss_never) ?_
    refine .named rfl rfl ⟨by rfl, by decide, .inl m2⟩ (fun a o k d pn hz hf => pss_never) ?_
    refine .named rfl rfl ⟨by rfl, by decide, .inl m3⟩ (fun a o k d pn hz hf => pss_never) ?_
    refine .named rfl rfl ⟨by rfl, by decide, .inl m4⟩ (fun a o k d pn hz hf => pss_never) ?_
    refine .named rfl rfl ⟨by rfl, by decide, .inl m5⟩ (fun a o k d pn hz hf => pss_never) ?_
    refine .named rfl rfl ⟨by rfl, by decide, .inl m6⟩ (fun a o k d pn hz hf => pss_never) ?_
    refine .named rfl rfl ⟨by rfl, by decide, .inl m7⟩ (fun a o k d pn hz hf => pss_never) ?_
    refine .named rfl rfl ⟨by rfl, by decide, .inl m8⟩ (fun a o k d pn hz hf => pss_never) ?_
    refine .named rfl rfl ⟨by rfl, by decide, .inl m9⟩ (fun a o k d pn hz hf => pss_never) ?_
    exact .bare ⟨by rfl, by decide, .inl m10⟩ (fun a o k d pn hz hf => pss_never) .nil
  refine ⟨fun k d H' => ∃ dd v, k = .ref CS ∧ d = some dd ∧ H' dd = some (.xd [("part", v)]) ∧ ∀ p, H' p = none → Q (.ref p) (upd H' p (.lst [.str "setting", v])), fun k d σ' H' ⟨dd, v, ek, ed, hd, hq⟩ hl => ?_, rfl, hc, ?_⟩
  · subst ek ed
    refine ⟨true, me, fun _ a ha => ?_, fun z => nomatch z⟩
    have at1 : (σ'.set 1 (some (V.ref a)))[1]? = some (some (V.ref a)) := by
      rw [List.getElem?_set_self (by omega)]
    exact ⟨.ref a, at1, rfl, rfl, dd, _, v, rfl, hd, rfl, show 2 ≤ sizeLine from by decide, fun p hp => hq p hp⟩
  · exact h
end Lw
namespace Lw
open PySem PySem.Spec PyProof.Rows L2 Evl Pd Gd Us Chk LamX LamK TryAs
/-- a list of the parts -/
def PtsV (p : Pts) : PV := Qe (.list [p.sort, p.size, p.start, p.changes, p.hold])
def spTold (T : TabT) : Sp := fun vs H Q _ => vs.length = 1 ∧ ∃ x p t, vs = [x] ∧ PtsV p x H ∧ Short p.changes ∧ wrong p = some t ∧ Tabs T H ∧ ∀ y H', ExtN H H' → Tabs T H' → LstV [.str "setting", .str t] y H' → Q y H'
theorem scTold : FnScope ["parts"] ["parts"] (defScope sTold) := ⟨rfl, rfl, rfl, by decide +kernel, rfl, by decide +kernel, by decide +kernel⟩
theorem p_ixQ {K : PySem.W.Frag} {σ : L2.St} {H : Hp} {te ti : TE} {ds : List PyData} {d : PyData} {i : Nat} (h : EvP te σ H (Qe (.list ds))) (hi : Ev ti σ H (.int (i : Int))) (e : ds[i]? = some d) : EvP (tOp (rIxL K) te ti) σ H (Qe d) := fun H1 a Q q =>
  h H1 a _ fun x H2 e1 p => hi H2 (a.trans e1) _ fun H3 e2 => by
    cases p with
    | lst z hl hD =>
      obtain ⟨y, h1, h2⟩ := dqAll_get hD e
      exact ⟨_, _, _, y, rfl, rfl, sq_of (e2 _ _ hl), Chk.atI_nat h1, q y H3 (e1.trans e2) (dq_up e2 h2)⟩
theorem dq_ext {H H' : Hp} (e : ExtN H H') {x : V} {d : PyData} (h : Dq H x d) : Dq H' x d := dq_by (fun _ _ h => e _ _ h fun _ z => nomatch z) (fun _ _ h => e _ _ h fun _ z => nomatch z) h
def tParts (K : PySem.W.Frag) : TA := tCons (tOp (rIxL K) (tVar 0) (tC (.int 0))) (tCons (tOp (rIxL K) (tVar 0) (tC (.int 1))) (tCons (tOp (rIxL K) (tVar 0) (tC (.int 2))) (tCons (tOp (rIxL K) (tVar 0) (tC (.int 3))) (tCons (tOp (rIxL K) (tVar 0) (tC (.int 4))) tNil))))
theorem told_read {K : PySem.W.Frag} {C CS : Addr} {T : TabT} {x : V} {p : Pts} {t : Str} {H : Hp} {Q : VK} (hx : PtsV p x H) (hs : Short p.changes) (hw : wrong p = some t) (hT : Tabs T H) (q : ∀ y H', ExtN H H' → Tabs T H' → LstV [.str "setting", .str t] y H' → Q y H') :
    tLam T (TBad CS) (fun E => tMake C (spInit C CS) [] E (tParts K)) (L2.start ["parts"] [x]) H Q := by
  refine ⟨hT, fun H1 e1 T1 => ?_⟩
  have hx1 : Dq H1 x (.list [p.sort, p.size, p.start, p.changes, p.hold]) := dq_ext e1 hx
  show tMake C (spInit C CS) [] (fun k d H' => ∃ dd v, k = .ref CS ∧ d = some dd ∧ H' dd = some (.xd [("part", v)]) ∧ ∀ p, H' p = none → Q (.ref p) (upd H' p (.lst [.str "setting", v]))) (tParts K) (L2.start ["parts"] [x]) H1 (fun _ H' => Q .non H')
  have ev : EvPs (tParts K) (L2.start ["parts"] [x]) H1 (ptsV p) := by
    have hv : EvP (tVar 0) (L2.start ["parts"] [x]) H1 (Qe (.list [p.sort, p.size, p.start, p.changes, p.hold])) := q_var rfl hx1
    unfold tParts ptsV
    refine ps_cons mo_qe ?a0 (ps_cons mo_qe ?a1 (ps_cons mo_qe ?a2 (ps_cons mo_qe ?a3 (ps_cons mo_qe ?a4 ps_nil))))
    case a0 => exact p_ixQ (i := 0) hv ev_c rfl
    case a1 => exact p_ixQ (i := 1) hv ev_c rfl
    case a2 => exact p_ixQ (i := 2) hv ev_c rfl
    case a3 => exact p_ixQ (i := 3) hv ev_c rfl
    case a4 => exact p_ixQ (i := 4) hv ev_c rfl
  refine make_bad (p := p) (t := t) ev hs hw fun d H2 e2 hd => ?_
  refine ⟨d, .str t, rfl, rfl, upd_same, fun r hr2 => ?_⟩
  have e3 : Ex H1 (upd (upd H2 d (.xd [("part", V.str t)])) r (.lst [.str "setting", .str t])) := e2.trans ((Ex.new hd).trans (Ex.new hr2))
  exact q (.ref r) _ (e1.trans (ExtN.of e3)) (T1.ext e3) ⟨r, rfl, upd_same⟩
/-- the def that gets the lambda -/
structure FunB (K : PySem.W.Frag) (mg : Str → Option Value) (x : Str) (st : Stmt) (g : Addr) : Prop where
  mg : mg x = some (.ref g)
  kp : PySem.W.keepIn K (.ref g) = true
  ex : ∃ (oc : Value) (od : Option Addr) (kV doc pm : Value) (an : Option Addr) (cd ct : Value) (osl : Array (Option Value)), K.lookup g = some ⟨oc, od, .func (PySem.W.fnOf x x (defArgs st) (defBody st) (defScope st) .none kV doc pm an cd ct), osl⟩ ∧ PySem.W.codeIn K cd x = true
section
variable {P : Program} {w : World} {K : PySem.W.Frag} {mg : Str → Option Value} {base : Heap} {f c tb g C CS fS : Addr} {fd : FuncData} {T : TabT}
theorem ok_told (F : FunC K "_law_told" "_law_told" sTold f fd c) (TB : TabB base mg c tb) (hmT : (tb, ("_law_told.<locals>.<lambda>" : Str)) ∈ T) (huT : ∀ p ∈ T, p.1 = tb → p.2 = ("_law_told.<locals>.<lambda>" : Str)) (FB : FunB K mg "_law_bad" sBad g)
    (S : SetC P w K mg base C CS) (ES : Err.ErrC K CS fS "part") (mS : mg "BadSetting" = some (.ref CS)) (me : PySem.W.exmOne K (.ref CS) (.ref CS) = some true)
    (c1 : Cat mg "BadEnd") (c2 : Cat mg "BadPact") (c3 : Cat mg "BadName") (c4 : Cat mg "BadDeed") (c5 : Cat mg "BadArgument") (c6 : Cat mg "BadState") (c7 : Cat mg "BadMove") (c8 : Cat mg "BadScript") (c9 : Cat mg "BadClaim") (c10 : Cat mg "PactError") :
    FnG P w K mg base CX0 10 f fd ["parts"] (spTold T) := by
  refine okGC F scTold (fun vs H Q E h => h.1) (fun A outer s H vs Q E hr hg h => ?_)
  obtain ⟨_, x, p, t, rfl, hx, hs, hw, hT, q⟩ := h
  obtain ⟨oc, od, kV, doc, pm, an, cd, ct, osl, lk, hcd⟩ := FB.ex
  have qn : ∀ (E : XK), (cxOf CX0 P w K mg base ["parts"] "_law_told" (defScope sTold) f (.ref c) A outer s H E).nox.env.qual ++ "<lambda>" = ("_law_told.<locals>.<lambda>" : Str) := fun _ => by kernel_rfl
  have bB : L2.Binds K (PySem.W.fnOf "_law_bad" "_law_bad" (defArgs sBad) (defBody sBad) (defScope sBad) .none kV doc pm an cd ct) ["call"] [] := (⟨⟨oc, od, kV, doc, pm, an, cd, ct, osl, rfl, lk, hcd⟩, FB.kp⟩ : Fun K "_law_bad" "_law_bad" sBad g _).binds (ps := ["call"]) fun _ _ _ _ _ _ us hl => match us, hl with | [_], _ => rfl
  have ls : LamS (defScope sTold) { kind := .function, names := [("parts", .free), ("Setting", .globalImplicit)], isGenerator := false, isCoroutine := false } := lamS_by (by decide +kernel)
  refine ⟨_, pss_one (ps_ret (pe_lamcall (T := T) (TT := TBad CS) (k := 7) (a := "call") (c := c) (P := tb) (Ng := ["call", "e"]) (t := fun E => tMake C (spInit C CS) [] E (tParts K))
    ?hg FB.mg FB.kp lk hcd bB scBad ?hNg ?hva ?hG TB ?hcode ?hm ?hu hr ls ?hdef ?hbind ?hbody)), ?_⟩
  case hg => rfl
  case hNg => rfl
  case hva => exact .inl rfl
  case hcode => rfl
  case hdef => rfl
  case hbind => exact fun _ _ _ _ _ => rfl
  case hm => rw [qn]; exact hmT
  case hu => rw [qn]; exact huT
  case hG => exact bad_gives ES mS me c1 c2 c3 c4 c5 c6 c7 c8 c9 c10
  case hbody =>
    intro A' outer' s' H' E' f' c2 hr2
    refine pe_setting (j := 7) S hr2 (by decide) ?g ?pass ?args ?he ?hpl
    case g => rfl
    case he => rfl
    case hpl => rfl
    case pass => exact passes_call (takes_of rfl rfl rfl rfl) fun _ _ _ _ h => h
    case args =>
      refine pa_cons ?a1 (pa_cons ?a2 (pa_cons ?a3 (pa_cons ?a4 (pa_cons ?a5 pa_nil))))
      case a1 => exact pe_ix (r := rIxL K) ix_list (pv 0) pe_int (fun _ _ => rfl)
      case a2 => exact pe_ix (r := rIxL K) ix_list (pv 0) pe_int (fun _ _ => rfl)
      case a3 => exact pe_ix (r := rIxL K) ix_list (pv 0) pe_int (fun _ _ => rfl)
      case a4 => exact pe_ix (r := rIxL K) ix_list (pv 0) pe_int (fun _ _ => rfl)
      case a5 => exact pe_ix (r := rIxL K) ix_list (pv 0) pe_int (fun _ _ => rfl)
  exact told_read hx hs hw hT q
end
end Lw
set_option maxHeartbeats 1000000
/-! What is right and what is odd: facts of the finite. -/
namespace Lw
open PySem PySem.Spec PyProof.Rows L2 Evl Pd Gd Us Chk
def prP (c : Int × Int) : PyData := pr c.1 c.2
def key2 (c : Int × Int) : List Key := [.inl c.1, .inl c.2]
def b6 : List (Int × Int) := [(0, 1), (1, 0), (0, 2), (2, 0), (1, 2), (2, 1)]
def bN (n : Int) : List (Int × Int) := if n = 2 then b6.take 2 else b6
theorem chBase_eq {n : Int} (h : n = 2 ∨ n = 3) : chBase n = (bN n).map prP := by
  rcases h with rfl | rfl <;> rfl
/-- the changes as pairs of numbers -/
theorem pairs_of {n : Int} (h : n = 2 ∨ n = 3) {es : List PyData} (hs : es.Sublist (chBase n)) : ∃ cs : List (Int × Int), cs.Sublist (bN n) ∧ es = cs.map prP := by
  rw [chBase_eq h] at hs
  obtain ⟨cs, h1, h2⟩ := List.sublist_map_iff.mp hs
  exact ⟨cs, h1, h2⟩
theorem nodup_bN (n : Int) : (bN n).Nodup := by
  unfold bN
  split <;> decide
theorem keyOf_pr (c : Int × Int) : keyOf (prP c) = key2 c := rfl
theorem key2_inj {c d : Int × Int} (h : key2 c = key2 d) : c = d := by
  unfold key2 at h
  injection h with h1 h2
  injection h2 with h3 _
  injection h1 with h1
  injection h3 with h3
  exact Prod.ext h1 h3
theorem any_key (cs : List (Int × Int)) (k : List Key) : (cs.map key2).any (fun x => decide (x = k)) = cs.any fun c => decide (key2 c = k) := by
  rw [List.any_map]
  rfl
theorem once_nodup : ∀ {l : List (List Key)}, l.Nodup → onceK l = l := by
  have go : ∀ (l acc : List (List Key)), (acc ++ l).Nodup → l.foldl addK acc = acc ++ l := by
    intro l
    induction l with
    | nil => intro acc _; simp
    | cons k l ih =>
      intro acc h
      have : addK acc k = acc ++ [k] := by
        unfold addK
        rw [if_neg]
        intro z
        obtain ⟨x, hx, e⟩ := List.any_eq_true.mp z
        have e := of_decide_eq_true e
        subst e
        have := List.nodup_append.mp h
        exact this.2.2 x hx x List.mem_cons_self rfl
      rw [List.foldl_cons, this, ih _ (by simpa using h)]
      simp
  intro l h
  simpa [onceK] using go l [] (by simpa using h)
theorem keys_nodup {cs : List (Int × Int)} (h : cs.Nodup) : (cs.map key2).Nodup := by
  unfold List.Nodup at h ⊢
  rw [List.pairwise_map]
  exact h.imp fun hne e => hne (key2_inj e)
theorem keys_of_pairs (cs : List (Int × Int)) : keysOf (.list (cs.map prP)) = cs.map key2 := by
  show (cs.map prP).map keyOf = _
  rw [List.map_map]
  rfl
theorem once_pairs {n : Int} {cs : List (Int × Int)} (h : cs.Sublist (bN n)) : onceK (keysOf (.list (cs.map prP))) = cs.map key2 := by
  rw [keys_of_pairs]
  exact once_nodup (keys_nodup ((nodup_bN n).sublist h))
theorem pair_back (cs : List (Int × Int)) : (cs.map key2).map Chk.pairD = cs.map prP := by
  rw [List.map_map]
  rfl
/-- the drawn parts -/
def drawn (so : Str) (n k : Int) (cs : List (Int × Int)) (h : Str) : Pts := ⟨.str so, .int n, .int k, .list (cs.map prP), .str h⟩
theorem ok_of_sub {n m : Int} {cs : List (Int × Int)} (h : ∀ c ∈ cs, c ∈ bN n) (hm : (bN n).all (fun c => okCh m (prP c)) = true) : okChs m (.list (cs.map prP)) = true := by
  show (cs.map prP).all (okCh m) = true
  rw [List.all_map]
  exact List.all_eq_true.mpr fun c hc => (List.all_eq_true.mp hm) c (h c hc)
theorem all_bN {n : Int} (h : n = 2 ∨ n = 3) : (bN n).all (fun c => okCh n (prP c)) = true ∧ (bN n).all (fun c => okCh (n + 1) (prP c)) = true := by
  rcases h with rfl | rfl <;> exact ⟨by decide, by decide⟩
theorem holds_ok {so h : Str} (hs : so ∈ sorts) (hh : h ∈ holdsOf so) : isHold so (.str h) = true := by
  unfold sorts at hs
  simp only [List.mem_cons, List.not_mem_nil, or_false] at hs
  rcases hs with rfl | rfl | rfl
  · rw [show holdsOf ("size" : Str) = (["sent", "answered", "open"] : List Str) from rfl] at hh
    simp only [List.mem_cons, List.not_mem_nil, or_false] at hh
    rcases hh with rfl | rfl | rfl <;> decide
  · rw [show holdsOf ("table" : Str) = (["sent", "answered", "answered"] : List Str) from rfl] at hh
    simp only [List.mem_cons, List.not_mem_nil, or_false] at hh
    rcases hh with rfl | rfl | rfl <;> decide
  · rw [show holdsOf ("room" : Str) = (["sent", "answered", "open"] : List Str) from rfl] at hh
    simp only [List.mem_cons, List.not_mem_nil, or_false] at hh
    rcases hh with rfl | rfl | rfl <;> decide
theorem sorts_ok {so : Str} (hs : so ∈ sorts) : inT sorts (.str so) = true := List.any_eq_true.mpr ⟨so, hs, by simp⟩
theorem wrong_none {p : Pts} (h1 : inT sorts p.sort = true) (h2 : betw 2 4 p.size = true) (h3 : betw 0 (intOf p.size - 1) p.start = true) (h4 : okChs (intOf p.size) p.changes = true) (h5 : isHold (strOf p.sort) p.hold = true) : wrong p = none := by
  unfold wrong
  rw [h1, h2, h3, h4, h5]
  rfl
theorem drawn_right {so h : Str} {n k : Int} {cs : List (Int × Int)} (hs : so ∈ sorts) (hn : n = 2 ∨ n = 3) (k0 : 0 ≤ k) (k1 : k < n) (hc : cs.Sublist (bN n)) (hh : h ∈ holdsOf so) : wrong (drawn so n k cs h) = none :=
  wrong_none (sorts_ok hs) (by show (decide (2 ≤ n) && decide (n ≤ 4)) = true; rw [decide_eq_true (by omega), decide_eq_true (by omega)]; rfl)
    (by show (decide (0 ≤ k) && decide (k ≤ n - 1)) = true; rw [decide_eq_true (by omega), decide_eq_true (by omega)]; rfl) (ok_of_sub (fun c h => hc.subset h) (all_bN hn).1) (holds_ok hs hh)
end Lw
set_option maxHeartbeats 1000000
namespace Lw
open PySem PySem.Spec PyProof.Rows L2 Evl Pd Gd Us Chk
def subs {α : Type} : List α → List (List α)
  | [] => [[]]
  | a :: l => subs l ++ (subs l).map (a :: ·)
theorem mem_subs {α : Type} {cs l : List α} (h : cs.Sublist l) : cs ∈ subs l := by
  induction h with
  | slnil => exact List.mem_singleton.mpr rfl
  | cons a _ ih => exact List.mem_append_left _ ih
  | cons_cons a _ ih => exact List.mem_append_right _ (List.mem_map.mpr ⟨_, ih, rfl⟩)
def chOf (cs : List (Int × Int)) : List PyData := cs.map prP
def otherOf (ds : List PyData) : List PyData := [pr 0 1, pr 1 0].filter fun c => !(ds.any fun z => PyData.eqv z c)
def lessOf (ds : List PyData) : List PyData := if (otherOf ds).isEmpty then cutA ds (some 1) none else ds ++ otherOf ds
def revOf (ds : List PyData) : List PyData := (ds ++ ds).reverse
def facts (n : Int) (cs : List (Int × Int)) : Bool :=
  SeqAt.shaped (.list (chOf cs)) && (okChs n (.list (lessOf (chOf cs))) && (!eqK (onceK (keysOf (.list (lessOf (chOf cs))))) (onceK (keysOf (.list (chOf cs)))) && (okChs n (.list (revOf (chOf cs))) && (eqK (onceK (keysOf (.list (chOf cs)))) (onceK (keysOf (.list (revOf (chOf cs))))) &&
    (eqK (onceK (keysOf (.list (chOf cs)))) (onceK (keysOf (.list (chOf cs)))) && decide ((lessOf (chOf cs)).length ≤ 100))))))
theorem facts2 : (subs (bN 2)).all (facts 2) = true := by kernel_rfl
theorem facts3 : (subs (bN 3)).all (facts 3) = true := by kernel_rfl
theorem facts_of {n : Int} (hn : n = 2 ∨ n = 3) {cs : List (Int × Int)} (h : cs.Sublist (bN n)) : facts n cs = true := by
  rcases hn with rfl | rfl
  · exact (List.all_eq_true.mp facts2) cs (mem_subs h)
  · exact (List.all_eq_true.mp facts3) cs (mem_subs h)
theorem just_drawn {so h : Str} {n k : Int} {cs : List (Int × Int)} (hn : n = 2 ∨ n = 3) (hc : cs.Sublist (bN n)) : Just (settingOf (drawn so n k cs h)) (cs.map prP) := by
  refine ⟨fun i j => ?_, (Bool.and_eq_true_iff.mp (facts_of hn hc)).1⟩
  show (onceK (keysOf (.list (cs.map prP)))).any _ = _
  rw [once_pairs hc, any_key, List.any_map]
  congr 1
  funext c
  show decide (([.inl c.1, .inl c.2] : List Key) = [.inl i, .inl j]) = (c.1 == i && (c.2 == j && true))
  rw [Bool.and_true, Bool.eq_iff_iff]
  simp
/-! the odd values -/
def odds (d1 : PyData) : List (List PyData) :=
  [[.str "", .str "Size", .none, .int 3, .list [.str "size"]], [.int 1, .int 5, .bool true, .none, .str "2"], [.int (-1), d1, .bool true, .none, .str "0"],
   [.none, .tuple [pr 0 1], .list [pr 0 0], .list [.tuple [.int 0, d1]], .list [.list [.int 0, .int 1]], .list [.tuple [.int 0, .int 1, .int 0]], .list [.tuple [.bool true, .int 0]], .list [.none]],
   [.str "", .str "Sent", .none, .int 1, .str "never"]]
def oddAt (d1 : PyData) (m : Nat) : List PyData := (odds d1).getD m []
theorem odd0 (d1 : PyData) : (oddAt d1 0).all (fun o => !inT sorts o) = true := rfl
theorem odd1 (d1 : PyData) : (oddAt d1 1).all (fun o => !betw 2 4 o) = true := rfl
theorem odd2 {n : Int} (hn : n = 2 ∨ n = 3) : (oddAt (.int n) 2).all (fun o => !betw 0 (n - 1) o) = true := by rcases hn with rfl | rfl <;> rfl
theorem odd3 {n : Int} (hn : n = 2 ∨ n = 3) : (oddAt (.int n) 3).all (fun o => !okChs n o) = true := by rcases hn with rfl | rfl <;> rfl
theorem odd4 (d1 : PyData) (so : Str) : (oddAt d1 4).all (fun o => !isHold so o) = true := by
  unfold isHold
  by_cases h : so = ("table" : Str)
  · simp only [h, if_true]
    rfl
  · simp only [h, if_false]
    rfl
end Lw
set_option maxHeartbeats 1000000
namespace Lw
open PySem PySem.Spec PyProof.Rows L2 Evl Pd Gd Us Chk
def at_ (l : List PyData) (j : Nat) : PyData := l.getD j .none
def ptsOf (l : List PyData) : Pts := ⟨at_ l 0, at_ l 1, at_ l 2, at_ l 3, at_ l 4⟩
def bad (l : List PyData) : Nat → Bool
  | 0 => !inT sorts (at_ l 0)
  | 1 => !betw 2 4 (at_ l 1)
  | 2 => !betw 0 (intOf (at_ l 1) - 1) (at_ l 2)
  | 3 => !okChs (intOf (at_ l 1)) (at_ l 3)
  | _ => !isHold (strOf (at_ l 0)) (at_ l 4)
def nameAt (m : Nat) : Str := (["sort", "size", "start", "changes", "hold"] : List Str).getD m ""
theorem wrong_bad {l : List PyData} {m : Nat} (hm : m < 5) (lo : ∀ i, i < m → bad l i = false) (h : bad l m = true) : wrong (ptsOf l) = some (nameAt m) := by
  unfold wrong ptsOf
  match m, hm with
  | 0, _ => rw [if_pos (show (!inT sorts (at_ l 0)) = true from h)]; rfl
  | 1, _ =>
    have h0 : (!inT sorts (at_ l 0)) = false := lo 0 (by decide)
    rw [if_neg (by rw [h0]; decide), if_pos (show (!betw 2 4 (at_ l 1)) = true from h)]; rfl
  | 2, _ =>
    have h0 : (!inT sorts (at_ l 0)) = false := lo 0 (by decide)
    have h1 : (!betw 2 4 (at_ l 1)) = false := lo 1 (by decide)
    rw [if_neg (by rw [h0]; decide), if_neg (by rw [h1]; decide), if_pos (show (!betw 0 (intOf (at_ l 1) - 1) (at_ l 2)) = true from h)]; rfl
  | 3, _ =>
    have h0 : (!inT sorts (at_ l 0)) = false := lo 0 (by decide)
    have h1 : (!betw 2 4 (at_ l 1)) = false := lo 1 (by decide)
    have h2 : (!betw 0 (intOf (at_ l 1) - 1) (at_ l 2)) = false := lo 2 (by decide)
    rw [if_neg (by rw [h0]; decide), if_neg (by rw [h1]; decide), if_neg (by rw [h2]; decide), if_pos (show (!okChs (intOf (at_ l 1)) (at_ l 3)) = true from h)]; rfl
  | 4, _ =>
    have h0 : (!inT sorts (at_ l 0)) = false := lo 0 (by decide)
    have h1 : (!betw 2 4 (at_ l 1)) = false := lo 1 (by decide)
    have h2 : (!betw 0 (intOf (at_ l 1) - 1) (at_ l 2)) = false := lo 2 (by decide)
    have h3 : (!okChs (intOf (at_ l 1)) (at_ l 3)) = false := lo 3 (by decide)
    rw [if_neg (by rw [h0]; decide), if_neg (by rw [h1]; decide), if_neg (by rw [h2]; decide), if_neg (by rw [h3]; decide), if_pos (show (!isHold (strOf (at_ l 0)) (at_ l 4)) = true from h)]; rfl
theorem bad_low {l l' : List PyData} {i : Nat} (hi : i < 5) (h : ∀ j, j ≤ i → at_ l j = at_ l' j) : bad l i = bad l' i := by
  match i, hi with
  | 0, _ => show (!inT sorts (at_ l 0)) = !inT sorts (at_ l' 0); rw [h 0 (by decide)]
  | 1, _ => show (!betw 2 4 (at_ l 1)) = !betw 2 4 (at_ l' 1); rw [h 1 (by decide)]
  | 2, _ => show (!betw 0 (intOf (at_ l 1) - 1) (at_ l 2)) = !betw 0 (intOf (at_ l' 1) - 1) (at_ l' 2); rw [h 1 (by decide), h 2 (by decide)]
  | 3, _ => show (!okChs (intOf (at_ l 1)) (at_ l 3)) = !okChs (intOf (at_ l' 1)) (at_ l' 3); rw [h 1 (by decide), h 3 (by decide)]
  | 4, _ => show (!isHold (strOf (at_ l 0)) (at_ l 4)) = !isHold (strOf (at_ l' 0)) (at_ l' 4); rw [h 0 (by decide), h 4 (by decide)]
theorem at_set {l : List PyData} {i j : Nat} {o : PyData} (hi : i < l.length) : at_ (l.set i o) j = if j = i then o else at_ l j := by
  unfold at_
  rw [List.getD_eq_getElem?_getD, List.getD_eq_getElem?_getD, List.getElem?_set]
  by_cases h : i = j
  · subst h
    rw [if_pos rfl, if_pos hi, if_pos rfl]
    rfl
  · rw [if_neg h, if_neg (fun z => h z.symm)]
theorem odd_bad {l : List PyData} {m : Nat} {n : Int} {d1 o : PyData} (hn : n = 2 ∨ n = 3) (hm : m < 5) (ho : o ∈ oddAt d1 m) (hl : at_ l m = o) (h1 : 2 ≤ m → at_ l 1 = .int n ∧ d1 = .int n) : bad l m = true := by
  match m, hm with
  | 0, _ => show (!inT sorts (at_ l 0)) = true; rw [hl]; exact (List.all_eq_true.mp (odd0 d1)) o ho
  | 1, _ => show (!betw 2 4 (at_ l 1)) = true; rw [hl]; exact (List.all_eq_true.mp (odd1 d1)) o ho
  | 2, _ =>
    obtain ⟨a, rfl⟩ := h1 (by decide)
    show (!betw 0 (intOf (at_ l 1) - 1) (at_ l 2)) = true
    rw [hl, a]
    exact (List.all_eq_true.mp (odd2 hn)) o ho
  | 3, _ =>
    obtain ⟨a, rfl⟩ := h1 (by decide)
    show (!okChs (intOf (at_ l 1)) (at_ l 3)) = true
    rw [hl, a]
    exact (List.all_eq_true.mp (odd3 hn)) o ho
  | 4, _ => show (!isHold (strOf (at_ l 0)) (at_ l 4)) = true; rw [hl]; exact (List.all_eq_true.mp (odd4 d1 _)) o ho
/-- right parts: nothing is bad -/
theorem bad_right {l : List PyData} (h : wrong (ptsOf l) = none) {i : Nat} (hi : i < 5) : bad l i = false := by
  obtain ⟨h1, h2, h3, h4, h5⟩ := right_of h
  match i, hi with
  | 0, _ => show (!_) = false; rw [show inT sorts (at_ l 0) = true from h1]; rfl
  | 1, _ => show (!_) = false; rw [show betw 2 4 (at_ l 1) = true from h2]; rfl
  | 2, _ => show (!_) = false; rw [show betw 0 (intOf (at_ l 1) - 1) (at_ l 2) = true from h3]; rfl
  | 3, _ => show (!_) = false; rw [show okChs (intOf (at_ l 1)) (at_ l 3) = true from h4]; rfl
  | 4, _ => show (!_) = false; rw [show isHold (strOf (at_ l 0)) (at_ l 4) = true from h5]; rfl
section
variable {l : List PyData} {n : Int} {i j : Nat} {o o2 : PyData}
theorem bent_wrong (hl : l.length = 5) (hn : n = 2 ∨ n = 3) (r : wrong (ptsOf l) = none) (h1 : at_ l 1 = .int n) (hi : i < 5) (ho : o ∈ oddAt (at_ l 1) i) : wrong (ptsOf (l.set i o)) = some (nameAt i) := by
  refine wrong_bad hi (fun k hk => ?_) (odd_bad hn hi ho (by rw [at_set (by omega), if_pos rfl]) fun h2 => ⟨by rw [at_set (by omega), if_neg (by omega)]; exact h1, h1⟩)
  rw [bad_low (l' := l) (by omega) fun q hq => by rw [at_set (by omega), if_neg (by omega)]]
  exact bad_right r (by omega)
theorem worse_wrong (hl : l.length = 5) (hn : n = 2 ∨ n = 3) (r : wrong (ptsOf l) = none) (h1 : at_ l 1 = .int n) (hi : i < 5) (hj : j < 5) (ne : j ≠ i) (ho : o ∈ oddAt (at_ l 1) i) (ho2 : o2 ∈ oddAt (at_ (l.set i o) 1) j) :
    wrong (ptsOf ((l.set i o).set j o2)) = some (nameAt (if i < j then i else j)) := by
  have l2 : (l.set i o).length = 5 := by rw [List.length_set]; exact hl
  have low : ∀ q, q < i → q < j → at_ ((l.set i o).set j o2) q = at_ l q := fun q a b => by rw [at_set (by omega), if_neg (by omega), at_set (by omega), if_neg (by omega)]
  by_cases lt : i < j
  · rw [if_pos lt]
    refine wrong_bad hi (fun k hk => ?_) (odd_bad hn hi ho (by rw [at_set (by omega), if_neg (by omega), at_set (by omega), if_pos rfl]) fun h2 => ⟨by rw [low 1 (by omega) (by omega)]; exact h1, h1⟩)
    rw [bad_low (l' := l) (by omega) fun q hq => low q (by omega) (by omega)]
    exact bad_right r (by omega)
  · rw [if_neg lt]
    refine wrong_bad hj (fun k hk => ?_) (odd_bad hn hj ho2 (by rw [at_set (by omega), if_pos rfl]) fun h2 => ⟨by rw [low 1 (by omega) (by omega)]; exact h1, by rw [at_set (by omega), if_neg (by omega)]; exact h1⟩)
    rw [bad_low (l' := l) (by omega) fun q hq => low q (by omega) (by omega)]
    exact bad_right r (by omega)
end
end Lw
set_option maxHeartbeats 300000
namespace Lw
open PySem PySem.Spec PyProof.Rows L2 Evl Pd Gd Us Chk
abbrev sBent : Stmt := top 35
/-- the heap without what stands at l -/
def hide (l : Addr) (H : Hp) : Hp := fun b => if b = l then none else H b
theorem hide_ex {l : Addr} {H H' : Hp} (e : Ex H H') : Ex (hide l H) (hide l H') := fun b o h => by
  unfold hide at h ⊢
  split at h
  · cases h
  · rename_i n
    rw [if_neg n]
    exact e b o h
theorem hide_upd {l : Addr} {H : Hp} {o : HO} : Ex (hide l H) (upd H l o) := fun b u h => by
  unfold hide at h
  split at h
  · cases h
  · rename_i n
    rw [upd_ne n]
    exact h
def Qh (l : Addr) (d : PyData) : PV := fun x H => Dq (hide l H) x d
theorem mo_qh {l : Addr} {d : PyData} : Mo (Qh l d) := fun _ _ _ e h => dq_up (hide_ex e) h
theorem mo_qhs {l : Addr} {ds : List PyData} : ∀ P ∈ ds.map (Qh l), Mo P := fun P hP => by
  obtain ⟨d, _, rfl⟩ := List.mem_map.mp hP
  exact mo_qh
theorem allP_qh {l : Addr} {H : Hp} : ∀ {ds : List PyData} {xs : List V}, AllP (ds.map (Qh l)) xs H → DqAll (hide l H) xs ds
  | [], [], _ => .nil
  | d :: ds, x :: xs, h => .cons h.1 (allP_qh h.2)
theorem dqAll_app {H : Hp} : ∀ {xs ys : List V} {as bs : List PyData}, DqAll H xs as → DqAll H ys bs → DqAll H (xs ++ ys) (as ++ bs)
  | _, _, _, _, .nil, h => h
  | _, _, _, _, .cons a t, h => .cons a (dqAll_app t h)
section
variable {K : PySem.W.Frag} {σ : L2.St} {H : Hp} {te ta tb : TE} {tr : TA} {d e : PyData} {ds : List PyData} {l : Addr} {o : HO}
theorem hq_int {i : Int} : EvP (tC (.int i)) σ H (Qh l (.int i)) := p_c.imp fun x _ _ hx => by rw [show x = _ from hx]; exact .int i
theorem hq_str {s : Str} : EvP (tC (.str s)) σ H (Qh l (.str s)) := p_c.imp fun x _ _ hx => by rw [show x = _ from hx]; exact .str s
theorem hq_bl {b : Bool} : EvP (tC (.bl b)) σ H (Qh l (.bool b)) := p_c.imp fun x _ _ hx => by rw [show x = _ from hx]; exact .bl b
theorem hq_non : EvP (tC .non) σ H (Qh l .none) := p_c.imp fun x _ _ hx => by rw [show x = _ from hx]; exact .non
theorem hq_lst (hl : H l = some o) (h : EvPs tr σ H (ds.map (Qh l))) (hz : ds.length ≤ 100000 := by first | decide | simp) : EvP (tLst tr) σ H (Qh l (.list ds)) := fun H1 a Q q =>
  h H1 a _ fun xs H2 e2 ps => by
    have z := allP_qh ps
    have ln : xs.length = ds.length := dqAll_len z
    refine ⟨by rw [ln]; exact sz_of hz, fun p hp => q (.ref p) _ (e2.trans (Ex.new hp)) (.lst (by rw [ln]; exact hz) ?_ (dqAll_up (hide_ex (Ex.new hp)) z))⟩
    have np : p ≠ l := fun z => by
      rw [z, e2 _ _ (a _ _ hl)] at hp
      cases hp
    unfold hide
    rw [if_neg np, upd_same]
theorem hq_tup (hl : H l = some o) (h : EvPs tr σ H (ds.map (Qh l))) (hz : ds.length ≤ 100000 := by first | decide | simp) : EvP (tTup tr) σ H (Qh l (.tuple ds)) := fun H1 a Q q =>
  h H1 a _ fun xs H2 e2 ps => by
    have z := allP_qh ps
    have ln : xs.length = ds.length := dqAll_len z
    refine ⟨by rw [ln]; exact sz_of hz, fun p hp => q (.ref p) _ (e2.trans (Ex.new hp)) (.tup ?_ (dqAll_up (hide_ex (Ex.new hp)) z))⟩
    have np : p ≠ l := fun z => by
      rw [z, e2 _ _ (a _ _ hl)] at hp
      cases hp
    unfold hide
    rw [if_neg np, upd_same]
theorem q_appQ {D : Ends} {tz : TS} {xs : List V} (hl : H l = some (.lst xs)) (ha : Ev ta σ H (.ref l)) (h : EvP te σ H (Qh l d)) (hz : xs.length < 100000) (k : ∀ v H1, Ex H H1 → Dq (hide l H1) v d → tz D σ (upd H1 l (.lst (xs ++ [v])))) :
    tSeq (tDrop (tBM K "list" rAppend ta (tCons te tNil))) tz D σ H := ha H (Ex.refl H) _ fun H1 e1 =>
  ⟨Or.inl ⟨rfl, xs, sq_of (e1 l _ hl)⟩, h H1 e1 _ fun v H2 e2 p => ⟨l, xs, v, rfl, rfl, e2 l _ (e1 l _ hl), sz_lt hz, k v H2 (e1.trans e2) p⟩⟩
theorem q_cat {as bs : List PyData} (h1 : EvP ta σ H (Qe (.list as))) (h2 : EvP tb σ H (Qe (.list bs))) (hz : as.length + bs.length ≤ 100000) : EvP (tOp rCat ta tb) σ H (Qe (.list (as ++ bs))) := fun H1 a Q q =>
  h1 H1 a _ fun x H2 e p1 => h2 H2 (a.trans e) _ fun y H3 e2 p2 => by
    have p1 := mo_qe _ _ _ e2 p1
    cases p1 with
    | @lst a1 xs _ z1 hl1 d1 =>
      cases p2 with
      | @lst a2 ys _ z2 hl2 d2 =>
        have ln : (xs ++ ys).length = as.length + bs.length := by rw [List.length_append, dqAll_len d1, dqAll_len d2]
        refine ⟨a1, a2, xs, ys, rfl, rfl, hl1, hl2, by rw [dqAll_len d1, dqAll_len d2]; exact sz_of hz, fun p hp => q (.ref p) _ (e.trans (e2.trans (Ex.new hp))) (.lst (by rw [ln]; exact hz) upd_same (dqAll_up (Ex.new hp) ?_))⟩
        exact dqAll_app d1 d2
end
abbrev r0 : List PyData := [.str "", .str "Size", .none, .int 3, .list [.str "size"]]
abbrev r1 : List PyData := [.int 1, .int 5, .bool true, .none, .str "2"]
abbrev r2 (d1 : PyData) : List PyData := [.int (-1), d1, .bool true, .none, .str "0"]
abbrev r3 (d1 : PyData) : List PyData := [.none, .tuple [.tuple [.int 0, .int 1]], .list [.tuple [.int 0, .int 0]], .list [.tuple [.int 0, d1]], .list [.list [.int 0, .int 1]], .list [.tuple [.int 0, .int 1, .int 0]], .list [.tuple [.bool true, .int 0]], .list [.none]]
abbrev r4 : List PyData := [.str "", .str "Sent", .none, .int 1, .str "never"]
theorem odds_eq (d1 : PyData) : odds d1 = [r0, r1, r2 d1, r3 d1, r4] := rfl
section
variable {K : PySem.W.Frag} {σ : L2.St} {H : Hp} {t1 : TE} {d1 : PyData} {l : Addr} {o : HO}
theorem e_r0 : EvP (tLst (tCons (tC (.str "")) (tCons (tC (.str "Size")) (tCons (tC .non) (tCons (tC (.int 3)) (tCons (tLst (tCons (tC (.str "size")) tNil)) tNil)))))) σ H (Qe (.list r0)) := by
  have z : EvP (tLst (tCons (tC (.str "size")) tNil)) σ H (Qe (.list [.str "size"])) := q_lst (ds := [.str "size"]) (ps_cons mo_qe q_str ps_nil)
  exact q_lst (ds := r0) (ps_cons mo_qe q_str (ps_cons mo_qe q_str (ps_cons mo_qe q_non (ps_cons mo_qe q_int (ps_cons mo_qe z ps_nil)))))
theorem e_r1 : EvP (tLst (tCons (tC (.int 1)) (tCons (tC (.int 5)) (tCons (tC (.bl true)) (tCons (tC .non) (tCons (tC (.str "2")) tNil)))))) σ H (Qe (.list r1)) :=
  q_lst (ds := r1) (ps_cons mo_qe q_int (ps_cons mo_qe q_int (ps_cons mo_qe q_bl (ps_cons mo_qe q_non (ps_cons mo_qe q_str ps_nil)))))
theorem e_r2 (h : EvP t1 σ H (Qe d1)) : EvP (tLst (tCons (tUn (rU fun i => .int (-i)) (tC (.int 1))) (tCons t1 (tCons (tC (.bl true)) (tCons (tC .non) (tCons (tC (.str "0")) tNil)))))) σ H (Qe (.list (r2 d1))) := by
  have z : EvP (tUn (rU fun i => .int (-i)) (tC (.int 1))) σ H (Qe (.int (-1))) := .of (ev_un (ev_c (v := .int 1)) ru_neg) mo_qe (.int (-1))
  exact q_lst (ds := r2 d1) (ps_cons mo_qe z (ps_cons mo_qe h (ps_cons mo_qe q_bl (ps_cons mo_qe q_non (ps_cons mo_qe q_str ps_nil)))))
theorem e_r4 (hl : H l = some o) : EvP (tLst (tCons (tC (.str "")) (tCons (tC (.str "Sent")) (tCons (tC .non) (tCons (tC (.int 1)) (tCons (tC (.str "never")) tNil)))))) σ H (Qh l (.list r4)) :=
  hq_lst hl (ds := r4) (ps_cons mo_qh hq_str (ps_cons mo_qh hq_str (ps_cons mo_qh hq_non (ps_cons mo_qh hq_int (ps_cons mo_qh hq_str ps_nil)))))
theorem e_r3 (hl : H l = some o) (h : EvP t1 σ H (Qh l d1)) : EvP (tLst (tCons (tC .non) (tCons (tTup (tCons (tTup (tCons (tC (.int 0)) (tCons (tC (.int 1)) tNil))) tNil)) (tCons (tLst (tCons (tTup (tCons (tC (.int 0)) (tCons (tC (.int 0)) tNil))) tNil)) (tCons (tLst (tCons (tTup (tCons (tC (.int 0)) (tCons t1 tNil))) tNil))
    (tCons (tLst (tCons (tLst (tCons (tC (.int 0)) (tCons (tC (.int 1)) tNil))) tNil)) (tCons (tLst (tCons (tTup (tCons (tC (.int 0)) (tCons (tC (.int 1)) (tCons (tC (.int 0)) tNil)))) tNil)) (tCons (tLst (tCons (tTup (tCons (tC (.bl true)) (tCons (tC (.int 0)) tNil))) tNil)) (tCons (tLst (tCons (tC .non) tNil)) tNil)))))))))
    σ H (Qh l (.list (r3 d1))) := by
  have a1 : EvP (tTup (tCons (tTup (tCons (tC (.int 0)) (tCons (tC (.int 1)) tNil))) tNil)) σ H (Qh l (.tuple [.tuple [.int 0, .int 1]])) := hq_tup hl (ds := [.tuple [.int 0, .int 1]]) (ps_cons mo_qh (hq_tup hl (ds := [.int 0, .int 1]) (ps_cons mo_qh hq_int (ps_cons mo_qh hq_int ps_nil))) ps_nil)
  have a2 : EvP (tLst (tCons (tTup (tCons (tC (.int 0)) (tCons (tC (.int 0)) tNil))) tNil)) σ H (Qh l (.list [.tuple [.int 0, .int 0]])) := hq_lst hl (ds := [.tuple [.int 0, .int 0]]) (ps_cons mo_qh (hq_tup hl (ds := [.int 0, .int 0]) (ps_cons mo_qh hq_int (ps_cons mo_qh hq_int ps_nil))) ps_nil)
  have a3 : EvP (tLst (tCons (tTup (tCons (tC (.int 0)) (tCons t1 tNil))) tNil)) σ H (Qh l (.list [.tuple [.int 0, d1]])) := hq_lst hl (ds := [.tuple [.int 0, d1]]) (ps_cons mo_qh (hq_tup hl (ds := [.int 0, d1]) (ps_cons mo_qh hq_int (ps_cons mo_qh h ps_nil))) ps_nil)
  have a4 : EvP (tLst (tCons (tLst (tCons (tC (.int 0)) (tCons (tC (.int 1)) tNil))) tNil)) σ H (Qh l (.list [.list [.int 0, .int 1]])) := hq_lst hl (ds := [.list [.int 0, .int 1]]) (ps_cons mo_qh (hq_lst hl (ds := [.int 0, .int 1]) (ps_cons mo_qh hq_int (ps_cons mo_qh hq_int ps_nil))) ps_nil)
  have a5 : EvP (tLst (tCons (tTup (tCons (tC (.int 0)) (tCons (tC (.int 1)) (tCons (tC (.int 0)) tNil)))) tNil)) σ H (Qh l (.list [.tuple [.int 0, .int 1, .int 0]])) := hq_lst hl (ds := [.tuple [.int 0, .int 1, .int 0]]) (ps_cons mo_qh (hq_tup hl (ds := [.int 0, .int 1, .int 0]) (ps_cons mo_qh hq_int (ps_cons mo_qh hq_int (ps_cons mo_qh hq_int ps_nil)))) ps_nil)
  have a6 : EvP (tLst (tCons (tTup (tCons (tC (.bl true)) (tCons (tC (.int 0)) tNil))) tNil)) σ H (Qh l (.list [.tuple [.bool true, .int 0]])) := hq_lst hl (ds := [.tuple [.bool true, .int 0]]) (ps_cons mo_qh (hq_tup hl (ds := [.bool true, .int 0]) (ps_cons mo_qh hq_bl (ps_cons mo_qh hq_int ps_nil))) ps_nil)
  have a7 : EvP (tLst (tCons (tC .non) tNil)) σ H (Qh l (.list [.none])) := hq_lst hl (ds := [.none]) (ps_cons mo_qh hq_non ps_nil)
  exact hq_lst hl (ds := r3 d1) (ps_cons mo_qh hq_non (ps_cons mo_qh a1 (ps_cons mo_qh a2 (ps_cons mo_qh a3 (ps_cons mo_qh a4 (ps_cons mo_qh a5 (ps_cons mo_qh a6 (ps_cons mo_qh a7 ps_nil))))))))
end
theorem cat_val {K : PySem.W.Frag} {H : Hp} {x y : V} {as bs : List PyData} {Q : VK} (p1 : Dq H x (.list as)) (p2 : Dq H y (.list bs)) (hz : as.length + bs.length ≤ 100000) (q : ∀ z H', Ex H H' → Dq H' z (.list (as ++ bs)) → Q z H') : rCat x y H Q := by
  cases p1 with
  | @lst a1 xs _ z1 hl1 d1 =>
    cases p2 with
    | @lst a2 ys _ z2 hl2 d2 =>
      have ln : (xs ++ ys).length = as.length + bs.length := by rw [List.length_append, dqAll_len d1, dqAll_len d2]
      exact ⟨a1, a2, xs, ys, rfl, rfl, hl1, hl2, by rw [dqAll_len d1, dqAll_len d2]; exact sz_of hz, fun p hp => q (.ref p) _ (Ex.new hp) (.lst (by rw [ln]; exact hz) upd_same (dqAll_up (Ex.new hp) (dqAll_app d1 d2)))⟩
theorem cut_set {ds : List PyData} (h : ds.length = 5) {i : Nat} (hi : i < 5) (o : PyData) : cutA ds none (some (i : Int)) ++ [o] ++ cutA ds (some ((i : Int) + 1)) none = ds.set i o := by
  match ds, h with
  | [a, b, c, d, e], _ =>
    have : i = 0 ∨ i = 1 ∨ i = 2 ∨ i = 3 ∨ i = 4 := by omega
    rcases this with rfl | rfl | rfl | rfl | rfl <;> rfl
theorem cut_len (ds : List PyData) (lo hi : Option Int) : (cutA ds lo hi).length ≤ ds.length := by
  unfold cutA
  rw [List.length_take, List.length_drop]
  omega
theorem q_asgRaw {σ : L2.St} {H : Hp} {D : Ends} {tz : TS} {tr : TA} {Ps : List PV} {i : Nat} (h : EvPs tr σ H Ps) (sz : Ps.length ≤ 100000) (k : ∀ xs H1, Ex H H1 → AllP Ps xs H1 → ∀ l, H1 l = none → tz D (σ.set i (some (.ref l))) (upd H1 l (.lst xs))) : tSeq (tAsg (tLst tr) (gName i)) tz D σ H :=
  h H (Ex.refl H) _ fun xs H1 e ps => ⟨by rw [ps.len]; exact sz_of sz, fun l hl => k xs H1 e ps l hl⟩
def spBent (K : PySem.W.Frag) : Sp := fun vs H Q _ => vs.length = 2 ∧ ∃ (x y : V) (ds : List PyData), vs = [x, y] ∧ PoolV K x H ∧ Dq H y (.list ds) ∧ ds.length = 5 ∧ ∀ z H', Ex H H' → (∃ (i : Nat) (o : PyData), i < 5 ∧ o ∈ oddAt (at_ ds 1) i ∧ Dq H' z (.list [.int (i : Int), .list (ds.set i o)])) → Q z H'
theorem scBent : FnScope ["pool", "parts", "odd", "at"] ["pool", "parts"] (defScope sBent) := ⟨rfl, rfl, rfl, by decide +kernel, rfl, by decide +kernel, by decide +kernel⟩
section
variable {P : Program} {w : World} {K : PySem.W.Frag} {mg : Str → Option Value} {base : Heap}
theorem ok_bent (D : Dn K mg "_law_bent" sBent) (UD : Use P w K mg base 1 "_law_draw" ["pool", "many"] (spDraw K)) (UP : Use P w K mg base 2 "_law_pick" ["pool", "some"] (spPick K)) : Use P w K mg base 3 "_law_bent" ["pool", "parts"] (spBent K) := by
  refine use_of D scBent (fun f fd F => F.binds (ps := ["pool", "parts"]) fun _ _ _ _ _ _ us hl => match us, hl with | [_, _], _ => rfl) (fun vs H Q E h => h.1) (fun f cdv A outer s H vs Q E hr h => ?_)
  obtain ⟨_, x, y, ds, rfl, hp, hy, h5, q⟩ := h
  refine ⟨_, pss_cons (ps_set (i := 2) scBent.nd rfl (Or.inl rfl) (pe_lst (pa_cons (pe_lst (pa_cons pe_str (pa_cons pe_str (pa_cons pe_non (pa_cons pe_int (pa_cons (pe_lst (pa_cons pe_str pa_nil)) pa_nil)))))) (pa_cons (pe_lst (pa_cons pe_int (pa_cons pe_int (pa_cons pe_bl (pa_cons pe_non (pa_cons pe_str pa_nil))))))
      (pa_cons (pe_lst (pa_cons (pe_un un_neg pe_int) (pa_cons (pe_ix ix_list (pv 1) pe_int (fun _ _ => rfl)) (pa_cons pe_bl (pa_cons pe_non (pa_cons pe_str pa_nil)))))) pa_nil)))))
    (pss_cons (ps_expr (pe_bm PySem.F.plainAttrs_list PySem.F.slot_list_append PySem.F.type_list_append mt_append (pv 2) (pa_cons (pe_lst (pa_cons pe_non (pa_cons (pe_tup (pa_cons (pe_tup (pa_cons pe_int (pa_cons pe_int pa_nil))) pa_nil)) (pa_cons (pe_lst (pa_cons (pe_tup (pa_cons pe_int (pa_cons pe_int pa_nil))) pa_nil))
      (pa_cons (pe_lst (pa_cons (pe_tup (pa_cons pe_int (pa_cons (pe_ix ix_list (pv 1) pe_int (fun _ _ => rfl)) pa_nil))) pa_nil)) (pa_cons (pe_lst (pa_cons (pe_lst (pa_cons pe_int (pa_cons pe_int pa_nil))) pa_nil)) (pa_cons (pe_lst (pa_cons (pe_tup (pa_cons pe_int (pa_cons pe_int (pa_cons pe_int pa_nil)))) pa_nil))
      (pa_cons (pe_lst (pa_cons (pe_tup (pa_cons pe_bl (pa_cons pe_int pa_nil))) pa_nil)) (pa_cons (pe_lst (pa_cons pe_non pa_nil)) pa_nil))))))))) pa_nil)))
    (pss_cons (ps_expr (pe_bm PySem.F.plainAttrs_list PySem.F.slot_list_append PySem.F.type_list_append mt_append (pv 2) (pa_cons (pe_lst (pa_cons pe_str (pa_cons pe_str (pa_cons pe_non (pa_cons pe_int (pa_cons pe_str pa_nil)))))) pa_nil)))
    (pss_cons (ps_set (i := 3) scBent.nd rfl (Or.inl rfl) (pe_use UD hr (by decide) (by rfl) (pa_cons (pv 0) (pa_cons pe_int pa_nil))))
    (pss_one (ps_ret (pe_lst (pa_cons (pv 3) (pa_cons (pe_op op_cat (pe_op op_cat (pe_slice sl_list (pv 1) po_none (po_some (pv 3))) (pe_lst (pa_cons (pe_use UP hr (by decide) (by rfl) (pa_cons (pv 0) (pa_cons (pe_ix ix_list (pv 2) (pv 3) (fun _ _ => rfl)) pa_nil))) pa_nil)))
      (pe_slice sl_list (pv 1) (po_some (pe_op op_add (pv 3) pe_int)) po_none)) pa_nil)))))))), ?_⟩
  have hy0 := hy
  cases hy with
  | @lst a ys _ yz ya yd =>
    have l1 : ds[1]? = some (at_ ds 1) := by
      unfold at_
      rw [List.getD_eq_getElem?_getD, List.getElem?_eq_getElem (by omega : 1 < ds.length)]
      rfl
    obtain ⟨v1, hv1, dv1⟩ := dqAll_get yd l1
    generalize at_ ds 1 = d1 at q l1 dv1
    have part : ∀ {σ : L2.St} {Hc : Hp}, Ex H Hc → σ[1]? = some (some (.ref a)) → Ev (tOp (rIxL K) (tVar 1) (tC (.int 1))) σ Hc v1 := fun e h => ev_op (ev_var h) ev_c (rv_ixL (sq_of (e _ _ ya)) (Chk.atI_nat (i := 1) hv1))
    have under : ∀ {l : Addr} {Hc : Hp}, H l = none → Ex H Hc → Ex H (hide l Hc) := fun {l Hc} n e b o h => by
      unfold hide
      rw [if_neg (fun z => by rw [z, n] at h; cases h)]
      exact e b o h
    refine q_asgRaw (Ps := [Qe (.list r0), Qe (.list r1), Qe (.list (r2 d1))]) ?rows (show 3 ≤ 100000 by decide) fun xs H1 e1 ps l hl => ?_
    case rows => exact ps_cons mo_qe e_r0 (ps_cons mo_qe e_r1 (ps_cons mo_qe (e_r2 (EvP.of (part (Ex.refl H) rfl) mo_qe dv1)) ps_nil))
    have xd : DqAll H1 xs [.list r0, .list r1, .list (r2 d1)] := allP_qe (ds := [.list r0, .list r1, .list (r2 d1)]) ps
    have n0 : H l = none := fresh_back e1 hl
    have xl : xs.length = 3 := ps.len
    clear ps
    have c2 : Ex H (upd H1 l (.lst xs)) := e1.mut n0
    refine q_appQ (K := K) (d := .list (r3 d1)) upd_same (ev_var rfl) ?row3 (by omega) fun v3 H2 e2 dv3 => ?_
    case row3 => exact e_r3 upd_same (EvP.of (part c2 rfl) mo_qh (dq_up (under n0 c2) dv1))
    have c3 : Ex H (upd H2 l (.lst (xs ++ [v3]))) := (c2.trans e2).mut n0
    refine q_appQ (K := K) (d := .list r4) upd_same (ev_var rfl) ?row4 (by rw [List.length_append, xl]; exact (by decide : 3 + 1 < 100000)) fun v4 H3 e3 dv4 => ?_
    case row4 => exact e_r4 upd_same
    have c4 : Ex H (upd H3 l (.lst (xs ++ [v3] ++ [v4]))) := (c3.trans e3).mut n0
    have odd : Dq (upd H3 l (.lst (xs ++ [v3] ++ [v4]))) (.ref l) (.list ((odds d1).map PyData.list)) := by
      have k1 : Ex H1 (upd H3 l (.lst (xs ++ [v3] ++ [v4]))) := fun b o h => by
        have nb : b ≠ l := ne_of_none h hl
        rw [upd_ne nb]
        exact e3 _ _ (by rw [upd_ne nb]; exact e2 _ _ (by rw [upd_ne nb]; exact h))
      have k3 : Ex (hide l H2) (upd H3 l (.lst (xs ++ [v3] ++ [v4]))) := fun b o h => by
        unfold hide at h
        split at h
        · cases h
        · rename_i nb
          rw [upd_ne nb]
          exact e3 _ _ (by rw [upd_ne nb]; exact h)
      rw [odds_eq]
      exact .lst (by rw [List.length_append, List.length_append, xl]; exact (by decide : 3 + 1 + 1 ≤ 100000)) upd_same (dqAll_app (dqAll_app (dqAll_up k1 xd) (.cons (dq_up k3 dv3) .nil)) (.cons (dq_up hide_upd dv4) .nil))
    generalize upd H3 l (.lst (xs ++ [v3] ++ [v4])) = H4 at c4 odd ⊢
    refine d_asg (P := RgV 0 5) (p_draw (p_var rfl mo_pool (mo_pool _ _ _ c4 hp)) ev_c (by decide)) fun z H5 e5 ⟨n, hz, n0', n5⟩ => ?_
    subst hz
    obtain ⟨i, rfl⟩ : ∃ i : Nat, n = (i : Int) := ⟨n.toNat, by omega⟩
    have i5 : i < 5 := by omega
    have c5 := c4.trans e5
    have hyr : ∀ {σ : L2.St} {Hc : Hp}, Ex H Hc → σ[1]? = some (some (.ref a)) → EvP (tVar 1) σ Hc (Qe (.list ds)) := fun e h => q_var h (dq_up e hy0)
    have vi : ∀ {Hc : Hp}, Ev (tVar 3) (((L2.start ["pool", "parts", "odd", "at"] [x, .ref a]).set 2 (some (.ref l))).set 3 (some (.int (i : Int)))) Hc (.int (i : Int)) := ev_var rfl
    have row : EvP (tOp (rIxL K) (tVar 2) (tVar 3)) (((L2.start ["pool", "parts", "odd", "at"] [x, .ref a]).set 2 (some (.ref l))).set 3 (some (.int (i : Int)))) H5 (Qe (.list (oddAt d1 i))) := by
      refine p_ixQ (i := i) (q_var rfl (dq_up e5 odd)) vi ?_
      unfold oddAt
      rw [List.getElem?_map, List.getD_eq_getElem?_getD]
      have : i < (odds d1).length := i5
      rw [List.getElem?_eq_getElem this]
      rfl
    have ne : oddAt d1 i ≠ [] := by
      have : i = 0 ∨ i = 1 ∨ i = 2 ∨ i = 3 ∨ i = 4 := by omega
      rcases this with rfl | rfl | rfl | rfl | rfl <;> exact fun z => nomatch z
    have pick : EvP (tLst (tCons (tCall (spPick K) [] (fun _ _ _ => False) (tCons (tVar 0) (tCons (tOp (rIxL K) (tVar 2) (tVar 3)) tNil))) tNil)) (((L2.start ["pool", "parts", "odd", "at"] [x, .ref a]).set 2 (some (.ref l))).set 3 (some (.int (i : Int)))) H5 (fun z Hc => ∃ o ∈ oddAt d1 i, Dq Hc z (.list [o])) := fun H6 e6 Q' q' =>
      p_pick (p_var rfl mo_pool (mo_pool _ _ _ c5 hp)) row ne H6 e6 _ fun v H7 e7 ⟨o, ho, dv⟩ => ⟨show 1 ≤ sizeLine by decide, fun p hp => q' (.ref p) _ (e7.trans (Ex.new hp)) ⟨o, ho, .lst (xs := [v]) (show [v].length ≤ 100000 from (by decide : 1 ≤ 100000)) upd_same (.cons (dq_up (Ex.new hp) dv) .nil)⟩⟩
    have mone : Mo (fun z Hc => ∃ o ∈ oddAt d1 i, Dq Hc z (.list (cutA ds none (some (i : Int)) ++ [o]))) := fun _ _ _ e ⟨o, h1, h2⟩ => ⟨o, h1, dq_up e h2⟩
    have cl := cut_len ds none (some (i : Int))
    have cr := cut_len ds (some ((i : Int) + 1)) none
    have left := p_op (r := rCat) mo_qe (p_slQ (K := K) (hyr c5 (σ := ((L2.start ["pool", "parts", "odd", "at"] [x, .ref a]).set 2 (some (.ref l))).set 3 (some (.int (i : Int)))) rfl) eo_none (eo_some vi)) pick (P := fun z Hc => ∃ o ∈ oddAt d1 i, Dq Hc z (.list (cutA ds none (some (i : Int)) ++ [o])))
      fun u v H6 e6 p1 ⟨o, ho, p2⟩ Q' q' => cat_val (K := K) p1 p2 (by show _ + 1 ≤ _; omega) fun z H7 e7 hz => q' z H7 e7 ⟨o, ho, hz⟩
    have all := p_op (r := rCat) mone left (p_slQ (K := K) (hyr c5 (σ := ((L2.start ["pool", "parts", "odd", "at"] [x, .ref a]).set 2 (some (.ref l))).set 3 (some (.int (i : Int)))) rfl) (eo_some (ev_op vi (ev_c (v := .int 1)) (rv_I0 (g := fun i j => V.int (i + j))))) eo_none) (P := fun z Hc => ∃ o ∈ oddAt d1 i, Dq Hc z (.list (ds.set i o)))
      fun u v H6 e6 ⟨o, ho, p1⟩ p2 Q' q' => cat_val (K := K) p1 p2 (by rw [List.length_append]; show _ + 1 + _ ≤ _; omega) fun z H7 e7 hz => q' z H7 e7 ⟨o, ho, by rw [cut_set h5 i5] at hz; exact hz⟩
    refine s_retP (P := fun z Hc => ∃ (i : Nat) (o : PyData), i < 5 ∧ o ∈ oddAt d1 i ∧ Dq Hc z (.list [.int (i : Int), .list (ds.set i o)])) ?last fun z H6 e6 p => q z H6 (c5.trans e6) p
    case last =>
      exact fun H6 e6 Q' q' => ⟨_, rfl, all H6 e6 _ fun v H7 e7 ⟨o, ho, dv⟩ => ⟨show 2 ≤ sizeLine by decide, fun p hp => q' (.ref p) _ (e7.trans (Ex.new hp)) ⟨i, o, i5, ho, .lst (xs := [.int (i : Int), v]) (show 2 ≤ 100000 by decide) upd_same (.cons (.int _) (.cons (dq_up (Ex.new hp) dv) .nil))⟩⟩⟩
end
end Lw
set_option maxHeartbeats 1000000
namespace Lw
open PySem PySem.Spec PyProof.Rows L2 Evl Pd Gd Us Chk
abbrev sUnlike : Stmt := top 38
abbrev nU : List Str := ["made", "parts", "kind", "held", "other", "less", "first", "second", "third", "fourth", "fifth", "change", "one"]
theorem scUnl : FnScope nU ["made", "parts"] (defScope sUnlike) := ⟨rfl, rfl, rfl, by decide +kernel, rfl, by decide +kernel, by decide +kernel⟩
theorem allP_at : ∀ {Ps : List PV} {xs : List V} {H : Hp} {i : Nat} {x : V}, AllP Ps xs H → xs[i]? = some x → ∃ P ∈ Ps, P x H
  | [], [], _, _, _, _, e => by simp at e
  | [], _ :: _, _, _, _, h, _ => h.elim
  | _ :: _, [], _, _, _, h, _ => h.elim
  | P :: Ps, x :: xs, H, 0, y, h, e => by
    cases (show some x = some y from e)
    exact ⟨P, List.mem_cons_self, h.1⟩
  | P :: Ps, x :: xs, H, i + 1, y, h, e => by
    obtain ⟨R, h1, h2⟩ := allP_at h.2 (show xs[i]? = some y from e)
    exact ⟨R, List.mem_cons_of_mem _ h1, h2⟩
section
variable {K : PySem.W.Frag} {σ : L2.St} {H : Hp} {tl te : TE} {tt : TT} {j : Nat} {vs : List Nat}
/-- [.. for x in xs if ..] where no x passes -/
theorem p_lcNone {Ps : List PV} (hm : ∀ P ∈ Ps, Mo P) (h : EvP tl σ H (Lst Ps)) (hw : ∀ x, wipe ((wipe σ vs).set j (some x)) vs = wipe σ vs)
    (ht : ∀ P ∈ Ps, ∀ x H1, Ex H H1 → P x H1 → EvT tt ((wipe σ vs).set j (some x)) H1 false) : EvP (tLc (iList K tl) (gName j) tt te vs) σ H (LstV []) := fun H1 e Q q =>
  h H1 e _ fun x H2 e2 ⟨l, xs, ex, hl, ps⟩ => by
    subst ex
    refine ⟨l, rfl, ⟨xs, sq_of hl⟩, fun D hn => ?_⟩
    refine lc_list (xs := xs) (fun i H3 => Ex H2 H3 ∧ H3 D = some (.lst [])) ⟨Ex.new hn, upd_same⟩ (fun i H3 _ p => sq_of (p.1 _ _ hl)) (fun i x H3 hx p => ?_) fun H3 p => q (.ref D) H3 (e2.trans p.1) ⟨D, rfl, p.2⟩
    obtain ⟨e3, hD⟩ := p
    obtain ⟨P, hP, px⟩ := allP_at ps hx
    refine ⟨hw x, ht P hP x H3 (e.trans (e2.trans e3)) (hm P hP _ _ _ e3 px) H3 (Ex.refl _) _ fun H4 e4 => ?_⟩
    simp only [Bool.false_eq_true, if_false]
    exact ⟨e3.trans e4, e4 _ _ hD⟩
/-- [x for x in xs if f(x)] of data, xs made on the way -/
theorem p_lcF {ds : List PyData} (f : PyData → Bool) (h : EvP tl σ H (Qe (.list ds))) (hw : ∀ x, wipe ((wipe σ vs).set j (some x)) vs = wipe σ vs) (hv : ∀ x, ((wipe σ vs).set j (some x))[j]? = some (some x))
    (ht : ∀ d ∈ ds, ∀ x H1, Ex H H1 → Dq H1 x d → EvT tt ((wipe σ vs).set j (some x)) H1 (f d)) : EvP (tLc (iList K tl) (gName j) tt (tVar j) vs) σ H (Qe (.list (ds.filter f))) := fun H1 e Q q =>
  h H1 e _ fun x H2 e2 p => by
    cases p with
    | @lst l xs _ hz hl hD =>
      have ln := dqAll_len hD
      refine ⟨l, rfl, ⟨xs, sq_of hl⟩, fun D hn => ?_⟩
      refine lc_list (xs := xs) (fun i H3 => Ex H2 H3 ∧ ∃ ys, H3 D = some (.lst ys) ∧ DqAll H2 ys ((ds.take i).filter f) ∧ ys.length ≤ i) ⟨Ex.new hn, [], upd_same, .nil, Nat.le_refl _⟩ (fun i H3 _ p => sq_of (p.1 _ _ hl)) (fun i x H3 hx p => ?_) fun H3 p => ?_
      · obtain ⟨e3, ys, hy, hd, hl2⟩ := p
        obtain ⟨d, hd1, hd2⟩ := dqAll_at hD hx
        have il : i < xs.length := (List.getElem?_eq_some_iff.mp hx).1
        have grow : ds.take (i + 1) = ds.take i ++ [d] := by
          have k1 := (List.getElem?_eq_some_iff.mp hd1).1
          have k2 := (List.getElem?_eq_some_iff.mp hd1).2
          rw [← List.take_append_getElem k1, k2]
        refine ⟨hw x, ht d (List.mem_of_getElem? hd1) x H3 (e.trans (e2.trans e3)) (dq_up e3 hd2) H3 (Ex.refl _) _ fun H4 e4 => ?_⟩
        cases hf : f d with
        | true =>
          simp only [if_true]
          refine ⟨x, hv x, ys, e4 _ _ hy, sz_lt (by omega), (e3.trans e4).mut hn, ys ++ [x], upd_same, ?_, by simp; omega⟩
          rw [grow, List.filter_append, List.filter_cons_of_pos hf]
          exact dqAll_app hd (.cons hd2 .nil)
        | false =>
          simp only [Bool.false_eq_true, if_false]
          refine ⟨e3.trans e4, ys, e4 _ _ hy, ?_, by omega⟩
          rw [grow, List.filter_append, List.filter_cons_of_neg (by rw [hf]; decide), List.filter_nil, List.append_nil]
          exact hd
      · obtain ⟨e3, ys, hy, hd, hl2⟩ := p
        rw [ln, List.take_length] at hd
        exact q (.ref D) H3 (e2.trans e3) (.lst (by omega) hy (dqAll_up e3 hd))
theorem q_evS {te : TE} {s : Str} (h : EvP te σ H (Qe (.str s))) : Ev te σ H (.str s) := (h.imp (P' := Is (.str s)) fun x _ _ p => by cases p; rfl).ev
theorem q_evI {te : TE} {i : Int} (h : EvP te σ H (Qe (.int i))) : Ev te σ H (.int i) := (h.imp (P' := Is (.int i)) fun x _ _ p => by cases p; rfl).ev
theorem ev_qS {te : TE} {s : Str} (h : Ev te σ H (.str s)) : EvP te σ H (Qe (.str s)) := .of h mo_qe (.str s)
theorem ev_qI {te : TE} {i : Int} (h : Ev te σ H (.int i)) : EvP te σ H (Qe (.int i)) := .of h mo_qe (.int i)
end
/-! facts of the five -/
def kindU (so : Str) : Str := if so = ("size" : Str) then "room" else "size"
def heldU (h : Str) : Str := if h = ("answered" : Str) then "sent" else "answered"
theorem kind_ne (so : Str) : kindU so ≠ so := by
  unfold kindU
  by_cases h : so = ("size" : Str)
  · rw [if_pos h, h]; decide
  · rw [if_neg h]; exact fun z => h z.symm
theorem held_ne (h : Str) : heldU h ≠ h := by
  unfold heldU
  by_cases e : h = ("answered" : Str)
  · rw [if_pos e, e]; decide
  · rw [if_neg e]; exact fun z => e z.symm
theorem kind_in (so : Str) : kindU so ∈ sorts := by
  unfold kindU
  split <;> decide
theorem hold_kind {so h : Str} (hh : h ∈ holdsOf so) : h ∈ holdsOf (kindU so) := by
  have e : holdsOf (kindU so) = (["sent", "answered", "open"] : List Str) := by
    unfold kindU
    split <;> rfl
  rw [e]
  unfold holdsOf at hh
  split at hh
  · simp only [List.mem_cons, List.not_mem_nil, or_false] at hh ⊢
    rcases hh with rfl | rfl | rfl <;> simp
  · exact hh
theorem held_in (so h : Str) : heldU h ∈ holdsOf so := by
  unfold heldU holdsOf
  split <;> split <;> decide
structure Dr (so : Str) (n k : Int) (cs : List (Int × Int)) (h : Str) : Prop where
  srt : so ∈ sorts
  two : n = 2 ∨ n = 3
  k0 : 0 ≤ k
  k1 : k < n
  sub : cs.Sublist (bN n)
  ho : h ∈ holdsOf so
section
variable {so h : Str} {n k : Int} {cs : List (Int × Int)}
theorem len_bN (n : Int) : (bN n).length ≤ 6 := by unfold bN; split <;> decide
theorem Dr.len (D : Dr so n k cs h) : cs.length ≤ 6 := Nat.le_trans D.sub.length_le (len_bN n)
theorem bt {lo hi i : Int} (h1 : lo ≤ i) (h2 : i ≤ hi) : betw lo hi (.int i) = true := by
  show (decide (lo ≤ i) && decide (i ≤ hi)) = true
  rw [decide_eq_true h1, decide_eq_true h2]; rfl
def u1 (so : Str) (n k : Int) (cs : List (Int × Int)) (h : Str) : Pts := ⟨.str (kindU so), .int n, .int k, .list (cs.map prP), .str h⟩
def u2 (so : Str) (n k : Int) (cs : List (Int × Int)) (h : Str) : Pts := ⟨.str so, .int (n + 1), .int k, .list (cs.map prP), .str h⟩
def u3 (so : Str) (n k : Int) (cs : List (Int × Int)) (h : Str) : Pts := ⟨.str so, .int n, .int ((k + 1) % n), .list (cs.map prP), .str h⟩
def u4 (so : Str) (n k : Int) (cs : List (Int × Int)) (h : Str) : Pts := ⟨.str so, .int n, .int k, .list (lessOf (cs.map prP)), .str h⟩
def u5 (so : Str) (n k : Int) (cs : List (Int × Int)) (h : Str) : Pts := ⟨.str so, .int n, .int k, .list (cs.map prP), .str (heldU h)⟩
theorem okc (D : Dr so n k cs h) : okChs n (.list (cs.map prP)) = true := ok_of_sub (fun c hc => D.sub.subset hc) (all_bN D.two).1
theorem w1 (D : Dr so n k cs h) : wrong (u1 so n k cs h) = none :=
  wrong_none (sorts_ok (kind_in so)) (bt (by have := D.two; omega) (by have := D.two; omega)) (bt D.k0 (by have := D.k1; show k ≤ n - 1; omega)) (okc D) (holds_ok (kind_in so) (hold_kind D.ho))
theorem w2 (D : Dr so n k cs h) : wrong (u2 so n k cs h) = none :=
  wrong_none (sorts_ok D.srt) (bt (by have := D.two; omega) (by have := D.two; omega)) (bt D.k0 (by have := D.k1; show k ≤ n + 1 - 1; omega)) (ok_of_sub (fun c hc => D.sub.subset hc) (all_bN D.two).2) (holds_ok D.srt D.ho)
theorem w3 (D : Dr so n k cs h) : wrong (u3 so n k cs h) = none :=
  wrong_none (sorts_ok D.srt) (bt (by have := D.two; omega) (by have := D.two; omega)) (bt (Int.emod_nonneg _ (by have := D.two; omega)) (by have := D.two; have := Int.emod_lt_of_pos (k + 1) (show 0 < n by omega); show (k + 1) % n ≤ n - 1; omega)) (okc D) (holds_ok D.srt D.ho)
theorem fac (D : Dr so n k cs h) : okChs n (.list (lessOf (chOf cs))) = true ∧ eqK (onceK (keysOf (.list (lessOf (chOf cs))))) (onceK (keysOf (.list (chOf cs)))) = false ∧ (lessOf (chOf cs)).length ≤ 100 := by
  have f := facts_of D.two D.sub
  unfold facts at f
  simp only [Bool.and_eq_true, Bool.not_eq_true', decide_eq_true_eq] at f
  exact ⟨f.2.1, f.2.2.1, f.2.2.2.2.2.2⟩
theorem w4 (D : Dr so n k cs h) : wrong (u4 so n k cs h) = none :=
  wrong_none (sorts_ok D.srt) (bt (by have := D.two; omega) (by have := D.two; omega)) (bt D.k0 (by have := D.k1; show k ≤ n - 1; omega)) (fac D).1 (holds_ok D.srt D.ho)
theorem w5 (D : Dr so n k cs h) : wrong (u5 so n k cs h) = none :=
  wrong_none (sorts_ok D.srt) (bt (by have := D.two; omega) (by have := D.two; omega)) (bt D.k0 (by have := D.k1; show k ≤ n - 1; omega)) (okc D) (holds_ok D.srt (held_in so h))
theorem n1 : eqS (settingOf (u1 so n k cs h)) (settingOf (drawn so n k cs h)) = false := by
  show (decide (kindU so = so) && _) = false
  rw [decide_eq_false (kind_ne so)]; rfl
theorem n2 : eqS (settingOf (u2 so n k cs h)) (settingOf (drawn so n k cs h)) = false := by
  show (_ && (decide (n + 1 = n) && _)) = false
  rw [decide_eq_false (show ¬ n + 1 = n by omega), Bool.false_and, Bool.and_false]
theorem n3 (D : Dr so n k cs h) : eqS (settingOf (u3 so n k cs h)) (settingOf (drawn so n k cs h)) = false := by
  show (_ && (_ && (decide ((k + 1) % n = k) && _))) = false
  have a := D.k0
  have b := D.k1
  rw [decide_eq_false (show ¬ (k + 1) % n = k by rcases D.two with rfl | rfl <;> omega), Bool.false_and, Bool.and_false, Bool.and_false]
theorem n4 (D : Dr so n k cs h) : eqS (settingOf (u4 so n k cs h)) (settingOf (drawn so n k cs h)) = false := by
  show (_ && (_ && (_ && (eqK (onceK (keysOf (.list (lessOf (chOf cs))))) (onceK (keysOf (.list (chOf cs)))) && _)))) = false
  rw [(fac D).2.1, Bool.false_and, Bool.and_false, Bool.and_false, Bool.and_false]
theorem n5 : eqS (settingOf (u5 so n k cs h)) (settingOf (drawn so n k cs h)) = false := by
  show (_ && (_ && (_ && (_ && decide (heldU h = h))))) = false
  rw [decide_eq_false (held_ne h), Bool.and_false, Bool.and_false, Bool.and_false, Bool.and_false]
end
end Lw
set_option maxHeartbeats 1000000
namespace Lw
open PySem PySem.Spec PyProof.Rows L2 Evl Pd Gd Us Chk
def ptsD (so : Str) (n k : Int) (cs : List (Int × Int)) (h : Str) : List PyData := [.str so, .int n, .int k, .list (cs.map prP), .str h]
def spUnl (C : Addr) : Sp := fun vs H Q _ => vs.length = 2 ∧ ∃ (x y : V) (so : Str) (n k : Int) (cs : List (Int × Int)) (h : Str), vs = [x, y] ∧ SetV C (settingOf (drawn so n k cs h)) x H ∧ Dq H y (.list (ptsD so n k cs h)) ∧ Dr so n k cs h ∧ ∀ H', Ex H H' → Q (.bl true) H'
section
variable {P : Program} {w : World} {K : PySem.W.Frag} {mg : Str → Option Value} {base : Heap} {C CB : Addr}
theorem ok_unl (D : Dn K mg "_law_unlike_by_each" sUnlike) (S : SetC P w K mg base C CB) (bi : mg "int" = none) : Use P w K mg base 9 "_law_unlike_by_each" ["made", "parts"] (spUnl C) := by
  refine use_of D scUnl (fun f fd F => F.binds (ps := ["made", "parts"]) fun _ _ _ _ _ _ us hl => match us, hl with | [_, _], _ => rfl) (fun vs H Q E h => h.1) (fun f cdv A outer s H vs Q E hr h => ?_)
  obtain ⟨_, x, y, so, n, k, cs, h, rfl, hx, hy, R, q⟩ := h
  have hu : (A.deeper (envOfC "_law_unlike_by_each" (defScope sUnlike) s.heap.objs.size f cdv)).units + 65 < cLine := by have := hr.un; omega
  have hu1 : (A.deeper (envOfC "_law_unlike_by_each" (defScope sUnlike) s.heap.objs.size f cdv)).units < cLine := by omega
  refine ⟨_, pss_cons (ps_set (i := 2) scUnl.nd rfl (Or.inl rfl) (pe_ifExp (pt_cmpR op_eq (pe_ix ix_list (pv 1) pe_int (fun _ _ => rfl)) pe_str (nomark _)) pe_str pe_str))
    (pss_cons (ps_set (i := 3) scUnl.nd rfl (Or.inl rfl) (pe_ifExp (pt_cmpR op_eq (pe_ix ix_list (pv 1) pe_int (fun _ _ => rfl)) pe_str (nomark _)) pe_str pe_str))
    (pss_cons (ps_setLc (i := 4) (own := [("change", 11)]) (g := gName 11) rfl scUnl.nd rfl rfl (sw_true rfl rfl rfl rfl) (pi_list (pe_lst (pa_cons (pe_tup (pa_cons pe_int (pa_cons pe_int pa_nil))) (pa_cons (pe_tup (pa_cons pe_int (pa_cons pe_int pa_nil))) pa_nil)))) (blkOk_by (N := nU) (sc := defScope sUnlike) (by decide +kernel))
      (fun _ _ _ _ _ => pg_name (i := 11) scUnl.nd rfl (Or.inl rfl)) (fun _ _ _ _ _ => pts_one (pt_cmpR (r := rNotInD K) (op_notInD hu) (pv 11) (pe_ix (r := rIxL K) ix_list (pv 1) pe_int (fun _ _ => rfl)) (by rfl))) (fun _ _ _ _ _ => pv 11))
    (pss_cons (ps_set (i := 5) scUnl.nd rfl (Or.inl rfl) (pe_ifExp (pt_cmpR (op_neNil hu1) (pv 4) (pe_lst pa_nil) (nomark _)) (pe_op op_cat (pe_ix ix_list (pv 1) pe_int (fun _ _ => rfl)) (pv 4)) (pe_slice sl_list (pe_ix ix_list (pv 1) pe_int (fun _ _ => rfl)) (po_some pe_int) po_none)))
    (pss_cons (ps_set (i := 6) scUnl.nd rfl (Or.inl rfl) (pe_setting (E := fun _ _ _ => False) S hr (by decide) (by rfl) (passes_call LamX.takes0 fun _ _ _ _ h => h) (pa_cons (pv 2) (pa_cons (pe_ix ix_list (pv 1) pe_int (fun _ _ => rfl)) (pa_cons (pe_ix ix_list (pv 1) pe_int (fun _ _ => rfl)) (pa_cons (pe_ix ix_list (pv 1) pe_int (fun _ _ => rfl)) (pa_cons (pe_ix ix_list (pv 1) pe_int (fun _ _ => rfl)) pa_nil)))))))
    (pss_cons (ps_set (i := 7) scUnl.nd rfl (Or.inl rfl) (pe_setting (E := fun _ _ _ => False) S hr (by decide) (by rfl) (passes_call LamX.takes0 fun _ _ _ _ h => h) (pa_cons (pe_ix ix_list (pv 1) pe_int (fun _ _ => rfl)) (pa_cons (pe_op op_add (pe_ix ix_list (pv 1) pe_int (fun _ _ => rfl)) pe_int) (pa_cons (pe_ix ix_list (pv 1) pe_int (fun _ _ => rfl)) (pa_cons (pe_ix ix_list (pv 1) pe_int (fun _ _ => rfl)) (pa_cons (pe_ix ix_list (pv 1) pe_int (fun _ _ => rfl)) pa_nil)))))))
    (pss_cons (ps_set (i := 8) scUnl.nd rfl (Or.inl rfl) (pe_setting (E := fun _ _ _ => False) S hr (by decide) (by rfl) (passes_call LamX.takes0 fun _ _ _ _ h => h) (pa_cons (pe_ix ix_list (pv 1) pe_int (fun _ _ => rfl)) (pa_cons (pe_ix ix_list (pv 1) pe_int (fun _ _ => rfl)) (pa_cons (pe_op op_mod (pe_callTy call_int1 (by rfl) bi PyProof.Rows.boot_int (pa_cons (pe_op op_add (pe_ix ix_list (pv 1) pe_int (fun _ _ => rfl)) pe_int) pa_nil)) (pe_ix ix_list (pv 1) pe_int (fun _ _ => rfl))) (pa_cons (pe_ix ix_list (pv 1) pe_int (fun _ _ => rfl)) (pa_cons (pe_ix ix_list (pv 1) pe_int (fun _ _ => rfl)) pa_nil)))))))
    (pss_cons (ps_set (i := 9) scUnl.nd rfl (Or.inl rfl) (pe_setting (E := fun _ _ _ => False) S hr (by decide) (by rfl) (passes_call LamX.takes0 fun _ _ _ _ h => h) (pa_cons (pe_ix ix_list (pv 1) pe_int (fun _ _ => rfl)) (pa_cons (pe_ix ix_list (pv 1) pe_int (fun _ _ => rfl)) (pa_cons (pe_ix ix_list (pv 1) pe_int (fun _ _ => rfl)) (pa_cons (pv 5) (pa_cons (pe_ix ix_list (pv 1) pe_int (fun _ _ => rfl)) pa_nil)))))))
    (pss_cons (ps_set (i := 10) scUnl.nd rfl (Or.inl rfl) (pe_setting (E := fun _ _ _ => False) S hr (by decide) (by rfl) (passes_call LamX.takes0 fun _ _ _ _ h => h) (pa_cons (pe_ix ix_list (pv 1) pe_int (fun _ _ => rfl)) (pa_cons (pe_ix ix_list (pv 1) pe_int (fun _ _ => rfl)) (pa_cons (pe_ix ix_list (pv 1) pe_int (fun _ _ => rfl)) (pa_cons (pe_ix ix_list (pv 1) pe_int (fun _ _ => rfl)) (pa_cons (pv 3) pa_nil)))))))
    (pss_one (ps_ret (pe_cmpR (op_eqLs hu1) (pe_lc (own := [("one", 12)]) (g := gName 12) rfl scUnl.nd (pi_list (pe_lst (pa_cons (pv 6) (pa_cons (pv 7) (pa_cons (pv 8) (pa_cons (pv 9) (pa_cons (pv 10) pa_nil))))))) (blkOk_by (N := nU) (sc := defScope sUnlike) (by decide +kernel))
      (fun _ _ _ _ _ => pg_name (i := 12) scUnl.nd rfl (Or.inl rfl)) (fun _ _ _ _ _ => pts_one (PW.pt (pw_or (pt_cmpR (op_eqSet S hr (by decide)) (pv 12) (pv 0) (nomark _)) (pw_or1 (pt_not (pt_cmpR (op_neSet S hr (by decide)) (pv 12) (pv 0) (nomark _))))))) (fun _ _ _ _ _ => pv 12)) (pe_lst pa_nil) (nomark _)))))))))))), ?_⟩
  have hl := R.len
  have it : ∀ {σ : L2.St} {H1 : Hp} {i : Nat} {d : PyData}, Ex H H1 → σ[1]? = some (some y) → (ptsD so n k cs h)[i]? = some d → EvP (tOp (rIxL K) (tVar 1) (tC (.int (i : Int)))) σ H1 (Qe d) := fun e h1 hd => p_ixQ (q_var h1 (dq_up e hy)) ev_c hd
  have i0 : ∀ {σ : L2.St} {H1 : Hp}, Ex H H1 → σ[1]? = some (some y) → EvP (tOp (rIxL K) (tVar 1) (tC (.int 0))) σ H1 (Qe (.str so)) := fun e h1 => it (i := 0) e h1 rfl
  have i1 : ∀ {σ : L2.St} {H1 : Hp}, Ex H H1 → σ[1]? = some (some y) → EvP (tOp (rIxL K) (tVar 1) (tC (.int 1))) σ H1 (Qe (.int n)) := fun e h1 => it (i := 1) e h1 rfl
  have i2 : ∀ {σ : L2.St} {H1 : Hp}, Ex H H1 → σ[1]? = some (some y) → EvP (tOp (rIxL K) (tVar 1) (tC (.int 2))) σ H1 (Qe (.int k)) := fun e h1 => it (i := 2) e h1 rfl
  have i3 : ∀ {σ : L2.St} {H1 : Hp}, Ex H H1 → σ[1]? = some (some y) → EvP (tOp (rIxL K) (tVar 1) (tC (.int 3))) σ H1 (Qe (.list (cs.map prP))) := fun e h1 => it (i := 3) e h1 rfl
  have i4 : ∀ {σ : L2.St} {H1 : Hp}, Ex H H1 → σ[1]? = some (some y) → EvP (tOp (rIxL K) (tVar 1) (tC (.int 4))) σ H1 (Qe (.str h)) := fun e h1 => it (i := 4) e h1 rfl
  have sc : Short (.list (cs.map prP)) := fun ds e => by cases e; rw [List.length_map]; omega
  refine q_asg (v := .str (kindU so)) (ev_if (b := decide (V.str so = .str "size")) (et_test (ev_op (q_evS (i0 (Ex.refl H) rfl)) ev_c (rv_eq rfl))) (fun c => ?_) fun c => ?_) fun H1 e1 => ?_
  · have : so = ("size" : Str) := by simpa using c
    unfold kindU
    rw [if_pos this]
    exact ev_c
  · have : so ≠ ("size" : Str) := by simpa using c
    unfold kindU
    rw [if_neg this]
    exact ev_c
  refine q_asg (v := .str (heldU h)) (ev_if (b := decide (V.str h = .str "answered")) (et_test (ev_op (q_evS (i4 e1 rfl)) ev_c (rv_eq rfl))) (fun c => ?_) fun c => ?_) fun H2 e2 => ?_
  · have : h = ("answered" : Str) := by simpa using c
    unfold heldU
    rw [if_pos this]
    exact ev_c
  · have : h ≠ ("answered" : Str) := by simpa using c
    unfold heldU
    rw [if_neg this]
    exact ev_c
  have g2 := e1.trans e2
  refine d_asg (P := Qe (.list (otherOf (cs.map prP)))) ?other fun z H3 e3 hz => ?_
  case other =>
    refine p_lcF (ds := [pr 0 1, pr 1 0]) (fun c => !((cs.map prP).any fun z => PyData.eqv z c)) (q_lst (ds := [pr 0 1, pr 1 0]) (ps_cons mo_qe q_pr (ps_cons mo_qe q_pr ps_nil))) (fun _ => rfl) (fun _ => rfl) fun d hd x H4 e4 dx => ?_
    refine et_test (ev_ninD (toDe (q_var rfl dx)) (toDe (i3 (g2.trans e4) rfl)) ?_ (just_drawn (so := so) (h := h) (k := k) R.two R.sub).sh)
    rcases List.mem_cons.mp hd with rfl | hd
    · rfl
    · rcases List.mem_cons.mp hd with rfl | hd
      · rfl
      · cases hd
  have g3 := g2.trans e3
  have ol : (otherOf (cs.map prP)).length ≤ 2 := List.length_filter_le _ _
  refine d_asg (P := Qe (.list (lessOf (cs.map prP)))) ?less fun z2 H4 e4 hz2 => ?_
  case less =>
    cases hz with
    | @lst a xs _ zz hl2 hd2 =>
      have le := dqAll_len hd2
      have hb : (!xs.isEmpty) = !(otherOf (cs.map prP)).isEmpty := by
        cases xs <;> cases hq : otherOf (cs.map prP) <;> rw [hq] at le <;> first | rfl | (simp at le)
      refine p_ife (b := !xs.isEmpty) (et_test fun H5 e Q q => ⟨_, rfl, show 0 ≤ sizeLine from Nat.zero_le _, fun p hp => ⟨a, p, xs, rfl, rfl, ex_l (e.trans (Ex.new hp)) (sq_of hl2), sq_of upd_same, fun v hv => ?_, q _ (Ex.new hp)⟩⟩) (fun c => ?_) fun c => ?_
      · obtain ⟨i, hi⟩ := List.getElem?_of_mem hv
        obtain ⟨d, hd3, hd4⟩ := dqAll_at hd2 hi
        have : d ∈ [pr 0 1, pr 1 0] := (List.mem_filter.mp (List.mem_of_getElem? hd3)).1
        rcases List.mem_cons.mp this with rfl | hd
        · cases hd4; exact .inr ⟨_, rfl⟩
        · rcases List.mem_cons.mp hd with rfl | hd
          · cases hd4; exact .inr ⟨_, rfl⟩
          · cases hd
      · rw [hb] at c
        have e : lessOf (cs.map prP) = cs.map prP ++ otherOf (cs.map prP) := by
          unfold lessOf
          rw [if_neg (by simpa using c)]
        rw [e]
        exact q_cat (i3 g3 rfl) (q_var rfl (.lst zz hl2 hd2)) (by rw [List.length_map]; omega)
      · rw [hb] at c
        have e : lessOf (cs.map prP) = cutA (cs.map prP) (some 1) none := by
          unfold lessOf
          rw [if_pos (by simpa using c)]
        rw [e]
        exact p_slQ (K := K) (i3 g3 rfl) (eo_some (ev_c (v := .int 1))) eo_none
  have g4 := g3.trans e4
  refine d_asg (P := SetV C (settingOf (u1 so n k cs h))) (p_make (p := u1 so n k cs h) ?a1 sc (w1 R)) fun s1 H5 e5 hs1 => ?_
  case a1 => exact ps_cons mo_qe (ev_qS (ev_var rfl)) (ps_cons mo_qe (i1 g4 rfl) (ps_cons mo_qe (i2 g4 rfl) (ps_cons mo_qe (i3 g4 rfl) (ps_cons mo_qe (i4 g4 rfl) ps_nil))))
  have g5 := g4.trans e5
  refine d_asg (P := SetV C (settingOf (u2 so n k cs h))) (p_make (p := u2 so n k cs h) ?a2 sc (w2 R)) fun s2 H6 e6 hs2 => ?_
  case a2 => exact ps_cons mo_qe (i0 g5 rfl) (ps_cons mo_qe (ev_qI (ev_op (q_evI (i1 g5 rfl)) ev_c rv_I0)) (ps_cons mo_qe (i2 g5 rfl) (ps_cons mo_qe (i3 g5 rfl) (ps_cons mo_qe (i4 g5 rfl) ps_nil))))
  have g6 := g5.trans e6
  have np : 0 < n := by have := R.two; omega
  refine d_asg (P := SetV C (settingOf (u3 so n k cs h))) (p_make (p := u3 so n k cs h) ?a3 sc (w3 R)) fun s3 H7 e7 hs3 => ?_
  case a3 => exact ps_cons mo_qe (i0 g6 rfl) (ps_cons mo_qe (i1 g6 rfl) (ps_cons mo_qe (ev_qI (ev_op (ev_int (ev_op (q_evI (i2 g6 rfl)) ev_c rv_I0)) (q_evI (i1 g6 rfl)) (rv_I np))) (ps_cons mo_qe (i3 g6 rfl) (ps_cons mo_qe (i4 g6 rfl) ps_nil))))
  have g7 := g6.trans e7
  have sl : Short (.list (lessOf (cs.map prP))) := fun ds e => by cases e; have := (fac R).2.2; exact Nat.le_trans this (by decide)
  refine d_asg (P := SetV C (settingOf (u4 so n k cs h))) (p_make (p := u4 so n k cs h) ?a4 sl (w4 R)) fun s4 H8 e8 hs4 => ?_
  case a4 => exact ps_cons mo_qe (i0 g7 rfl) (ps_cons mo_qe (i1 g7 rfl) (ps_cons mo_qe (i2 g7 rfl) (ps_cons mo_qe (q_var rfl (dq_up (e5.trans (e6.trans e7)) hz2)) (ps_cons mo_qe (i4 g7 rfl) ps_nil))))
  have g8 := g7.trans e8
  refine d_asg (P := SetV C (settingOf (u5 so n k cs h))) (p_make (p := u5 so n k cs h) ?a5 sc (w5 R)) fun s5 H9 e9 hs5 => ?_
  case a5 => exact ps_cons mo_qe (i0 g8 rfl) (ps_cons mo_qe (i1 g8 rfl) (ps_cons mo_qe (i2 g8 rfl) (ps_cons mo_qe (i3 g8 rfl) (ps_cons mo_qe (ev_qS (ev_var rfl)) ps_nil))))
  have g9 := g8.trans e9
  have hx9 : SetV C (settingOf (drawn so n k cs h)) x H9 := mo_set _ _ _ g9 hx
  have t1 := mo_set _ _ _ (e6.trans (e7.trans (e8.trans e9))) hs1
  have t2 := mo_set _ _ _ (e7.trans (e8.trans e9)) hs2
  have t3 := mo_set _ _ _ (e8.trans e9) hs3
  have t4 := mo_set _ _ _ e9 hs4
  refine s_ret (p_neLs (K := K) (vs := []) (b := true) (fun z hz => nomatch hz) ?none (p_lstV (vs := []) ps_nil)) fun H10 e10 => q H10 (g9.trans e10)
  case none =>
    refine p_lcNone (Ps := [SetV C (settingOf (u1 so n k cs h)), SetV C (settingOf (u2 so n k cs h)), SetV C (settingOf (u3 so n k cs h)), SetV C (settingOf (u4 so n k cs h)), SetV C (settingOf (u5 so n k cs h))]) ?mo5 ?five (fun _ => rfl) ?ht5
    case mo5 => exact mo_cons mo_set (mo_cons mo_set (mo_cons mo_set (mo_cons mo_set (mo_cons mo_set mo_nil))))
    case five => exact p_lst (mo_cons mo_set (mo_cons mo_set (mo_cons mo_set (mo_cons mo_set (mo_cons mo_set mo_nil))))) (ps_cons mo_set (p_var rfl mo_set t1) (ps_cons mo_set (p_var rfl mo_set t2) (ps_cons mo_set (p_var rfl mo_set t3) (ps_cons mo_set (p_var rfl mo_set t4) (ps_cons mo_set (p_var rfl mo_set hs5) ps_nil)))))
    case ht5 =>
      intro P hP v H10 e10 pv
      obtain ⟨g, rfl, ne⟩ : ∃ g, P = SetV C g ∧ eqS g (settingOf (drawn so n k cs h)) = false := by
        simp only [List.mem_cons, List.not_mem_nil, or_false] at hP
        rcases hP with rfl | rfl | rfl | rfl | rfl
        · exact ⟨_, rfl, n1⟩
        · exact ⟨_, rfl, n2⟩
        · exact ⟨_, rfl, n3 R⟩
        · exact ⟨_, rfl, n4 R⟩
        · exact ⟨_, rfl, n5⟩
      refine et_is (et_or (et_test (ev_own (neg := false) (p_var rfl mo_set pv) (p_var rfl mo_set (mo_set _ _ _ e10 hx9)))) fun _ => et_not (et_test (ev_own (neg := true) (p_var rfl mo_set pv) (p_var rfl mo_set (mo_set _ _ _ e10 hx9))))) ?_
      rw [ne]
      rfl
end
end Lw
set_option maxHeartbeats 1000000
/-! What an expression gives where the tables of code objects may grow. -/
namespace Lw
open PySem PySem.Spec PyProof.Rows L2 Evl Pd Gd Us Chk LamX LamK
def MoN (P : PV) : Prop := ∀ x H H', ExtN H H' → P x H → P x H'
theorem mon_is {v : V} : MoN (Is v) := fun _ _ _ _ h => h
theorem mon_qe {d : PyData} : MoN (Qe d) := fun _ _ _ e h => dq_ext e h
theorem mon_set {C : Addr} {g : Stg} : MoN (SetV C g) := fun _ _ _ e ⟨a, h, dx, d, fs, h1, h2, h3⟩ => ⟨a, h, dx, d, fs, e _ _ h1 fun _ z => (nomatch z), e _ _ h2 fun _ z => (nomatch z), h3⟩
theorem mon_pool {K : PySem.W.Frag} : MoN (PoolV K) := fun _ _ _ e ⟨p, a, h1, h2, ns, h3, h4, h5⟩ => ⟨p, a, h1, e _ _ h2 (fun _ z => by unfold poolO at z; cases z), ns, h3, h4, e _ _ h5 fun _ z => nomatch z⟩
theorem ext_sql {K : PySem.W.Frag} {H H' : Hp} {a : Addr} {xs : List V} (e : ExtN H H') (h : SqL K H a xs) : SqL K H' a xs := by
  rcases h with (h | ⟨o, h⟩) | h
  · exact .inl (.inl (e _ _ h fun _ z => nomatch z))
  · exact .inl (.inr ⟨o, e _ _ h fun _ z => nomatch z⟩)
  · exact .inr h
theorem nn {H H' : Hp} {p : Addr} (e : ExtN H H') (h : H' p = none) (t : ∀ ps, H p ≠ some (.tbl ps)) : H p = none := by
  cases h1 : H p with
  | none => rfl
  | some o =>
    have := e p o h1 fun ps z => t ps (by rw [h1, z])
    rw [h] at this
    cases this
def EN (T : TabT) (te : TE) (σ : L2.St) (H : Hp) (P : PV) : Prop := ∀ H1, ExtN H H1 → Tabs T H1 → ∀ Q : VK, (∀ x H2, ExtN H1 H2 → Tabs T H2 → P x H2 → Q x H2) → te σ H1 Q
def ENT (T : TabT) (tt : TT) (σ : L2.St) (H : Hp) (b : Bool) : Prop := ∀ H1, ExtN H H1 → Tabs T H1 → ∀ Q : Bool → Hp → Prop, (∀ H2, ExtN H1 H2 → Tabs T H2 → Q b H2) → tt σ H1 Q
section
variable {T : TabT} {σ : L2.St} {H : Hp} {te ta tb : TE} {P P1 P2 : PV} {K : PySem.W.Frag} {E : XK} {d e : PyData} {ds : List PyData} {t u : TT} {b c : Bool}
theorem n_of (h : ∀ H1, ExtN H H1 → EvP te σ H1 P) : EN T te σ H P := fun H1 e hT Q q => h H1 e H1 (Ex.refl _) Q fun x H2 e2 p => q x H2 (ExtN.of e2) (hT.ext e2) p
theorem n_ofE {v : V} (h : ∀ H1, ExtN H H1 → Ev te σ H1 v) : EN T te σ H (Is v) := n_of fun H1 e => .of (h H1 e) mo_is rfl
theorem nt_of (h : ∀ H1, ExtN H H1 → EvT t σ H1 b) : ENT T t σ H b := fun H1 e hT Q q => h H1 e H1 (Ex.refl _) Q fun H2 e2 => q H2 (ExtN.of e2) (hT.ext e2)
theorem nt_test (h : EN T te σ H (Is (.bl b))) : ENT T (tTest te) σ H b := fun H1 e hT Q q => h H1 e hT _ fun x H2 e2 t2 p => ⟨b, p, q H2 e2 t2⟩
theorem nt_and (h1 : ENT T t σ H b) (h2 : b = true → ENT T u σ H c) : ENT T (tAnd t u) σ H (b && c) := fun H1 e hT Q q => h1 H1 e hT _ fun H2 e2 t2 => by
  cases b with
  | true =>
    show u σ H2 Q
    exact h2 rfl H2 (e.trans e2) t2 Q fun H3 e3 t3 => q H3 (e2.trans e3) t3
  | false =>
    show Q false H2
    exact q H2 e2 t2
theorem n_ne (h1 : EN T ta σ H (Qe d)) (h2 : EN T tb σ H (Qe e)) (sd : SeqAt.shaped d = true) (se : SeqAt.shaped e = true) : EN T (tOp (rNeD K) ta tb) σ H (Is (.bl (!PyData.eqv d e))) := fun H1 a hT Q q =>
  h1 H1 a hT _ fun x H2 e2 t2 p1 => h2 H2 (a.trans e2) t2 _ fun y H3 e3 t3 p2 => ⟨d, e, dq_dp (dq_ext e3 p1), dq_dp p2, sd, se, q _ H3 (e2.trans e3) t3 rfl⟩
theorem n_eq (h1 : EN T ta σ H (Qe d)) (h2 : EN T tb σ H (Qe e)) (sd : SeqAt.shaped d = true) (se : SeqAt.shaped e = true) : EN T (tOp (rEqD K) ta tb) σ H (Is (.bl (PyData.eqv d e))) := fun H1 a hT Q q =>
  h1 H1 a hT _ fun x H2 e2 t2 p1 => h2 H2 (a.trans e2) t2 _ fun y H3 e3 t3 p2 => ⟨d, e, dq_dp (dq_ext e3 p1), dq_dp p2, sd, se, q _ H3 (e2.trans e3) t3 rfl⟩
theorem n_srt (h : EN T ta σ H (Qe (.list ds))) (hs : ∀ d ∈ ds, Showy d) : EN T (tCall (spSrt T) [] E (tCons ta tNil)) σ H (Qe (.list (sortD ds))) := fun H1 a hT Q q =>
  h H1 a hT _ fun x H2 e2 t2 p => ⟨rfl, x, ds, rfl, p, hs, t2, fun y H3 e3 t3 p2 => q y H3 (e2.trans e3) t3 p2⟩
theorem n_told {p : Pts} {s : Str} (h : EN T ta σ H (PtsV p)) (hs : Short p.changes) (hw : wrong p = some s) : EN T (tCall (spTold T) [] E (tCons ta tNil)) σ H (Qe (.list [.str "setting", .str s])) := fun H1 a hT Q q =>
  h H1 a hT _ fun x H2 e2 t2 px => ⟨rfl, x, p, s, rfl, px, hs, hw, t2, fun y H3 e3 t3 ⟨r, er, hr⟩ => q y H3 (e2.trans e3) t3 (by rw [er]; exact .lst (xs := [.str "setting", .str s]) (show 2 ≤ 100000 by decide) hr (.cons (.str _) (.cons (.str _) .nil)))⟩
/-! statements -/
variable {D : Ends} {tz tu tw : TS}
theorem n_when (h : ENT T t σ H false) (hT : Tabs T H) (k : ∀ H1, ExtN H H1 → Tabs T H1 → tz D σ H1) : tSeq (tIfS t tu tNext) tz D σ H := h H (ExtN.refl H) hT _ fun H1 e t1 => k H1 e t1
theorem n_whenE (h : ENT T t σ H false) (hT : Tabs T H) (k : ∀ H1, ExtN H H1 → Tabs T H1 → D.nx σ H1) : tIfS t tu tNext D σ H := h H (ExtN.refl H) hT _ fun H1 e t1 => k H1 e t1
theorem n_asg {i : Nat} (h : EN T te σ H P) (hT : Tabs T H) (k : ∀ x H1, ExtN H H1 → Tabs T H1 → P x H1 → tz D (σ.set i (some x)) H1) : tSeq (tAsg te (gName i)) tz D σ H := h H (ExtN.refl H) hT _ k
theorem n_ret (h : EN T te σ H P) (hT : Tabs T H) (k : ∀ x H1, ExtN H H1 → P x H1 → D.rt x H1) : tRet te D σ H := h H (ExtN.refl H) hT _ fun x H1 e _ p => k x H1 e p
end
/-! ### data of the law: shaped, equal to itself -/
theorem lay_prs : ∀ cs : List (Int × Int), PyData.canLayAll0 (cs.map prP) = true
  | [] => rfl
  | c :: cs => by
    show (PyData.canLay0 (prP c) && PyData.canLayAll0 (cs.map prP)) = true
    rw [lay_prs cs]
    rfl
theorem eqv_prs : ∀ cs : List (Int × Int), PyData.eqvAll (cs.map prP) (cs.map prP) = true
  | [] => rfl
  | c :: cs => by
    show (PyData.eqv (prP c) (prP c) && PyData.eqvAll (cs.map prP) (cs.map prP)) = true
    rw [eqv_prs cs]
    show ((c.1 == c.1 && (c.2 == c.2 && true)) && true) = true
    simp
end Lw
set_option maxHeartbeats 1000000
namespace Lw
open PySem PySem.Spec PyProof.Rows L2 Evl Pd Gd Us Chk LamX LamK
theorem depth_prs : ∀ cs : List (Int × Int), PyData.depthAll (cs.map prP) ≤ 1
  | [] => Nat.zero_le _
  | c :: cs => by
    show max (PyData.depth (prP c)) (PyData.depthAll (cs.map prP)) ≤ 1
    have := depth_prs cs
    have : PyData.depth (prP c) = 1 := rfl
    omega
theorem sh_prs (cs : List (Int × Int)) : SeqAt.shaped (.list (cs.map prP)) = true := by
  show (PyData.canLayAll0 (cs.map prP) && decide (PyData.depthAll (cs.map prP) + 1 ≤ 64)) = true
  have := depth_prs cs
  rw [lay_prs, decide_eq_true (by omega)]
  rfl
theorem prs_of : ∀ {ds : List PyData}, (∀ d ∈ ds, ∃ c, d = prP c) → ∃ es : List (Int × Int), ds = es.map prP
  | [], _ => ⟨[], rfl⟩
  | d :: ds, h => by
    obtain ⟨c, rfl⟩ := h d List.mem_cons_self
    obtain ⟨es, rfl⟩ := prs_of fun e he => h e (List.mem_cons_of_mem _ he)
    exact ⟨c :: es, rfl⟩
theorem sort_prs (cs : List (Int × Int)) : ∃ es : List (Int × Int), sortD (cs.map prP) = es.map prP := prs_of fun d hd => by
  have := List.mem_mergeSort.mp hd
  obtain ⟨c, _, rfl⟩ := List.mem_map.mp this
  exact ⟨c, rfl⟩
theorem showy6 {c : Int × Int} (h : c ∈ b6) : Showy (prP c) := by
  unfold b6 at h
  simp only [List.mem_cons, List.not_mem_nil, or_false] at h
  rcases h with rfl | rfl | rfl | rfl | rfl | rfl
  · exact .inr ⟨⟨_, rfl⟩, by decide +kernel, by decide +kernel, by decide +kernel, by decide +kernel⟩
  · exact .inr ⟨⟨_, rfl⟩, by decide +kernel, by decide +kernel, by decide +kernel, by decide +kernel⟩
  · exact .inr ⟨⟨_, rfl⟩, by decide +kernel, by decide +kernel, by decide +kernel, by decide +kernel⟩
  · exact .inr ⟨⟨_, rfl⟩, by decide +kernel, by decide +kernel, by decide +kernel, by decide +kernel⟩
  · exact .inr ⟨⟨_, rfl⟩, by decide +kernel, by decide +kernel, by decide +kernel, by decide +kernel⟩
  · exact .inr ⟨⟨_, rfl⟩, by decide +kernel, by decide +kernel, by decide +kernel, by decide +kernel⟩
theorem bN_b6 {n : Int} {c : Int × Int} (h : c ∈ bN n) : c ∈ b6 := by
  unfold bN at h
  split at h
  · exact List.mem_of_mem_take h
  · exact h
theorem str_sorts {so : Str} (h : so ∈ sorts) : PyData.canLay0 (.str so) = true := by
  unfold sorts at h
  simp only [List.mem_cons, List.not_mem_nil, or_false] at h
  rcases h with rfl | rfl | rfl <;> decide +kernel
theorem str_holds {so h : Str} (hh : h ∈ holdsOf so) : PyData.canLay0 (.str h) = true := by
  unfold holdsOf at hh
  split at hh <;> simp only [List.mem_cons, List.not_mem_nil, or_false] at hh <;> rcases hh with rfl | rfl | rfl <;> decide +kernel
theorem sh4 {so h : Str} {n k : Int} (hs : so ∈ sorts) (hh : h ∈ holdsOf so) : SeqAt.shaped (.list [.str so, .int n, .int k, .str h]) = true := by
  show ((PyData.canLay0 (.str so) && (true && (true && (PyData.canLay0 (.str h) && true)))) && decide (1 ≤ 64)) = true
  rw [str_sorts hs, str_holds hh]
  rfl
theorem eqv4 {so h : Str} {n k : Int} : PyData.eqv (.list [.str so, .int n, .int k, .str h]) (.list [.str so, .int n, .int k, .str h]) = true := by
  show (so == so && (n == n && (k == k && (h == h && true)))) = true
  simp
theorem eqv2 {a b : Str} : PyData.eqv (.list [.str a, .str b]) (.list [.str a, .str b]) = true := by
  show (a == a && (b == b && true)) = true
  simp
theorem at5 : ∀ {l : List PyData}, l.length = 5 → l = [at_ l 0, at_ l 1, at_ l 2, at_ l 3, at_ l 4]
  | [a, b, c, d, e], _ => rfl
theorem name_at {i : Nat} (h : i < 5) : ([.str "sort", .str "size", .str "start", .str "changes", .str "hold"] : List PyData)[i]? = some (.str (nameAt i)) := by
  have : i = 0 ∨ i = 1 ∨ i = 2 ∨ i = 3 ∨ i = 4 := by omega
  rcases this with rfl | rfl | rfl | rfl | rfl <;> rfl
theorem sh_name {i : Nat} (h : i < 5) : SeqAt.shaped (.list [.str "setting", .str (nameAt i)]) = true := by
  have : i = 0 ∨ i = 1 ∨ i = 2 ∨ i = 3 ∨ i = 4 := by omega
  rcases this with rfl | rfl | rfl | rfl | rfl <;> decide +kernel
/-- an odd value is short -/
theorem odd_short {d1 o : PyData} {i : Nat} (hi : i < 5) (h : o ∈ oddAt d1 i) (h1 : ∀ ds, d1 = .list ds → ds.length ≤ 30000) : Short o := by
  have all : ∀ o ∈ oddAt d1 i, o = d1 ∨ (match o with | .list ds => decide (ds.length ≤ 2) | _ => true) = true := by
    have : i = 0 ∨ i = 1 ∨ i = 2 ∨ i = 3 ∨ i = 4 := by omega
    rcases this with rfl | rfl | rfl | rfl | rfl
    · exact fun o ho => .inr ((List.all_eq_true.mp (show (oddAt d1 0).all (fun o => match o with | .list ds => decide (ds.length ≤ 2) | _ => true) = true from rfl)) o ho)
    · exact fun o ho => .inr ((List.all_eq_true.mp (show (oddAt d1 1).all (fun o => match o with | .list ds => decide (ds.length ≤ 2) | _ => true) = true from rfl)) o ho)
    · intro o ho
      have ho : o ∈ [.int (-1), d1, .bool true, .none, .str "0"] := ho
      simp only [List.mem_cons, List.not_mem_nil, or_false] at ho
      rcases ho with rfl | rfl | rfl | rfl | rfl
      · exact .inr rfl
      · exact .inl rfl
      · exact .inr rfl
      · exact .inr rfl
      · exact .inr rfl
    · exact fun o ho => .inr ((List.all_eq_true.mp (show (oddAt d1 3).all (fun o => match o with | .list ds => decide (ds.length ≤ 2) | _ => true) = true from rfl)) o ho)
    · exact fun o ho => .inr ((List.all_eq_true.mp (show (oddAt d1 4).all (fun o => match o with | .list ds => decide (ds.length ≤ 2) | _ => true) = true from rfl)) o ho)
  intro ds e
  rcases all o h with rfl | z
  · exact h1 ds e
  · subst e
    have := of_decide_eq_true (show decide (ds.length ≤ 2) = true from z)
    omega
/-- the second item of what was bent: the odd values of 1 are no lists -/
theorem odd1_flat {d1 o : PyData} (h : o ∈ oddAt d1 1) : ∀ ds, o ≠ .list ds := by
  have h : o ∈ [.int 1, .int 5, .bool true, .none, .str "2"] := h
  simp only [List.mem_cons, List.not_mem_nil, or_false] at h
  rcases h with rfl | rfl | rfl | rfl | rfl <;> exact fun _ z => nomatch z
section
variable {K : PySem.W.Frag} {σ : L2.St} {H : Hp} {te ta : TE} {tk : TO}
theorem dqAll_rev {H : Hp} {xs : List V} {ds : List PyData} (h : DqAll H xs ds) : DqAll H xs.reverse ds.reverse := by
  induction ds generalizing xs with
  | nil => cases h; exact .nil
  | cons d ds ih =>
    cases h with
    | cons a t =>
      rw [List.reverse_cons, List.reverse_cons]
      exact dqAll_app (ih t) (.cons a .nil)
theorem p_rev {ds : List PyData} (h : EvP te σ H (Qe (.list ds))) (hk : EvO tk σ H (some (-1))) : EvP (RevSl.tRevL K te tk) σ H (Qe (.list ds.reverse)) := fun H1 e Q q =>
  h H1 e _ fun x H2 e2 p => hk H2 (e.trans e2) _ fun H3 e3 => ⟨rfl, by
    have p := mo_qe _ _ _ e3 p
    cases p with
    | @lst a xs _ hz hl hd =>
      refine ⟨a, xs, rfl, sq_of hl, fun r hr => q (.ref r) _ (e2.trans (e3.trans (Ex.new hr))) (.lst (by rw [List.length_reverse]; exact hz) upd_same (dqAll_up (Ex.new hr) (dqAll_rev hd)))⟩⟩
theorem ev_dget {i : Nat} {p : Addr} {kvs : List (Key × V)} {key : Str} {v : V} (h : σ[i]? = some (some (.ref p))) (hp : H p = some (.dK kvs)) (hv : valV kvs (.inr key) = some v) : Ev (tDGet (tVar i) (tC (.str key))) σ H v := fun H1 e Q q =>
  ⟨_, h, p, v, rfl, by rw [← hv]; exact DGet.k (k := .inr key) (e _ _ hp), q H1 (Ex.refl _)⟩
/-- a list that was made on the way -/
def NewL (H0 : Hp) (xs : List V) : PV := fun x H' => ∃ l, x = .ref l ∧ H0 l = none ∧ H' l = some (.lst xs)
theorem mo_newL {H0 : Hp} {xs : List V} : Mo (NewL H0 xs) := fun _ _ _ e ⟨l, h1, h2, h3⟩ => ⟨l, h1, h2, e _ _ h3⟩
theorem p_newL {xs : List V} (h : EvL te σ H xs) : EvP te σ H (NewL H xs) := fun H1 e Q q => h H1 e Q fun p H2 hp e2 hl => q _ H2 e2 ⟨p, rfl, fresh_back e hp, hl⟩
end
/-- the tables over a list that was written -/
theorem tabs_lst {T : TabT} {H : Hp} {l : Addr} {xs ys : List V} (hl : H l = some (.lst xs)) (h : Tabs T H) : Tabs T (upd H l (.lst ys)) := fun p hp => by
  obtain ⟨ps, h1, h2, h3⟩ := h p hp
  refine ⟨ps, by rw [upd_ne (fun z => by rw [z, hl] at h1; cases h1)]; exact h1, h2, fun pos cv hc => ?_⟩
  obtain ⟨c, e1, e2⟩ := h3 pos cv hc
  exact ⟨c, e1, by rw [upd_ne (fun z => by rw [z, hl] at e2; have := Option.some.inj e2; unfold CodeO at this; cases this)]; exact e2⟩
theorem set_lst {C : Addr} {g : Stg} {H : Hp} {l : Addr} {xs ys : List V} {x : V} (hl : H l = some (.lst xs)) (h : SetV C g x H) : SetV C g x (upd H l (.lst ys)) := by
  obtain ⟨a, e, dx, d, fs, h1, h2, h3⟩ := h
  exact ⟨a, e, dx, d, fs, by rw [upd_ne (fun z => by rw [z, hl] at h1; cases h1)]; exact h1, by rw [upd_ne (fun z => by rw [z, hl] at h2; cases h2)]; exact h2, h3⟩
end Lw
set_option maxHeartbeats 1000000
namespace Lw
open PySem PySem.Spec PyProof.Rows L2 Evl Pd Gd Us Chk LamX LamK
structure UseG (P : Program) (w : World) (K : PySem.W.Frag) (mg : Str → Option Value) (base : Heap) (k : Nat) (x : Str) (ps : List Str) (sp : Sp) : Prop where
  ex : ∃ f fd, mg x = some (.ref f) ∧ PySem.W.keepIn K (.ref f) = true ∧ L2.Binds K fd ps [] ∧ FnG P w K mg base CX0 k f fd ps sp
theorem pe_useG {X : Cx} {k j : Nat} {x : Str} {ps : List Str} {sp : Sp} {p pos : Pos} {e : Expr} {es : List Expr} {t : TA} (U : UseG X.prog X.w X.K X.mg X.base k x ps sp) (hr : Room j X.A) (hk : k ≤ j) (hu : X.A.guards = some []) (hg : Gl X x) (ha : PA X (e :: es) t)
    (hdb : (x == ("__debug__" : Str)) = false := by decide) (he : starEach (e :: es) X.env = (false, eval e X.env) :: starEach es X.env := by rfl) (hpl : (backTo pos (starEach es X.env)).any (·.1) = false := by rfl) :
    PE X (.Call (.Name x p) (e :: es) [] pos) (tCall sp [] (fun _ _ _ => False) t) := by
  obtain ⟨f, fd, m, kp, b, F⟩ := U.ex
  exact pe_callG F (hr.mono hk) hu hg m kp b pass0 ha hdb he hpl
section
variable {T : TabT} {K : PySem.W.Frag} {σ : L2.St} {H : Hp} {te ta tb : TE} {t : TT} {E : XK} {D : Ends} {tz : TS} {so h : Str} {n k : Int} {cs : List (Int × Int)} {C : Addr}
theorem nt_is {b c : Bool} (h : ENT T t σ H b) (e : b = c) : ENT T t σ H c := by
  rw [← e]
  exact h
/-- a, b = [i, d] -/
theorem q_unp2 {i j : Nat} {R : Nat → PyData → Prop} (h : EvP te σ H (fun z H' => ∃ (m : Nat) (d : PyData), R m d ∧ Dq H' z (.list [.int (m : Int), d]))) (k : ∀ (m : Nat) (d : PyData) (v : V) H1, Ex H H1 → R m d → Dq H1 v d → tz D ((σ.set i (some (.int (m : Int)))).set j (some v)) H1) :
    tSeq (tAsg te (gLst K 2 (gCons (gName i) (gCons (gName j) gNil)))) tz D σ H := h H (Ex.refl H) _ fun x H1 e ⟨m, d, r, p⟩ => by
  cases p with
  | @lst a xs _ z hl hd =>
    cases hd with
    | cons h1 hd =>
      cases hd with
      | cons h2 hd =>
        cases hd
        cases h1
        exact ⟨a, _, rfl, sq_of hl, rfl, _, _, rfl, _, _, rfl, rfl, k m d _ H1 e r h2⟩
/-- a new list gets an item and is forgotten -/
theorem q_appNew {ds : List PyData} {v : V} (ha : EvP ta σ H (fun y H' => (∃ r, y = .ref r ∧ H r = none) ∧ Qe (.list ds) y H')) (h : ∀ H1, Ex H H1 → Ev te σ H1 v) (hz : ds.length < 100000) (k : ∀ H1, Ex H H1 → tz D σ H1) :
    tSeq (tDrop (tBM K "list" rAppend ta (tCons te tNil))) tz D σ H := ha H (Ex.refl H) _ fun x H1 e1 ⟨⟨r, er, nr⟩, p⟩ => by
  subst er
  cases p with
  | @lst _ xs _ z hl hd =>
    exact ⟨Or.inl ⟨rfl, xs, sq_of hl⟩, h H1 e1 H1 (Ex.refl _) _ fun H2 e2 => ⟨r, xs, v, rfl, rfl, e2 _ _ hl, sz_lt (by rw [dqAll_len hd]; exact hz), k _ ((e1.trans e2).mut nr)⟩⟩
theorem ks_eq (R : Dr so n k cs h) : (settingOf (drawn so n k cs h)).ks = cs.map key2 := once_pairs R.sub
theorem ks_pairs (R : Dr so n k cs h) : (settingOf (drawn so n k cs h)).ks.map Chk.pairD = cs.map prP := by rw [ks_eq R, pair_back]
theorem ks_showy (R : Dr so n k cs h) : ∀ q ∈ (settingOf (drawn so n k cs h)).ks, Showy (Chk.pairD q) := fun q hk => by
  rw [ks_eq R] at hk
  obtain ⟨c, hc, rfl⟩ := List.mem_map.mp hk
  exact showy6 (bN_b6 (R.sub.subset hc))
theorem ks_len (R : Dr so n k cs h) : (settingOf (drawn so n k cs h)).ks.length ≤ 1000 := by
  rw [ks_eq R, List.length_map]
  have := R.len
  omega
theorem e_chs (R : Dr so n k cs h) (hm : EvP te σ H (SetV C (settingOf (drawn so n k cs h)))) : EvP (tMeth C "changes" (spChs C) [] E te tNil) σ H (Qe (.list (sortD (cs.map prP)))) := by
  have := p_chs (E := E) hm (ks_showy R) (ks_len R)
  rw [ks_pairs R] at this
  exact this
theorem e_chsN (R : Dr so n k cs h) (hm : EvP te σ H (SetV C (settingOf (drawn so n k cs h)))) : EvP (tMeth C "changes" (spChs C) [] E te tNil) σ H (fun y H' => (∃ r, y = .ref r ∧ H r = none) ∧ Qe (.list (sortD (cs.map prP))) y H') := by
  have := p_chsN (E := E) hm (ks_showy R) (ks_len R)
  rw [ks_pairs R] at this
  exact this
/-- made.changes() != _law_sorted(one['changes']) -/
theorem chk_changes {md : V} {p lc : Addr} {E2 : XK} (R : Dr so n k cs h) (h4 : σ[4]? = some (some (.ref p))) (h6 : σ[6]? = some (some md)) (hd : H p = some (.dK (drawnK so n k (.ref lc) h))) (hl : Dq H (.ref lc) (.list (cs.map prP))) (hm : SetV C (settingOf (drawn so n k cs h)) md H) :
    ENT T (tTest (tOp (rNeD K) (tMeth C "changes" (spChs C) [] E (tVar 6) tNil) (tCall (spSrt T) [] E2 (tCons (tDGet (tVar 4) (tC (.str "changes"))) tNil)))) σ H false := by
  obtain ⟨es, he⟩ := sort_prs cs
  have a : EN T (tMeth C "changes" (spChs C) [] E (tVar 6) tNil) σ H (Qe (.list (sortD (cs.map prP)))) := n_of fun H1 e => e_chs R (p_var h6 mo_set (mon_set _ _ _ e hm))
  have b : EN T (tCall (spSrt T) [] E2 (tCons (tDGet (tVar 4) (tC (.str "changes"))) tNil)) σ H (Qe (.list (sortD (cs.map prP)))) := n_srt (n_of fun H1 e => .of (ev_dget h4 (e _ _ hd fun _ z => nomatch z) rfl) mo_qe (dq_ext e hl)) fun d hd => by
    obtain ⟨c, hc, rfl⟩ := List.mem_map.mp hd
    exact showy6 (bN_b6 (R.sub.subset hc))
  rw [he] at a b
  refine nt_is (nt_test (n_ne a b (sh_prs es) (sh_prs es))) ?_
  show (!PyData.eqvAll (es.map prP) (es.map prP)) = false
  rw [eqv_prs]
  rfl
def u6 (so : Str) (n k : Int) (cs : List (Int × Int)) (h : Str) : Pts := ⟨.str so, .int n, .int k, .list (revOf (cs.map prP)), .str h⟩
theorem fac6 (R : Dr so n k cs h) : okChs n (.list (revOf (chOf cs))) = true ∧ eqK (onceK (keysOf (.list (chOf cs)))) (onceK (keysOf (.list (revOf (chOf cs))))) = true := by
  have f := facts_of R.two R.sub
  unfold facts at f
  simp only [Bool.and_eq_true, Bool.not_eq_true', decide_eq_true_eq] at f
  exact ⟨f.2.2.2.1, f.2.2.2.2.1⟩
theorem w6 (D : Dr so n k cs h) : wrong (u6 so n k cs h) = none :=
  wrong_none (sorts_ok D.srt) (bt (by have := D.two; omega) (by have := D.two; omega)) (bt D.k0 (by have := D.k1; show k ≤ n - 1; omega)) (fac6 D).1 (holds_ok D.srt D.ho)
theorem n6 (R : Dr so n k cs h) : eqS (settingOf (drawn so n k cs h)) (settingOf (u6 so n k cs h)) = true := by
  show (decide (so = so) && (decide (n = n) && (decide (k = k) && (eqK (onceK (keysOf (.list (chOf cs)))) (onceK (keysOf (.list (revOf (chOf cs))))) && decide (h = h))))) = true
  rw [(fac6 R).2]
  simp
end
section
variable {T : TabT} {K : PySem.W.Frag} {σ : L2.St} {H : Hp} {te ta tb tix : TE} {E : XK}
theorem p_bent {ds : List PyData} (h1 : EvP ta σ H (PoolV K)) (h2 : EvP tb σ H (Qe (.list ds))) (h5 : ds.length = 5) : EvP (tCall (spBent K) [] E (tCons ta (tCons tb tNil))) σ H (fun z H' => ∃ (m : Nat) (d : PyData), (∃ o, m < 5 ∧ o ∈ oddAt (at_ ds 1) m ∧ d = .list (ds.set m o)) ∧ Dq H' z (.list [.int (m : Int), d])) :=
  p_call (Ps := [PoolV K, Qe (.list ds)]) (ps_cons mo_pool h1 (ps_cons mo_qe h2 ps_nil)) fun xs H1 e ps Q q => by
    match xs, ps with
    | [x, y], ⟨px, py, _⟩ => exact ⟨rfl, x, y, ds, rfl, px, py, h5, fun z H2 e2 ⟨i, o, hi, ho, hz⟩ => q z H2 e2 ⟨i, _, ⟨o, hi, ho, rfl⟩, hz⟩⟩
/-- _law_told(bent) != ['setting', names[..]] -/
theorem tell {bl : List PyData} {i s : Nat} {bv : V} (hs : σ[s]? = some (some bv)) (hb : Dq H bv (.list bl)) (h5 : bl.length = 5) (sh : Short (at_ bl 3)) (hw : wrong (ptsOf bl) = some (nameAt i)) (hi : i < 5) (hx : ∀ H1, ExtN H H1 → EvP tix σ H1 (Qe (.str (nameAt i)))) :
    ENT T (tTest (tOp (rNeD K) (tCall (spTold T) [] E (tCons (tVar s) tNil)) (tLst (tCons (tC (.str "setting")) (tCons tix tNil))))) σ H false := by
  have e : PtsV (ptsOf bl) = Qe (.list bl) := (congrArg (fun z => Qe (.list z)) (at5 h5)).symm
  have a : EN T (tVar s) σ H (PtsV (ptsOf bl)) := by
    rw [e]
    exact n_of fun H1 e1 => q_var hs (dq_ext e1 hb)
  refine nt_is (nt_test (n_ne (n_told a sh hw) (n_of fun H1 e1 => q_lst (ds := [.str "setting", .str (nameAt i)]) (ps_cons mo_qe q_str (ps_cons mo_qe (hx H1 e1) ps_nil))) (sh_name hi) (sh_name hi))) ?_
  rw [eqv2]
  rfl
end
end Lw
set_option maxHeartbeats 1000000
namespace Lw
open PySem PySem.Spec PyProof.Rows L2 Evl Pd Gd Us Chk LamX LamK
abbrev sLaw : Stmt := top 39
abbrev nL : List Str := ["script", "names", "k", "pool", "one", "parts", "made", "at", "bent", "also", "worse"]
theorem scLaw : FnScope nL ["script"] (defScope sLaw) := ⟨rfl, rfl, rfl, by decide +kernel, rfl, by decide +kernel, by decide +kernel⟩
def spLawS (T : TabT) (K : PySem.W.Frag) : Sp := fun vs H Q _ => vs.length = 1 ∧ ∃ (a : Addr) (ns : List Int), vs = [.ref a] ∧ SqL K H a (ns.map V.int) ∧ ns.length ≤ 63 ∧ Tabs T H ∧ ∀ H', Q (.bl true) H'
/-- all that the law calls -/
structure Calls (P : Program) (w : World) (K : PySem.W.Frag) (mg : Str → Option Value) (base : Heap) (C CB : Addr) (T : TabT) : Prop where
  turn : Use P w K mg base 3 "_law_turn_pool" ["script", "k"] (spTurn K)
  setting : Use P w K mg base 3 "_law_setting" ["pool", "sort"] (spSetting K)
  pick : Use P w K mg base 2 "_law_pick" ["pool", "some"] (spPick K)
  just : Use P w K mg base 3 "_law_lets_just" ["made", "changes"] (spJust K C)
  unl : Use P w K mg base 9 "_law_unlike_by_each" ["made", "parts"] (spUnl C)
  bent : Use P w K mg base 3 "_law_bent" ["pool", "parts"] (spBent K)
  cls : SetC P w K mg base C CB
  srt : UseG P w K mg base 1 "_law_sorted" ["some"] (spSrt T)
  told : UseG P w K mg base 10 "_law_told" ["parts"] (spTold T)
  range : mg "range" = none
  list : mg "list" = none
def namesD : List PyData := [.str "sort", .str "size", .str "start", .str "changes", .str "hold"]
theorem mo_lsts : Mo (fun x H => ∃ b xs, x = V.ref b ∧ H b = some (.lst xs)) := fun _ _ _ e ⟨b, xs, h1, h2⟩ => ⟨b, xs, h1, e _ _ h2⟩
section
variable {P : Program} {w : World} {K : PySem.W.Frag} {mg : Str → Option Value} {base : Heap} {C CB f : Addr} {fd : FuncData} {T : TabT}
theorem ok_law (F : Fun K "law" "law" sLaw f fd) (S : Calls P w K mg base C CB T) : FnG P w K mg base CX0 11 f fd ["script"] (spLawS T K) := by
  refine okG F scLaw (fun vs H Q E h => h.1) (fun cdv A outer s H vs Q E hr hg h => ?_)
  obtain ⟨_, a, ns, rfl, hS, hn, hT, q⟩ := h
  have hu : (A.deeper (envOfC "law" (defScope sLaw) s.heap.objs.size f cdv)).units + 64 < cLine := by have := hr.un; omega
  have hu1 : (A.deeper (envOfC "law" (defScope sLaw) s.heap.objs.size f cdv)).units + 1 < cLine := by omega
  refine ⟨_, pss_cons (ps_set (i := 1) scLaw.nd rfl (Or.inl rfl) (pe_lst (pa_cons pe_str (pa_cons pe_str (pa_cons pe_str (pa_cons pe_str (pa_cons pe_str pa_nil)))))))
    (pss_cons (ps_for PassesOwn.never rfl (pi_range1 (by rfl) S.range (pa_cons pe_int pa_nil)) (pg_name (i := 2) scLaw.nd rfl (Or.inl rfl))
      (pss_cons (ps_set (i := 3) scLaw.nd rfl (Or.inl rfl) (pe_use S.turn hr (by decide) (by rfl) (pa_cons (pv 0) (pa_cons (pv 2) pa_nil))))
      (pss_cons (ps_set (i := 4) scLaw.nd rfl (Or.inl rfl) (pe_use S.setting hr (by decide) (by rfl) (pa_cons (pv 3) (pa_cons (pe_use S.pick hr (by decide) (by rfl) (pa_cons (pv 3) (pa_cons (pe_lst (pa_cons pe_str (pa_cons pe_str (pa_cons pe_str pa_nil)))) pa_nil))) pa_nil))))
      (pss_cons (ps_set (i := 5) scLaw.nd rfl (Or.inl rfl) (pe_lst (pa_cons (pe_dget hu1 (pv 4) pe_str (fun _ _ => rfl)) (pa_cons (pe_dget hu1 (pv 4) pe_str (fun _ _ => rfl)) (pa_cons (pe_dget hu1 (pv 4) pe_str (fun _ _ => rfl)) (pa_cons (pe_callTy call_list_of (by rfl) S.list Chk.boot_list (pa_cons (pe_dget hu1 (pv 4) pe_str (fun _ _ => rfl)) pa_nil)) (pa_cons (pe_dget hu1 (pv 4) pe_str (fun _ _ => rfl)) pa_nil)))))))
      (pss_cons (ps_set (i := 6) scLaw.nd rfl (Or.inl rfl) (pe_setting (E := fun _ _ _ => False) S.cls hr (by decide) (by rfl) (passes_call LamX.takes0 fun _ _ _ _ h => h) (pa_cons (pe_ix ix_list (pv 5) pe_int (fun _ _ => rfl)) (pa_cons (pe_ix ix_list (pv 5) pe_int (fun _ _ => rfl)) (pa_cons (pe_ix ix_list (pv 5) pe_int (fun _ _ => rfl)) (pa_cons (pe_ix ix_list (pv 5) pe_int (fun _ _ => rfl)) (pa_cons (pe_ix ix_list (pv 5) pe_int (fun _ _ => rfl)) pa_nil)))))))
      (pss_cons (ps_if (pt_cmpR (op_neD hu) (pe_lst (pa_cons (pe_kindP S.cls hr (by decide) (pv 6)) (pa_cons (pe_sizeP S.cls hr (by decide) (pv 6)) (pa_cons (pe_startP S.cls hr (by decide) (pv 6)) (pa_cons (pe_holdP S.cls hr (by decide) (pv 6)) pa_nil))))) (pe_lst (pa_cons (pe_ix ix_list (pv 5) pe_int (fun _ _ => rfl)) (pa_cons (pe_ix ix_list (pv 5) pe_int (fun _ _ => rfl)) (pa_cons (pe_ix ix_list (pv 5) pe_int (fun _ _ => rfl)) (pa_cons (pe_ix ix_list (pv 5) pe_int (fun _ _ => rfl)) pa_nil))))) (nomark _)) (pss_one (ps_ret pe_bl)) pss_nil)
      (pss_cons (ps_if (pt_cmpR (op_neD hu) (pe_chs S.cls hr (by decide) hg (pv 6)) (pe_useG S.srt hr (by decide) hg (by rfl) (pa_cons (pe_dget hu1 (pv 4) pe_str (fun _ _ => rfl)) pa_nil)) (nomark _)) (pss_one (ps_ret pe_bl)) pss_nil)
      (pss_cons (ps_if (PW.pt (pw_or (pt_not (pt_val (pe_use S.just hr (by decide) (by rfl) (pa_cons (pv 6) (pa_cons (pe_dget hu1 (pv 4) pe_str (fun _ _ => rfl)) pa_nil))))) (pw_or1 (pt_cmpR (op_eqSet S.cls hr (by decide)) (pv 6) (pv 5) (nomark _))))) (pss_one (ps_ret pe_bl)) pss_nil)
      (pss_cons (ps_if (pt_cmpR (op_neSet S.cls hr (by decide)) (pv 6) (pe_setting (E := fun _ _ _ => False) S.cls hr (by decide) (by rfl) (passes_call LamX.takes0 fun _ _ _ _ h => h) (pa_cons (pe_ix ix_list (pv 5) pe_int (fun _ _ => rfl)) (pa_cons (pe_ix ix_list (pv 5) pe_int (fun _ _ => rfl)) (pa_cons (pe_ix ix_list (pv 5) pe_int (fun _ _ => rfl)) (pa_cons (RevSl.pe_rev (pe_op op_cat (pe_ix ix_list (pv 5) pe_int (fun _ _ => rfl)) (pe_ix ix_list (pv 5) pe_int (fun _ _ => rfl))) (po_some (pe_un un_neg pe_int))) (pa_cons (pe_ix ix_list (pv 5) pe_int (fun _ _ => rfl)) pa_nil)))))) (nomark _)) (pss_one (ps_ret pe_bl)) pss_nil)
      (pss_cons (ps_if (pt_not (pt_val (pe_use S.unl hr (by decide) (by rfl) (pa_cons (pv 6) (pa_cons (pv 5) pa_nil))))) (pss_one (ps_ret pe_bl)) pss_nil)
      (pss_cons (ps_asg (pe_use S.bent hr (by decide) (by rfl) (pa_cons (pv 3) (pa_cons (pv 5) pa_nil))) (pg_lst rfl (pgs_cons (pg_name (i := 7) scLaw.nd rfl (Or.inl rfl)) (pgs_cons (pg_name (i := 8) scLaw.nd rfl (Or.inl rfl)) pgs_nil))))
      (pss_cons (ps_if (pt_cmpR (op_neD hu) (pe_useG S.told hr (by decide) hg (by rfl) (pa_cons (pv 8) pa_nil)) (pe_lst (pa_cons pe_str (pa_cons (pe_ix ix_list (pv 1) (pv 7) (fun _ _ => rfl)) pa_nil))) (nomark _)) (pss_one (ps_ret pe_bl)) pss_nil)
      (pss_cons (ps_asg (pe_use S.bent hr (by decide) (by rfl) (pa_cons (pv 3) (pa_cons (pv 8) pa_nil))) (pg_lst rfl (pgs_cons (pg_name (i := 9) scLaw.nd rfl (Or.inl rfl)) (pgs_cons (pg_name (i := 10) scLaw.nd rfl (Or.inl rfl)) pgs_nil))))
      (pss_cons (ps_if (PW.pt (pw_and (pt_cmpR op_ne (pv 9) (pv 7) (nomark _)) (pw_and1 (pt_cmpR (op_neD hu) (pe_useG S.told hr (by decide) hg (by rfl) (pa_cons (pv 10) pa_nil)) (pe_lst (pa_cons pe_str (pa_cons (pe_ix ix_list (pv 1) (pe_ifExp (pt_cmpR op_lt (pv 7) (pv 9) (nomark _)) (pv 7) (pv 9)) (fun _ _ => rfl)) pa_nil))) (nomark _))))) (pss_one (ps_ret pe_bl)) pss_nil)
      (pss_cons (ps_expr (pe_bm PySem.F.plainAttrs_list PySem.F.slot_list_append PySem.F.type_list_append mt_append (pe_chs S.cls hr (by decide) hg (pv 6)) (pa_cons pe_non pa_nil)))
      (pss_cons (ps_expr (pe_bm PySem.F.plainAttrs_list PySem.F.slot_list_append PySem.F.type_list_append mt_append (pe_ix ix_list (pv 5) pe_int (fun _ _ => rfl)) (pa_cons (pe_tup (pa_cons pe_int (pa_cons pe_int pa_nil))) pa_nil)))
      (pss_one (ps_if (pt_cmpR (op_neD hu) (pe_chs S.cls hr (by decide) hg (pv 6)) (pe_useG S.srt hr (by decide) hg (by rfl) (pa_cons (pe_dget hu1 (pv 4) pe_str (fun _ _ => rfl)) pa_nil)) (nomark _)) (pss_one (ps_ret pe_bl)) pss_nil))))))))))))))))))
    (pss_one (ps_ret (pe_cmpR (op_eqD hu) (pe_useG S.told hr (by decide) hg (by rfl) (pa_cons (pe_lst (pa_cons pe_str (pa_cons pe_int (pa_cons pe_int (pa_cons (pe_lst pa_nil) (pa_cons pe_str pa_nil)))))) pa_nil)) (pe_lst (pa_cons pe_str (pa_cons pe_str pa_nil))) (nomark _))))), ?_⟩
  have sc0 : ∀ {cs : List (Int × Int)}, cs.length ≤ 6 → Short (.list (cs.map prP)) := fun hl ds e => by cases e; rw [List.length_map]; omega
  refine d_asg (P := Qe (.list namesD)) (q_lst (ds := namesD) (ps_cons mo_qe q_str (ps_cons mo_qe q_str (ps_cons mo_qe q_str (ps_cons mo_qe q_str (ps_cons mo_qe q_str ps_nil)))))) fun nm H0 e0 hnm => ?_
  have hS0 : SqL K H0 a (ns.map V.int) := ex_l e0 hS
  have T0 : Tabs T H0 := hT.ext e0
  refine q_forR1 (n := 8) (ea_cons ev_c ea_nil) (by decide) (fun _ σ' H' => ∃ o2 o3 o4 o5 o6 o7 o8 o9 o10, σ' = [some (V.ref a), some nm, o2, o3, o4, o5, o6, o7, o8, o9, o10] ∧ ExtN H0 H' ∧ Tabs T H')
    (fun H1 e1 => ⟨_, _, _, _, _, _, _, _, _, rfl, ExtN.of e1, T0.ext e1⟩) ?turn ?after
  case after =>
    rintro σ' H1 ⟨o2, o3, o4, o5, o6, o7, o8, o9, o10, rfl, g1, T1⟩
    refine n_ret (P := Is (.bl true)) ?last T1 fun x H2 e2 px => by rw [show x = _ from px]; exact q H2
    case last =>
      have r1 : EN T (tLst (tCons (tC (.str "table")) (tCons (tC (.int 2)) (tCons (tC (.int 0)) (tCons (tLst tNil) (tCons (tC (.str "open")) tNil)))))) [some (V.ref a), some nm, o2, o3, o4, o5, o6, o7, o8, o9, o10] H1 (PtsV ⟨.str "table", .int 2, .int 0, .list [], .str "open"⟩) :=
        n_of fun H2 e2 => q_lst (ds := [.str "table", .int 2, .int 0, .list [], .str "open"]) (ps_cons mo_qe q_str (ps_cons mo_qe q_int (ps_cons mo_qe q_int (ps_cons mo_qe (q_lst (ds := []) ps_nil) (ps_cons mo_qe q_str ps_nil)))))
      exact n_eq (n_told (s := "hold") r1 (fun ds e => by cases e; exact Nat.zero_le _) (by decide +kernel)) (n_of fun H2 e2 => q_lst (ds := [.str "setting", .str "hold"]) (ps_cons mo_qe q_str (ps_cons mo_qe q_str ps_nil))) (by decide +kernel) (by decide +kernel)
  case turn =>
    rintro i σ' H1 hi ⟨o2, o3, o4, o5, o6, o7, o8, o9, o10, rfl, g1, T1⟩
    have hS1 : SqL K H1 a (ns.map V.int) := ext_sql g1 hS0
    refine d_asg (P := PoolV K) ?pool fun po H2 e2 hpo => ?_
    case pool =>
      exact p_call (P := PoolV K) (Ps := [Is (.ref a), Is (.int (i : Int))]) (ps_cons mo_is (p_is rfl) (ps_cons mo_is (p_is rfl) ps_nil)) fun xs H3 e ps Q' q' => by
        match xs, ps with
        | [y, z], ⟨py, pz, _⟩ => exact ⟨rfl, a, ns, i, by rw [show y = _ from py, show z = _ from pz], ex_l e hS1, by omega, by omega, by omega, fun x H4 e4 p => q' x H4 e4 p⟩
    refine d_asg (P := fun y H' => ∃ so ∈ sorts, DrawnS so y H') ?one fun on H3 e3 hon => ?_
    case one =>
      exact p_call (Ps := [PoolV K, OneOf (sorts.map PyData.str)]) (ps_cons mo_pool (p_var rfl mo_pool hpo) (ps_cons mo_one (p_pick (p_var rfl mo_pool hpo) (q_lst (ds := sorts.map PyData.str) (ps_cons mo_qe q_str (ps_cons mo_qe q_str (ps_cons mo_qe q_str ps_nil)))) (by decide)) ps_nil)) fun xs H4 e ps Q' q' => by
        match xs, ps with
        | [y, z], ⟨py, ⟨d, hd, dz⟩, _⟩ =>
          obtain ⟨so, hso, rfl⟩ := List.mem_map.mp hd
          cases dz
          exact ⟨rfl, y, so, rfl, py, fun u H5 e5 p => q' u H5 e5 ⟨so, hso, p⟩⟩
    obtain ⟨so, hso, p, n, k, l, h, rfl, hp, hch, hn2, k0, k1, hh⟩ := hon
    obtain ⟨es, hes, hde⟩ := hch
    obtain ⟨cs, hcs, rfl⟩ := pairs_of hn2 hes
    have R : Dr so n k cs h := ⟨hso, hn2, k0, k1, hcs, hh⟩
    have sc := sc0 R.len
    obtain ⟨lc, xs, rfl, hz3, hlc, hxs⟩ : ∃ lc xs, l = .ref lc ∧ xs.length ≤ 100000 ∧ H3 lc = some (.lst xs) ∧ DqAll H3 xs (cs.map prP) := by
      cases hde with
      | lst z hl hd => exact ⟨_, _, rfl, z, hl, hd⟩
    refine d_asg (P := Lst [Is (.str so), Is (.int n), Is (.int k), NewL H3 xs, Is (.str h)]) ?parts fun pa H4 e4 hpa => ?_
    case parts =>
      exact p_lst (mo_cons mo_is (mo_cons mo_is (mo_cons mo_is (mo_cons mo_newL (mo_cons mo_is mo_nil))))) (ps_cons mo_is (.of (ev_dget rfl hp rfl) mo_is rfl) (ps_cons mo_is (.of (ev_dget rfl hp rfl) mo_is rfl) (ps_cons mo_is (.of (ev_dget rfl hp rfl) mo_is rfl) (ps_cons mo_newL (p_newL (el_list (ev_dget rfl hp rfl) (sq_of hlc))) (ps_cons mo_is (.of (ev_dget rfl hp rfl) mo_is rfl) ps_nil)))))
    obtain ⟨ap, vs5, rfl, hap, all5⟩ := hpa
    obtain ⟨l3, hap, hn3, hl3⟩ : ∃ l3, H4 ap = some (.lst [.str so, .int n, .int k, .ref l3, .str h]) ∧ H3 l3 = none ∧ H4 l3 = some (.lst xs) := by
      match vs5, hap, all5 with
      | [a1, a2, a3, a4, a5], hap, ⟨h1, h2, h3, ⟨l3, h4, h5, h6⟩, h7, _⟩ =>
        rw [show a1 = _ from h1, show a2 = _ from h2, show a3 = _ from h3, h4, show a5 = _ from h7] at hap
        exact ⟨l3, hap, h5, h6⟩
    have hy : Dq H4 (.ref ap) (.list (ptsD so n k cs h)) := .lst (xs := [.str so, .int n, .int k, .ref l3, .str h]) (show 5 ≤ 100000 by decide) hap (.cons (.str _) (.cons (.int _) (.cons (.int _) (.cons (.lst hz3 hl3 (dqAll_up e4 hxs)) (.cons (.str _) .nil)))))
    have it : ∀ {σ : L2.St} {Hc : Hp} {j : Nat} {d : PyData}, Dq Hc (.ref ap) (.list (ptsD so n k cs h)) → σ[5]? = some (some (.ref ap)) → (ptsD so n k cs h)[j]? = some d → EvP (tOp (rIxL K) (tVar 5) (tC (.int (j : Int)))) σ Hc (Qe d) := fun hy h1 hd => p_ixQ (q_var h1 hy) ev_c hd
    have i0 : ∀ {σ : L2.St} {Hc : Hp}, Dq Hc (.ref ap) (.list (ptsD so n k cs h)) → σ[5]? = some (some (.ref ap)) → EvP (tOp (rIxL K) (tVar 5) (tC (.int 0))) σ Hc (Qe (.str so)) := fun e h1 => it (j := 0) e h1 rfl
    have i1 : ∀ {σ : L2.St} {Hc : Hp}, Dq Hc (.ref ap) (.list (ptsD so n k cs h)) → σ[5]? = some (some (.ref ap)) → EvP (tOp (rIxL K) (tVar 5) (tC (.int 1))) σ Hc (Qe (.int n)) := fun e h1 => it (j := 1) e h1 rfl
    have i2 : ∀ {σ : L2.St} {Hc : Hp}, Dq Hc (.ref ap) (.list (ptsD so n k cs h)) → σ[5]? = some (some (.ref ap)) → EvP (tOp (rIxL K) (tVar 5) (tC (.int 2))) σ Hc (Qe (.int k)) := fun e h1 => it (j := 2) e h1 rfl
    have i3 : ∀ {σ : L2.St} {Hc : Hp}, Dq Hc (.ref ap) (.list (ptsD so n k cs h)) → σ[5]? = some (some (.ref ap)) → EvP (tOp (rIxL K) (tVar 5) (tC (.int 3))) σ Hc (Qe (.list (cs.map prP))) := fun e h1 => it (j := 3) e h1 rfl
    have i4 : ∀ {σ : L2.St} {Hc : Hp}, Dq Hc (.ref ap) (.list (ptsD so n k cs h)) → σ[5]? = some (some (.ref ap)) → EvP (tOp (rIxL K) (tVar 5) (tC (.int 4))) σ Hc (Qe (.str h)) := fun e h1 => it (j := 4) e h1 rfl
    clear it
    refine d_asg (P := SetV C (settingOf (drawn so n k cs h))) (p_make (p := drawn so n k cs h) ?args sc (drawn_right hso hn2 k0 k1 hcs hh)) fun md H5 e5 hmd => ?_
    case args => exact ps_cons mo_qe (i0 hy rfl) (ps_cons mo_qe (i1 hy rfl) (ps_cons mo_qe (i2 hy rfl) (ps_cons mo_qe (i3 hy rfl) (ps_cons mo_qe (i4 hy rfl) ps_nil))))
    have hy5 := dq_up e5 hy
    refine q_when (b := false) (et_is (et_test (de_ne (d := .list [.str so, .int n, .int k, .str h]) (e := .list [.str so, .int n, .int k, .str h]) (sh4 hso hh) (sh4 hso hh) (toDe ?props) (toDe ?items))) (by rw [eqv4]; rfl)) (fun c => nomatch c) fun _ H6 e6 => ?_
    case props => exact q_lst (ds := [.str so, .int n, .int k, .str h]) (ps_cons mo_qe (ev_qS (ev_prop (p_var rfl mo_set hmd) get_kind)) (ps_cons mo_qe (ev_qI (ev_prop (p_var rfl mo_set hmd) get_size)) (ps_cons mo_qe (ev_qI (ev_prop (p_var rfl mo_set hmd) get_start)) (ps_cons mo_qe (ev_qS (ev_prop (p_var rfl mo_set hmd) get_hold)) ps_nil))))
    case items => exact q_lst (ds := [.str so, .int n, .int k, .str h]) (ps_cons mo_qe (i0 hy5 rfl) (ps_cons mo_qe (i1 hy5 rfl) (ps_cons mo_qe (i2 hy5 rfl) (ps_cons mo_qe (i4 hy5 rfl) ps_nil))))
    -- from here on the tables grow
    have u36 : Ex H3 H6 := e4.trans (e5.trans e6)
    have T6 : Tabs T H6 := T1.ext (e2.trans (e3.trans u36))
    have g03 : ExtN H0 H3 := g1.trans (ExtN.of (e2.trans e3))
    have dlc : Dq H3 (.ref lc) (.list (cs.map prP)) := .lst hz3 hlc hxs
    have hpo6 : PoolV K po H6 := mo_pool _ _ _ (e3.trans u36) hpo
    have hmd6 := mo_set _ _ _ e6 hmd
    have hy6 := dq_up e6 hy5
    have hl6 : H6 l3 = some (.lst xs) := (e5.trans e6) _ _ hl3
    have hap6 : H6 ap = some (.lst [.str so, .int n, .int k, .ref l3, .str h]) := (e5.trans e6) _ _ hap
    refine n_when (chk_changes R rfl rfl (u36 _ _ hp) (dq_up u36 dlc) hmd6) T6 fun H7 e7 T7 => ?_
    have u37 : ExtN H3 H7 := (ExtN.of u36).trans e7
    refine n_when (nt_of (b := false) fun Hx ex => et_is (et_or (et_not (et_B (EvP.ev (p_call (P := Is (.bl true)) (Ps := [SetV C (settingOf (drawn so n k cs h)), Qe (.list (cs.map prP))]) (ps_cons mo_set (p_var rfl mo_set (mon_set _ _ _ (e7.trans ex) hmd6)) (ps_cons mo_qe (.of (ev_dget rfl ((u37.trans ex) _ _ hp fun _ z => nomatch z) rfl) mo_qe (dq_ext (u37.trans ex) dlc)) ps_nil)) fun xs Hy e ps Q' q' => by
      match xs, ps with
      | [x, y], ⟨px, py, _⟩ => exact ⟨rfl, x, y, _, _, rfl, px, py, just_drawn hn2 hcs, fun Hz e3 => q' _ Hz e3 rfl⟩)))) fun _ => et_test (ev_ownL (neg := false) (P := fun x H => ∃ b xs, x = V.ref b ∧ H b = some (.lst xs)) (fun _ _ z => z) (p_var rfl mo_set (mon_set _ _ _ (e7.trans ex) hmd6)) (p_var rfl mo_lsts ⟨ap, _, rfl, (e7.trans ex) _ _ hap6 fun _ z => nomatch z⟩))) rfl) T7 fun H8 e8 T8 => ?_
    have u68 := e7.trans e8
    refine n_when (nt_of (b := false) fun Hx ex => et_is (et_test (ev_own (neg := true) (p_var rfl mo_set (mon_set _ _ _ (u68.trans ex) hmd6)) (p_make (p := u6 so n k cs h) ?a6 (fun ds e => by cases e; rw [show (revOf (cs.map prP)).length = (cs.map prP ++ cs.map prP).length from List.length_reverse, List.length_append, List.length_map]; have := R.len; omega) (w6 R)))) (by rw [n6 R]; rfl)) T8 fun H9 e9 T9 => ?_
    case a6 =>
      have hyx := dq_ext (u68.trans ex) hy6
      exact ps_cons mo_qe (i0 hyx rfl) (ps_cons mo_qe (i1 hyx rfl) (ps_cons mo_qe (i2 hyx rfl) (ps_cons mo_qe (p_rev (q_cat (i3 hyx rfl) (i3 hyx rfl) (by rw [List.length_map]; have := R.len; omega)) (eo_some (ev_un (ev_c (v := .int 1)) ru_neg))) (ps_cons mo_qe (i4 hyx rfl) ps_nil))))
    have u69 := u68.trans e9
    refine n_when (nt_of (b := false) fun Hx ex => et_is (et_not (et_B (EvP.ev (p_call (P := Is (.bl true)) (Ps := [SetV C (settingOf (drawn so n k cs h)), Qe (.list (ptsD so n k cs h))]) (ps_cons mo_set (p_var rfl mo_set (mon_set _ _ _ (u69.trans ex) hmd6)) (ps_cons mo_qe (q_var rfl (dq_ext (u69.trans ex) hy6)) ps_nil)) fun xs Hy e ps Q' q' => by
      match xs, ps with
      | [x, y], ⟨px, py, _⟩ => exact ⟨rfl, x, y, so, n, k, cs, h, rfl, px, py, R, fun Hz e3 => q' _ Hz e3 rfl⟩)))) rfl) T9 fun HA eA TA => ?_
    have u6A := u69.trans eA
    have hnmx : ∀ {Hc : Hp}, ExtN H6 Hc → Dq Hc nm (.list namesD) := fun e => dq_ext (g03.trans ((ExtN.of u36).trans e)) hnm
    have rr : wrong (ptsOf (ptsD so n k cs h)) = none := drawn_right hso hn2 k0 k1 hcs hh
    refine q_unp2 (p_bent (p_var rfl mo_pool (mon_pool _ _ _ u6A hpo6)) (q_var rfl (dq_ext u6A hy6)) rfl) fun at1 d1 bv HB eB ⟨o, hat, ho, hd1⟩ hbv => ?_
    subst hd1
    have u6B := u6A.trans (ExtN.of eB)
    have TB := TA.ext eB
    have len1 : ((ptsD so n k cs h).set at1 o).length = 5 := List.length_set
    have ho' : o ∈ oddAt (.int n) at1 := ho
    have sh1 : Short (at_ ((ptsD so n k cs h).set at1 o) 3) := by
      rw [at_set (show at1 < 5 from hat)]
      split
      · exact odd_short hat ho' (fun ds e => by cases e)
      · exact sc
    refine n_when (tell (i := at1) rfl hbv len1 sh1 (bent_wrong rfl hn2 rr rfl hat ho) hat fun Hx ex => p_ixQ (q_var rfl (hnmx (u6B.trans ex))) (ev_var rfl) (name_at hat)) TB fun HC eC TC => ?_
    have u6C := u6B.trans eC
    refine q_unp2 (p_bent (p_var rfl mo_pool (mon_pool _ _ _ u6C hpo6)) (q_var rfl (dq_ext eC hbv)) len1) fun al d2 wv HD eD ⟨o2, hal, ho2, hd2⟩ hwv => ?_
    subst hd2
    have u6D := u6C.trans (ExtN.of eD)
    have TD := TC.ext eD
    have len2 : (((ptsD so n k cs h).set at1 o).set al o2).length = 5 := by rw [List.length_set]; exact len1
    have sh2 : Short (at_ (((ptsD so n k cs h).set at1 o).set al o2) 3) := by
      rw [at_set (show al < ((ptsD so n k cs h).set at1 o).length by rw [len1]; exact hal)]
      split
      · refine odd_short hal ho2 (fun ds e => ?_)
        rw [at_set (show at1 < 5 from hat)] at e
        split at e
        · rename_i z
          rw [← z] at ho'
          exact absurd e (odd1_flat ho' ds)
        · cases e
      · exact sh1
    refine n_when (nt_is (nt_and (c := false) (nt_of fun Hx ex => et_test (ev_op (ev_var rfl) (ev_var rfl) (rv_ne rfl))) fun c => ?worse) (Bool.and_false _)) TD fun HE eE TE => ?_
    case worse =>
      have ne : al ≠ at1 := fun z => by rw [z] at c; simp at c
      refine tell (i := if at1 < al then at1 else al) rfl hwv len2 sh2 (worse_wrong rfl hn2 rr rfl hat hal ne ho ho2) (by split <;> assumption) fun Hx ex => p_ixQ (i := if at1 < al then at1 else al) (q_var rfl (hnmx (u6D.trans ex))) ?_ (name_at (by split <;> assumption))
      refine ev_if (b := decide ((at1 : Int) < (al : Int))) (et_test (ev_op (ev_var rfl) (ev_var rfl) rv_I0)) (fun c => ?_) fun c => ?_
      · have : at1 < al := by simpa using c
        rw [if_pos this]
        exact ev_var rfl
      · have : ¬ at1 < al := by simpa using c
        rw [if_neg this]
        exact ev_var rfl
    have u6E := u6D.trans eE
    refine q_appNew (e_chsN R (p_var rfl mo_set (mon_set _ _ _ u6E hmd6))) (fun _ _ => ev_c) ?short fun HF eF => ?_
    case short =>
      obtain ⟨es, he⟩ := sort_prs cs
      have := congrArg List.length he
      unfold sortD at this ⊢
      rw [List.length_mergeSort, List.length_map]
      have := R.len
      omega
    have u6F := u6E.trans (ExtN.of eF)
    have TF := TE.ext eF
    have hlF : HF l3 = some (.lst xs) := u6F _ _ hl6 fun _ z => nomatch z
    have hapF : HF ap = some (.lst [.str so, .int n, .int k, .ref l3, .str h]) := u6F _ _ hap6 fun _ z => nomatch z
    have lxs : xs.length ≤ 6 := by rw [dqAll_len hxs, List.length_map]; exact R.len
    refine q_appU hlF (ev_op (ev_var rfl) ev_c (rv_ixL (i := 3) (sq_of hapF) rfl)) (eu_tup (vs := [.int 0, .int 1]) (ea_cons ev_c (ea_cons ev_c ea_nil)) (by decide)) (by omega) fun tp HG _ eG _ => ?_
    have hlG : HG l3 = some (.lst xs) := eG _ _ hlF
    have u3H : ExtN H3 (upd HG l3 (.lst (xs ++ [.ref tp]))) := fun b ob hb nt => by
      rw [upd_ne (fun z => by rw [z, hn3] at hb; cases hb)]
      exact eG _ _ (u6F _ _ (u36 _ _ hb) nt)
    have TH : Tabs T (upd HG l3 (.lst (xs ++ [.ref tp]))) := tabs_lst hlG (TF.ext eG)
    have hmdH : SetV C (settingOf (drawn so n k cs h)) md (upd HG l3 (.lst (xs ++ [.ref tp]))) := set_lst hlG (mo_set _ _ _ eG (mon_set _ _ _ u6F hmd6))
    refine n_whenE (chk_changes R rfl rfl (u3H _ _ hp fun _ z => nomatch z) (dq_ext u3H dlc) hmdH) TH fun HI eI TI => ?_
    exact ⟨_, _, _, _, _, _, _, _, _, rfl, g03.trans (u3H.trans eI), TI⟩
end
end Lw
/-! The law's own call where defs make lambdas (tables of code objects) and no repr is under way. -/
namespace Gd
open PySem PySem.Spec PyProof.Rows L2 Evl Pd LamX
abbrev tabObj : Obj := { cls := .none, data := .fields #[] }
abbrev scrObj (vs : List Value) : Obj := { cls := .type "list", data := .seq vs.toArray }
/-- what the call sees: the tables, empty, and the script where it is not of the fragment -/
structure SeesT (K : PySem.W.Frag) (cs : List (Addr × Addr)) (a : Addr) (vs : List Value) (ns : List Int) (H : Hp) : Prop where
  tab : ∀ p ∈ cs, H p.2 = some (.tbl #[])
  off : ∀ b, (∀ p ∈ cs, b ≠ p.2) → H b = none ∨ (b = a ∧ K.lookup a = none ∧ H b = some (.frz (scrObj vs) (.lst (ns.map V.int))))
  scr : (∀ p ∈ cs, a ≠ p.2) → K.lookup a = none → H a = some (.frz (scrObj vs) (.lst (ns.map V.int)))
open Classical in
theorem seesT_ex (K : PySem.W.Frag) (cs : List (Addr × Addr)) (a : Addr) (vs : List Value) (ns : List Int) : ∃ H, SeesT K cs a vs ns H := by
  refine ⟨fun b => if ∃ p ∈ cs, b = p.2 then some (.tbl #[]) else if b = a ∧ K.lookup a = none then some (.frz (scrObj vs) (.lst (ns.map V.int))) else none, fun p hp => if_pos ⟨p, hp, rfl⟩, fun b nb => ?_, fun na nk => ?_⟩
  · have n1 : ¬ ∃ p ∈ cs, b = p.2 := fun ⟨p, hp, e⟩ => nb p hp e
    by_cases c : b = a ∧ K.lookup a = none
    · exact .inr ⟨c.1, c.2, by rw [if_neg n1, if_pos c]⟩
    · exact .inl (by rw [if_neg n1, if_neg c])
  · have n1 : ¬ ∃ p ∈ cs, a = p.2 := fun ⟨p, hp, e⟩ => na p hp e
    show (if _ then _ else _) = _
    rw [if_neg n1, if_pos ⟨rfl, nk⟩]
section
variable {P : Program} {w : World} {K : PySem.W.Frag} {mg mb : Str → Option Value} {k : Nat} {fa a : Addr} {fd : FuncData} {x : Str} {sp : Sp} {s1 : Shared} {vs : List Value} {ns : List Int} {cs : List (Addr × Addr)} {H : Hp}
theorem SeesT.kind (S : SeesT K cs a vs ns H) (hT : ∀ p ∈ cs, s1.heap.get? p.2 = some tabObj) (ha : s1.heap.get? a = some (scrObj vs)) {b : Addr} {o : Obj} (e : s1.heap.get? b = some o) : H b = none ∨ o = tabObj ∨ o = scrObj vs := by
  by_cases c : ∃ p ∈ cs, b = p.2
  · obtain ⟨p, hp, rfl⟩ := c
    exact .inr (.inl (Option.some.inj (e.symm.trans (hT p hp))))
  · rcases S.off b (fun p hp z => c ⟨p, hp, z⟩) with z | ⟨rfl, _, _⟩
    · exact .inl z
    · exact .inr (.inr (Option.some.inj (e.symm.trans ha)))
theorem SeesT.dict (S : SeesT K cs a vs ns H) (hT : ∀ p ∈ cs, s1.heap.get? p.2 = some tabObj) (ha : s1.heap.get? a = some (scrObj vs)) {b : Addr} {o : Obj} {es : Array DictEntry} {ep : Nat} (e : s1.heap.get? b = some o) (d : o.data = .dict es ep) : H b = none := by
  rcases S.kind hT ha e with z | rfl | rfl
  · exact z
  · cases d
  · cases d
theorem SeesT.frag (S : SeesT K cs a vs ns H) (nT : ∀ p ∈ cs, K.lookup p.2 = none) {b : Addr} {o : Obj} (e : K.lookup b = some o) : H b = none := by
  by_cases c : ∃ p ∈ cs, b = p.2
  · obtain ⟨p, hp, rfl⟩ := c
    rw [nT p hp] at e
    cases e
  · rcases S.off b (fun p hp z => c ⟨p, hp, z⟩) with z | ⟨rfl, n, _⟩
    · exact z
    · rw [n] at e
      cases e
theorem law_callTG (KX : K.In s1.heap) (hns : s1.heap.Ns mainGlobals mg) (hb : s1.heap.Ns builtinsNs mb) (hbb : ∀ x : Str, x ≠ "__name__" → mb x = bootBuiltins x) (lim : s1.heap.NoLimit) (hg : s1.gens = #[]) (hT : ∀ p ∈ cs, s1.heap.get? p.2 = some tabObj) (nT : ∀ p ∈ cs, K.lookup p.2 = none)
    (C : ∀ p ∈ cs, PySem.W.CodeHd s1.heap p.1 p.2) (hbm : ∃ (bm : Addr) (ob : Obj), mg "__builtins__" = some (.ref bm) ∧ bm ≠ builtinsNs ∧ s1.heap.get? bm = some ob ∧ ob.cls = .type "module" ∧ ob.dict = some builtinsNs ∧ ob.data = .plain) (ha : s1.heap.get? a = some (scrObj vs))
    (hi : IntsAre vs ns) (hl : ns.length ≤ sizeLine) (hr : Room k callerA) (F : ∀ base : Heap, K.In base → base.Ns mainGlobals mg → (∀ p ∈ cs, TabB base mg p.1 p.2) → FnG P w K mg base CX0 k fa fd [x] sp) (hbind : ∀ (s : Shared) (u : Value), BindsTo s fd ⟨[u], []⟩ [(x, u)])
    (hsp : ∀ H : Hp, (∀ p ∈ cs, H p.2 = some (.tbl #[])) → SqL K H a (ns.map V.int) → sp [.ref a] H (fun v _ => v = .bl true) fun _ _ _ => False) :
    codeAny (model P w) callerA (.call (.ref fa) ⟨[.ref a], []⟩) (fun r s' => r = .ok (.ret (.bool true)) ∧ OldK s1.heap s'.heap ∧ s'.os = s1.os ∧ AllBare s'.gens) s1 := by
  have rv := vals_ints hi
  obtain ⟨H, S⟩ := seesT_ex K cs a vs ns
  have na : ∀ p ∈ cs, a ≠ p.2 := fun p hp z => by
    have e := hT p hp
    rw [← z, ha] at e
    cases e
  have hS : SqL K H a (ns.map V.int) := by
    cases hk : K.lookup a with
    | none => exact .inl (.inr ⟨_, S.scr na hk⟩)
    | some o =>
      have e := KX a o hk
      rw [ha] at e
      cases e
      exact .inr ⟨_, vs.toArray, _, hk, rfl, rfl, rfl, by rw [List.size_toArray, hi.length]; exact hl, by simpa using rv⟩
  have ok : HOk P w H s1.heap := fun b u e => by
    by_cases c : ∃ p ∈ cs, b = p.2
    · obtain ⟨p, hp, rfl⟩ := c
      rw [S.tab p hp] at e
      cases e
      exact hT p hp
    · rcases S.off b (fun p hp z => c ⟨p, hp, z⟩) with z | ⟨rfl, _, z⟩
      · rw [z] at e
        cases e
      · rw [z] at e
        cases e
        exact ⟨ha, by rw [List.length_map]; exact hl, vs, _, rv, ha⟩
  have nsB : ∀ {b : Addr} {m : Str → Option Value}, s1.heap.Ns b m → (hidT s1.heap H).Ns b m := fun ⟨o, es, ep, e, d, r⟩ => ⟨o, es, ep, hidT_get e (S.dict hT ha e d), d, r⟩
  have KB : K.In (hidT s1.heap H) := fun b o e => hidT_get (KX b o e) (S.frag nT e)
  have M : Mod K mg (hidT s1.heap H) := ⟨KB, nsB hns, ⟨mb, nsB hb, hbb⟩, let ⟨mc, h1, h2⟩ := lim; ⟨mc, nsB h1, h2⟩⟩
  have gT : ∀ p ∈ cs, mainGlobals ≠ p.2 := fun p hp z => by
    obtain ⟨o, es, ep, e, hd, _⟩ := hns
    rw [z, hT p hp] at e
    cases e
    cases hd
  have TB : ∀ p ∈ cs, TabB (hidT s1.heap H) mg p.1 p.2 := fun p hp => by
    refine ⟨?_, ?_, gT p hp⟩
    · obtain ⟨o, us, file, tf, flags, tg, inF, text, tt, e1, r1, r2, r3, rest⟩ := C p hp
      refine ⟨o, us, file, tf, flags, tg, inF, text, tt, hidT_get e1 ?_, r1, r2, r3, rest⟩
      rcases S.kind hT ha e1 with z | rfl | rfl
      · exact z
      · cases r1
      · injection (show Value.type "list" = Value.type "code" from r1) with z
        exact absurd z (by decide)
    · obtain ⟨bm, ob, b1, b2, b3, b4, b5, b6⟩ := hbm
      refine ⟨bm, ob, b1, b2, fun q => ?_, fun q => ?_, hidT_get b3 ?_, b4, b5, b6⟩
      · obtain ⟨o, es, ep, e, hd, _⟩ := hns
        rw [q, e] at b3
        cases b3
        rw [hd] at b6
        cases b6
      · rw [q, hT p hp] at b3
        cases b3
        cases b4
      · rcases S.kind hT ha b3 with z | rfl | rfl
        · exact z
        · cases b4
        · injection (show Value.type "list" = Value.type "module" from b4) with z
          exact absurd z (by decide)
  have e0 : Env0 P w K mg (hidT s1.heap H) callerA [] s1 H := ⟨rfl, M, fun b o e => of_hidT e, Nat.le_of_eq (hidT_size _ _), trivial, fun b hb => (nomatch hb), ok, .of_eq hg⟩
  refine codeAny_mono ((F _ KB (nsB hns) TB).run callerA [] s1 H ⟨[.ref a], []⟩ [.ref a] [.ref a] _ _ hr rfl e0 (hbind s1 (.ref a)) (.cons rfl .nil) (hsp H S.tab hS)) fun r s' h => ?_
  cases r with
  | error e => exact h.elim
  | ok fl =>
    cases fl with
    | next => exact h.elim
    | brk => exact h.elim
    | cont => exact h.elim
    | ret u =>
      obtain ⟨v, H', os, bare, un, ok', r', q⟩ := h
      cases (show v = .bl true from q)
      cases (show u = Value.bool true from r')
      have stays : ∀ b o, s1.heap.get? b = some o → s'.heap.get? b = some o ∨ ∃ p ∈ cs, b = p.2 ∧ o = tabObj ∧ ∃ more : Array Value, s'.heap.get? b = some { cls := .none, data := .fields more } := fun b o e => by
        by_cases c : ∃ p ∈ cs, b = p.2
        · obtain ⟨p, hp, rfl⟩ := c
          obtain ⟨more, z⟩ := un.tbls p.2 #[] (S.tab p hp)
          exact .inr ⟨p, hp, rfl, Option.some.inj (e.symm.trans (hT p hp)), _, ok' p.2 _ z⟩
        · refine .inl ?_
          rcases S.off b (fun p hp z => c ⟨p, hp, z⟩) with z | ⟨rfl, _, z⟩
          · exact un.keep b o e z (fun m => nomatch (show b ∈ ([] : List Addr) from m)) (fun m => nomatch m)
          · have g2 := (ok' b _ (un.frzs b _ _ z)).1
            rw [ha] at e
            cases e
            exact g2
      refine ⟨rfl, ⟨fun b o e => ?_, fun b o e => ?_⟩, os, bare⟩
      · rcases stays b o e with z | ⟨p, hp, rfl, rfl, more, z⟩
        · exact .inl z
        · exact .inr (.inl ⟨((C p hp).tab (hT p hp)).isCodeTable, rfl, #[], more, rfl, by rw [Array.empty_append]; exact z⟩)
      · rcases stays b o e with z | ⟨p, hp, rfl, rfl, more, z⟩
        · exact ⟨o, z⟩
        · exact ⟨_, z⟩
end
/-- the law's promise at the head's heap -/
structure LawG (l : PySem.W.OpenLaw) (w : World) (K : PySem.W.Frag) (k n : Nat) (x : Str) (mg : Str → Option Value) (fa : Addr) (h : Heap) : Prop where
  ex : ∃ (fd : FuncData) (cs : List (Addr × Addr)) (sp : Sp), (∀ p ∈ cs, h.get? p.2 = some tabObj) ∧ (∀ p ∈ cs, K.lookup p.2 = none) ∧ (∀ p ∈ cs, PySem.W.CodeHd h p.1 p.2) ∧ (∀ (s : Shared) (u : Value), BindsTo s fd ⟨[u], []⟩ [(x, u)]) ∧
    (∀ (H : Hp) (a : Addr) (ns : List Int), ns.length ≤ n → (∀ p ∈ cs, H p.2 = some (.tbl #[])) → SqL K H a (ns.map V.int) → sp [.ref a] H (fun v _ => v = .bl true) fun _ _ _ => False) ∧ ∀ base : Heap, K.In base → base.Ns mainGlobals mg → (∀ p ∈ cs, TabB base mg p.1 p.2) → FnG l.prog w K mg base CX0 k fa fd [x] sp
theorem walk_ofTG {l : PySem.W.OpenLaw} {n k : Nat} {q : Program} {loose : List Str} {XP : (Str → Option Value) → Heap → Prop} {YP : World → Heap → Prop} {d : DefRec} {K : Params → PySem.W.Frag} {x : Str} (hn : l.most = some n) (hn2 : n ≤ sizeLine) (hdf : d.params.defaults = []) (hr : Room k callerA)
    (hY : ∀ (w : World) (h : Heap), YP w h → (K w.params).In h) (F : ∀ (w : World) (mg : Str → Option Value) (fa : Addr) (h : Heap), YP w h → (K w.params).In h → h.Ns mainGlobals mg → mg d.name = some (.ref fa) → LawG l w (K w.params) k n x mg fa h) :
    PySem.W.WalkO q loose XP YP l.row.toRowW d [] (fun f vs => PySem.call f vs) := by
  refine Att.attach_callB hn hdf fun w s0 s1 mg mb fa o pm cd doc a vs ns G Y ho hd hcd hmg hobj hints hlen _ hg => ?_
  obtain ⟨fd, cs, sp, h1, h2, h3, h4, h5, h6⟩ := (F w mg fa _ Y (hY w _ Y) G.T.g hmg).ex
  exact law_callTG (hY w _ Y) G.T.g G.T.b G.T.builtins G.T.nolimit hg h1 h2 h3 G.T.bmain hobj hints (Nat.le_trans hlen hn2) hr h6 h4 fun H e1 e2 => h5 H a ns hlen e1 e2
end Gd
set_option maxHeartbeats 1000000
/-! What the top has left, as facts of the written part. -/
namespace Lw
open PySem PySem.Spec PyProof.Rows L2 Evl Pd Gd Us Chk LamX LamK
section
variable {K : PySem.W.Frag} {h : Heap} {mg : Str → Option Value} {f : Addr} {x qual : Str} {st : Stmt} {od an : Option Addr} {sl : Array (Option Value)} {oc kV dc pm cd ct : Value}
theorem dnU (X : K.In h) (G : h.Ns mainGlobals mg) (a : PySem.W.nsIn K mainGlobals x = some (some (.ref f))) (l : K.lookup f = some ⟨oc, od, .func (PySem.W.fnOf x x (defArgs st) (defBody st) (defScope st) .none kV dc pm an cd ct), sl⟩)
    (c : PySem.W.codeIn K cd x = true) (k : PySem.W.keepIn K (.ref f) = true) : Us.Dn K mg x st := ⟨f, _, PySem.W.mg_of X G a, k, fun_mk l c k⟩
theorem funC {c : Addr} (l : K.lookup f = some ⟨oc, od, .func (PySem.W.fnOf x x (defArgs st) (defBody st) (defScope st) .none kV dc pm an (.ref c) ct), sl⟩) (hc : PySem.W.codeIn K (.ref c) x = true) : FunC K x x st f (PySem.W.fnOf x x (defArgs st) (defBody st) (defScope st) .none kV dc pm an (.ref c) ct) c :=
  ⟨oc, od, kV, dc, pm, an, ct, sl, rfl, l, hc⟩
theorem funB (X : K.In h) (G : h.Ns mainGlobals mg) (a : PySem.W.nsIn K mainGlobals x = some (some (.ref f))) (l : K.lookup f = some ⟨oc, od, .func (PySem.W.fnOf x x (defArgs st) (defBody st) (defScope st) .none kV dc pm an cd ct), sl⟩)
    (c : PySem.W.codeIn K cd x = true) (k : PySem.W.keepIn K (.ref f) = true) : FunB K mg x st f := ⟨PySem.W.mg_of X G a, k, oc, od, kV, dc, pm, an, cd, ct, sl, l, c⟩
theorem cat (X : K.In h) (G : h.Ns mainGlobals mg) (a : PySem.W.nsIn K mainGlobals x = some (some (.ref f))) : Cat mg x := ⟨f, PySem.W.mg_of X G a⟩
theorem errU {C CP fI N : Addr} {g qn nm q : Str} {bs : List Value} {sn : List Str} {sub : List Value} {ab : Bool} {col : Option Bool} {dd : Option Addr} {m0 m1 m2 m3 m5 : Option Value} {p1 p2 q1 q2 q3 q4 : Pos}
    (b : K.lookup C = some (excClassObj nm q C N bs [.ref CP, .type "Exception", .type "BaseException", .type "object"] true sn sub ab col dd m0 m1 m2 m3 m5 "Exception.__new__"))
    (sa : PySem.W.findIn K (.ref C) "__setattr__" = some (some (.builtin "object.__setattr__"))) (ga : PySem.W.findIn K (.ref C) "__getattribute__" = some (some (.builtin "BaseException.__getattribute__"))) (gg : PySem.W.findIn K (.ref C) "__getattr__" = some none) (nf : PySem.W.findIn K (.ref C) g = some none)
    (i : PySem.W.findIn K (.ref C) "__init__" = some (some (.ref fI))) (t : PySem.W.typeIn K (.ref fI) = some (.type "function")) (l : K.lookup fI = some ⟨oc, od, .func (PySem.W.fnOf "__init__" qn (Err.iA g p1 p2) (Err.iB g q1 q2 q3 q4) (Err.iS g) .none .none dc pm an cd ct), sl⟩) (c : PySem.W.codeIn K cd qn = true)
    (kC : PySem.W.keepIn K (.ref C) = true) (eC : PySem.W.subIn K (.ref C) (.type "BaseException") = some true) (tC : PySem.W.typeIn K (.ref C) = some (.type "type")) (hC : PySem.W.hasDictIn K C = true) : Err.ErrC K C fI g :=
  ⟨⟨nm, q, N, bs, _, sn, sub, ab, col, dd, m0, m1, m2, m3, m5, b, .cons CP .base⟩, sa, ga, gg, nf, i, t, kC, eC, tC, hC, ⟨qn, oc, od, dc, pm, an, cd, ct, sl, p1, p2, q1, q2, q3, q4, l, c⟩⟩
theorem txgU {p : Addr} {od : Option Addr} {n : Nat} {xs : List Str} {its : Array Value} (X : K.In h) (G : h.Ns mainGlobals mg) (a : PySem.W.nsIn K mainGlobals x = some (some (.ref p))) (l : K.lookup p = some ⟨.type "tuple", od, .seq its n, sl⟩) (z : its.size ≤ sizeLine) (v : Vals (xs.map V.str) its.toList) : TxG K mg x xs :=
  ⟨p, PySem.W.mg_of X G a, fun H => .inr ⟨_, its, n, l, rfl, rfl, z, v⟩⟩
end
section
variable {P : Program} {w : World} {K : PySem.W.Frag} {mg : Str → Option Value} {base : Heap} {C CB : Addr}
/-- the raw facts of the class -/
structure RawC (K : PySem.W.Frag) (mg : Str → Option Value) (C CB : Addr) : Prop where
  mS : mg "Setting" = some (.ref C)
  T : ClsS K C
  make : ∃ fI fd, Mk K C fI ∧ Fun K "__init__" "Setting.__init__" mInit fI fd
  lets : ∃ f fd, Meth K C "lets" f ∧ Fun K "lets" "Setting.lets" mLets f fd
  chs : ∃ f fd, Meth K C "changes" f ∧ Fun K "changes" "Setting.changes" mChanges f fd
  eq : ∃ f fd, OwnNe.EqC K C f ∧ Fun K "__eq__" "Setting.__eq__" mEq f fd
  ins : C8.InsC K C
  kl : PySem.W.kitOne K (.type "list") (.ref C) = some false
  nl : PySem.W.notFirst K C (.type "list") = true
  kind : ∃ p g fd, PropOf K C "kind" p g ∧ Fun K "kind" "Setting.kind" mKind g fd
  size : ∃ p g fd, PropOf K C "size" p g ∧ Fun K "size" "Setting.size" mSize g fd
  start : ∃ p g fd, PropOf K C "start" p g ∧ Fun K "start" "Setting.start" mStart g fd
  hold : ∃ p g fd, PropOf K C "hold" p g ∧ Fun K "hold" "Setting.hold" mHold g fd
  mB : mg "BadSetting" = some (.ref CB)
  err : ∃ fB, Err.ErrC K CB fB "part"
theorem setC_of (R : RawC K mg C CB) (B : Bc mg) (bs : mg "sorted" = none) (UI : Use P w K mg base 1 "is_integer" ["value"] (spAsk K 1 (rInteger K))) (UW : Use P w K mg base 5 "wrong_part" ["sort", "size", "start", "changes", "hold"] (spWrong K)) : SetC P w K mg base C CB := by
  obtain ⟨fI, fdI, mk, FI⟩ := R.make
  obtain ⟨fL, fdL, mL, FL⟩ := R.lets
  obtain ⟨fC, fdC, mC, FC⟩ := R.chs
  obtain ⟨fE, fdE, mE, FE⟩ := R.eq
  obtain ⟨p1, g1, fd1, P1, F1⟩ := R.kind
  obtain ⟨p2, g2, fd2, P2, F2⟩ := R.size
  obtain ⟨p3, g3, fd3, P3, F3⟩ := R.start
  obtain ⟨p4, g4, fd4, P4, F4⟩ := R.hold
  obtain ⟨fB, EB⟩ := R.err
  exact {
    mS := R.mS
    T := R.T
    make := ⟨fI, fdI, mk, FI.binds (ps := psInit) (fun _ _ _ _ _ _ us hl => match us, hl with | [_, _, _, _, _, _], _ => rfl), ok_init FI EB R.mB R.T UW⟩
    lets := ⟨fL, fdL, mL, FL.binds (ps := ["self", "one", "other"]) (fun _ _ _ _ _ _ us hl => match us, hl with | [_, _, _], _ => rfl), ok_lets FL R.T UI⟩
    chs := ⟨fC, fdC, mC, FC.binds (ps := ["self"]) (fun _ _ _ _ _ _ us hl => match us, hl with | [_], _ => rfl), ok_chs FC R.T bs B.list B.str⟩
    eq := ⟨fE, fdE, mE, FE.binds (ps := ["self", "other"]) (fun _ _ _ _ _ _ us hl => match us, hl with | [_, _], _ => rfl), ok_eqS FE B R.mS R.T R.ins R.kl⟩
    nl := R.nl
    kind := ⟨p1, g1, fd1, P1, F1.binds (ps := ["self"]) (fun _ _ _ _ _ _ us hl => match us, hl with | [_], _ => rfl), ok_get F1 scKind rfl R.T.cl R.T.kind⟩
    size := ⟨p2, g2, fd2, P2, F2.binds (ps := ["self"]) (fun _ _ _ _ _ _ us hl => match us, hl with | [_], _ => rfl), ok_get F2 scSize rfl R.T.cl R.T.size⟩
    start := ⟨p3, g3, fd3, P3, F3.binds (ps := ["self"]) (fun _ _ _ _ _ _ us hl => match us, hl with | [_], _ => rfl), ok_get F3 scStart rfl R.T.cl R.T.start⟩
    hold := ⟨p4, g4, fd4, P4, F4.binds (ps := ["self"]) (fun _ _ _ _ _ _ us hl => match us, hl with | [_], _ => rfl), ok_get F4 scHoldP rfl R.T.cl R.T.hold⟩ }
/-- the rest of the top -/
structure RawD (K : PySem.W.Frag) (mg : Str → Option Value) : Prop where
  B : Bc mg
  max : mg "max" = none
  range : mg "range" = none
  sorted : mg "sorted" = none
  repr : mg "repr" = none
  integer : Us.Dn K mg "is_integer" sIsInteger
  between : Us.Dn K mg "is_between" sIsBetween
  oneOf : Us.Dn K mg "is_one_of" sIsOneOf
  row : Us.Dn K mg "is_row" sIsRow
  pair : Us.Dn K mg "is_pair" sIsPair
  changes : Us.Dn K mg "are_changes" sAreChanges
  hold : Us.Dn K mg "is_hold" sIsHold
  wrong : Us.Dn K mg "wrong_part" sWrongPart
  sorts : TxG K mg "SORTS" Chk.sorts
  holds : TxG K mg "HOLDS" Chk.holds
  numbers : Us.Dn K mg "_law_numbers" sNumbers
  pool : Us.Dn K mg "_law_pool" sPool
  draw : Us.Dn K mg "_law_draw" sDraw
  pick : Us.Dn K mg "_law_pick" sPick
  lchanges : Us.Dn K mg "_law_changes" sChanges
  setting : Us.Dn K mg "_law_setting" sSetting
  turn : Us.Dn K mg "_law_turn_pool" sTurnPool
  bent : Us.Dn K mg "_law_bent" sBent
  just : Us.Dn K mg "_law_lets_just" sJust
  unl : Us.Dn K mg "_law_unlike_by_each" sUnlike
structure RawT (K : PySem.W.Frag) (mg : Str → Option Value) (CB cS cT : Addr) : Prop where
  srt : ∃ f fd, mg "_law_sorted" = some (.ref f) ∧ PySem.W.keepIn K (.ref f) = true ∧ FunC K "_law_sorted" "_law_sorted" sSorted f fd cS
  told : ∃ f fd, mg "_law_told" = some (.ref f) ∧ PySem.W.keepIn K (.ref f) = true ∧ FunC K "_law_told" "_law_told" sTold f fd cT
  bad : ∃ g, FunB K mg "_law_bad" sBad g
  me : PySem.W.exmOne K (.ref CB) (.ref CB) = some true
  c1 : Cat mg "BadEnd"
  c2 : Cat mg "BadPact"
  c3 : Cat mg "BadName"
  c4 : Cat mg "BadDeed"
  c5 : Cat mg "BadArgument"
  c6 : Cat mg "BadState"
  c7 : Cat mg "BadMove"
  c8 : Cat mg "BadScript"
  c9 : Cat mg "BadClaim"
  c10 : Cat mg "PactError"
abbrev qS : Str := "_law_sorted.<locals>.<lambda>"
abbrev qT : Str := "_law_told.<locals>.<lambda>"
theorem FunC.binds {x : Str} {st : Stmt} {f c : Addr} {fd : FuncData} {ps : List Str} (F : FunC K x x st f fd c) (k : PySem.W.keepIn K (.ref f) = true) (h : ∀ {fd : FuncData}, Fun K x x st f fd → L2.Binds K fd ps []) : L2.Binds K fd ps [] := by
  obtain ⟨oc, od, kV, doc, pm, an, ct, osl, rfl, l, hc⟩ := F.ex
  exact h (fun_mk l hc k)
theorem calls_of {cS cT PS PT : Addr} (D : RawD K mg) (R : RawC K mg C CB) (U : RawT K mg CB cS cT) (ne : PS ≠ PT) (TS : TabB base mg cS PS) (TT : TabB base mg cT PT) : Calls P w K mg base C CB [(PS, qS), (PT, qT)] := by
  have bt : Bt mg := ⟨D.B.len, D.B.int, D.range, D.max⟩
  have ui : Use P w K mg base 1 "is_integer" ["value"] (spAsk K 1 (rInteger K)) := ok_integer D.integer D.B
  have ub : Use P w K mg base 2 "is_between" ["value", "low", "high"] (spAsk K 3 (rBetween K)) := ok_between D.between ui
  have uo : Use P w K mg base 1 "is_one_of" ["value", "texts"] (spAsk K 2 (rOneOf K)) := ok_oneOf D.oneOf D.B
  have ur : Use P w K mg base 1 "is_row" ["value", "many"] (spAsk K 2 (rRow K)) := ok_row D.row D.B
  have up : Use P w K mg base 3 "is_pair" ["value", "low", "high"] (spAsk K 3 (rPair K)) := ok_pair D.pair ur ub
  have uc : Use P w K mg base 4 "are_changes" ["value", "size"] (spAsk K 2 (rChanges K)) := ok_changes D.changes D.B up
  have uh : Use P w K mg base 2 "is_hold" ["value", "sort"] (spAsk K 2 (rHold K)) := ok_hold D.hold D.holds uo
  have uw : Use P w K mg base 5 "wrong_part" ["sort", "size", "start", "changes", "hold"] (spWrong K) := ok_wrong D.wrong D.sorts uo ub uc uh
  have S : SetC P w K mg base C CB := setC_of R D.B D.sorted ui uw
  obtain ⟨fN, fdN, gN, kN, FN⟩ := D.numbers.ex
  obtain ⟨fP, fdP, gP, kP, FP⟩ := D.pool.ex
  obtain ⟨fD, fdD, gD, kD, FD⟩ := D.draw.ex
  obtain ⟨fK, fdK, gK, kK, FK⟩ := D.pick.ex
  have bN : L2.Binds K fdN ["cell", "salt", "sizes"] [] := FN.binds (ps := ["cell", "salt", "sizes"]) fun _ _ _ _ _ _ us hl => match us, hl with | [_, _, _], _ => rfl
  have bP : L2.Binds K fdP ["cell", "salt", "many"] [] := FP.binds (ps := ["cell", "salt", "many"]) fun _ _ _ _ _ _ us hl => match us, hl with | [_, _, _], _ => rfl
  have bD : L2.Binds K fdD ["pool", "many"] [] := FD.binds (ps := ["pool", "many"]) fun _ _ _ _ _ _ us hl => match us, hl with | [_, _], _ => rfl
  have bK : L2.Binds K fdK ["pool", "some"] [] := FK.binds (ps := ["pool", "some"]) fun _ _ _ _ _ _ us hl => match us, hl with | [_, _], _ => rfl
  have oN := ok_numbers (P := P) (w := w) (base := base) FN bt
  have oD := ok_draw (P := P) (w := w) (base := base) FD bt
  have uPl : Use P w K mg base 2 "_law_pool" ["cell", "salt", "many"] (spPool K) := ⟨fP, fdP, gP, kP, bP, ok_pool FP oN gN kN bN⟩
  have uDr : Use P w K mg base 1 "_law_draw" ["pool", "many"] (spDraw K) := ⟨fD, fdD, gD, kD, bD, oD⟩
  have uPk : Use P w K mg base 2 "_law_pick" ["pool", "some"] (spPick K) := ⟨fK, fdK, gK, kK, bK, ok_pick FK bt oD gD kD bD⟩
  have uCh : Use P w K mg base 2 "_law_changes" ["pool", "size"] (spCh K) := ok_ch D.lchanges uDr
  obtain ⟨fS, fdS, gS, kS, FS⟩ := U.srt
  obtain ⟨fT, fdT, gT, kT, FT⟩ := U.told
  obtain ⟨g, FB⟩ := U.bad
  obtain ⟨fE, EB⟩ := R.err
  have uS : ∀ p ∈ [(PS, qS), (PT, qT)], p.1 = PS → p.2 = qS := fun p hp e => by
    simp only [List.mem_cons, List.not_mem_nil, or_false] at hp
    rcases hp with rfl | rfl
    · rfl
    · exact absurd e.symm ne
  have uT : ∀ p ∈ [(PS, qS), (PT, qT)], p.1 = PT → p.2 = qT := fun p hp e => by
    simp only [List.mem_cons, List.not_mem_nil, or_false] at hp
    rcases hp with rfl | rfl
    · exact absurd e ne
    · rfl
  exact {
    turn := ok_turn D.turn bt uPl
    setting := ok_setting D.setting uDr uCh uPk
    pick := uPk
    just := ok_just D.just S D.range D.repr
    unl := ok_unl D.unl S D.B.int
    bent := ok_bent D.bent uDr uPk
    cls := S
    srt := ⟨fS, fdS, gS, kS, FunC.binds FS kS (fun F => F.binds (ps := ["some"]) fun _ _ _ _ _ _ us hl => match us, hl with | [_], _ => rfl), ok_sorted FS TS List.mem_cons_self uS D.sorted D.B.str⟩
    told := ⟨fT, fdT, gT, kT, FunC.binds FT kT (fun F => F.binds (ps := ["parts"]) fun _ _ _ _ _ _ us hl => match us, hl with | [_], _ => rfl), ok_told FT TT (List.mem_cons_of_mem _ List.mem_cons_self) uT FB S EB R.mB U.me U.c1 U.c2 U.c3 U.c4 U.c5 U.c6 U.c7 U.c8 U.c9 U.c10⟩
    range := D.range
    list := D.B.list }
theorem law_of {l : PySem.W.OpenLaw} {h : Heap} {cS cT PS PT fa : Addr} (D : RawD K mg) (R : RawC K mg C CB) (U : RawT K mg CB cS cT) (ne : PS ≠ PT) (L : ∃ fd, mg "law" = some (.ref fa) ∧ Fun K "law" "law" sLaw fa fd)
    (tS : h.get? PS = some tabObj) (tT : h.get? PT = some tabObj) (nS : K.lookup PS = none) (nT : K.lookup PT = none) (hS : PySem.W.CodeHd h cS PS) (hT : PySem.W.CodeHd h cT PT) : LawG l w K 11 63 "script" mg fa h := by
  obtain ⟨fd, _, F⟩ := L
  refine ⟨fd, [(cS, PS), (cT, PT)], spLawS [(PS, qS), (PT, qT)] K, ?_, ?_, ?_, ?_, fun H a ns hl hH hS' => ⟨rfl, a, ns, rfl, hS', hl, ?_, fun _ => rfl⟩, fun base _ _ TB => ok_law F (calls_of D R U ne (TB (cS, PS) List.mem_cons_self) (TB (cT, PT) (List.mem_cons_of_mem _ List.mem_cons_self)))⟩
  · intro p hp
    simp only [List.mem_cons, List.not_mem_nil, or_false] at hp
    rcases hp with rfl | rfl <;> assumption
  · intro p hp
    simp only [List.mem_cons, List.not_mem_nil, or_false] at hp
    rcases hp with rfl | rfl <;> assumption
  · intro p hp
    simp only [List.mem_cons, List.not_mem_nil, or_false] at hp
    rcases hp with rfl | rfl <;> assumption
  · obtain ⟨oc, od, kV, doc, pm, an, cdv, ct, osl, rfl, lk, hcd⟩ := F.ex
    exact fun s v => .of_eq rfl
  · intro p hp
    simp only [List.mem_cons, List.not_mem_nil, or_false] at hp
    rcases hp with rfl | rfl
    · exact TabS.nil (hH (cS, PS) List.mem_cons_self)
    · exact TabS.nil (hH (cT, PT) (List.mem_cons_of_mem _ List.mem_cons_self))
end
end Lw
namespace Lw
open PySem PySem.Spec PyProof.Rows L2 Evl Pd Gd Us Chk LamX LamK
theorem lawU {K : PySem.W.Frag} {h : Heap} {mg : Str → Option Value} {f fa : Addr} {od an : Option Addr} {sl : Array (Option Value)} {oc kV dc pm cd ct : Value} (X : K.In h) (G : h.Ns mainGlobals mg) (hm : mg "law" = some (.ref fa)) (a : PySem.W.nsIn K mainGlobals "law" = some (some (.ref f)))
    (l : K.lookup f = some ⟨oc, od, .func (PySem.W.fnOf "law" "law" (defArgs sLaw) (defBody sLaw) (defScope sLaw) .none kV dc pm an cd ct), sl⟩) (c : PySem.W.codeIn K cd "law" = true) (k : PySem.W.keepIn K (.ref f) = true) : ∃ fd, mg "law" = some (.ref fa) ∧ Fun K "law" "law" sLaw fa fd := by
  have e := hm.symm.trans (PySem.W.mg_of X G a)
  cases e
  exact ⟨_, hm, fun_mk l c k⟩
end Lw
namespace Lw
open PySem PySem.Spec PyProof.Rows L2 Evl Pd Gd Us Chk LamX LamK
theorem propU {K : PySem.W.Frag} {C p g : Addr} {x q : Str} {st : Stmt} {od an : Option Addr} {sl : Array (Option Value)} {oc kV dc pm cd ct : Value} {rest : List Value} (a : PySem.W.findIn K (.ref C) x = some (some (.ref p))) (b : PySem.W.specialIn K (.ref p) "__get__" = some (some (.builtin "property.__get__"))) (t : PySem.W.takesIn K (.ref p) = some true)
    (r : PySem.W.recIn K p "property" = some (.ref g :: rest)) (l : K.lookup g = some ⟨oc, od, .func (PySem.W.fnOf x q (defArgs st) (defBody st) (defScope st) .none kV dc pm an cd ct), sl⟩) (c : PySem.W.codeIn K cd q = true) (k : PySem.W.keepIn K (.ref g) = true) : ∃ p g fd, PropOf K C x p g ∧ Fun K x q st g fd :=
  ⟨p, g, _, ⟨a, b, t, ⟨rest, r⟩⟩, fun_mk l c k⟩
end Lw
open PySem PySem.W PyProof.Rows
set_option maxRecDepth 100000 in
set_option maxHeartbeats 0 in
theorem PySem.Challenge.cw_answeredsettings_k01_settings_made_holds : PySem.Challenge.rw_answeredsettings_k01_settings_made.Holds := by
  w_on; o_law; k_head; (case hw => w_witness2)
  k_fill
  refine Gd.walk_ofTG (l := PySem.Challenge.rw_answeredsettings_k01_settings_made) (n := 63) (k := 11) (x := "script") rfl (by decide) rfl ⟨rfl, by decide, by decide⟩ (fun w h Y => PySem.W.km_in_of Y) ?F
  case F =>
    intro w mg fa h Y KX G hmg
    have hT8 := PySem.W.km_tabs_of Y
    clear Y
    refine' Lw.law_of (PS := 375) (PT := 415)
      ⟨⟨(PySem.W.mg_none_of KX G ?z0), (PySem.W.mg_none_of KX G ?z1), (PySem.W.mg_none_of KX G ?z2), (PySem.W.mg_none_of KX G ?z3), (PySem.W.mg_none_of KX G ?z4), (PySem.W.mg_none_of KX G ?z5), (PySem.W.mg_none_of KX G ?z6), (PySem.W.mg_none_of KX G ?z7)⟩, (PySem.W.mg_none_of KX G ?zm), (PySem.W.mg_none_of KX G ?zr), (PySem.W.mg_none_of KX G ?zs), (PySem.W.mg_none_of KX G ?zp), (Lw.dnU KX G ?d0_a ?d0_l ?d0_c ?d0_k), (Lw.dnU KX G ?d1_a ?d1_l ?d1_c ?d1_k), (Lw.dnU KX G ?d2_a ?d2_l ?d2_c ?d2_k), (Lw.dnU KX G ?d3_a ?d3_l ?d3_c ?d3_k), (Lw.dnU KX G ?d4_a ?d4_l ?d4_c ?d4_k), (Lw.dnU KX G ?d5_a ?d5_l ?d5_c ?d5_k), (Lw.dnU KX G ?d6_a ?d6_l ?d6_c ?d6_k), (Lw.dnU KX G ?d7_a ?d7_l ?d7_c ?d7_k), (Lw.txgU KX G ?t0_a ?t0_l ?t0_z ?t0_v), (Lw.txgU KX G ?t1_a ?t1_l ?t1_z ?t1_v), (Lw.dnU KX G ?e0_a ?e0_l ?e0_c ?e0_k), (Lw.dnU KX G ?e1_a ?e1_l ?e1_c ?e1_k), (Lw.dnU KX G ?e2_a ?e2_l ?e2_c ?e2_k), (Lw.dnU KX G ?e3_a ?e3_l ?e3_c ?e3_k), (Lw.dnU KX G ?e4_a ?e4_l ?e4_c ?e4_k), (Lw.dnU KX G ?e5_a ?e5_l ?e5_c ?e5_k), (Lw.dnU KX G ?e6_a ?e6_l ?e6_c ?e6_k), (Lw.dnU KX G ?e7_a ?e7_l ?e7_c ?e7_k), (Lw.dnU KX G ?e8_a ?e8_l ?e8_c ?e8_k), (Lw.dnU KX G ?e9_a ?e9_l ?e9_c ?e9_k)⟩
      ⟨PySem.W.mg_of KX G ?mS, ⟨⟨?pg, ?hd, ?po, ?sa⟩, ?n1, ?n2, ?n3, ?n4, ?n5⟩, ⟨_, _, ⟨?mk, ?mi, ?mf, ?mkp⟩, (L2.fun_mk ?mI_l ?mI_c ?mI_k)⟩, ⟨_, _, ⟨?ml_at, ?ml_fn, ?ml_kp⟩, (L2.fun_mk ?ml_l ?ml_c ?ml_k)⟩, ⟨_, _, ⟨?mc_at, ?mc_fn, ?mc_kp⟩, (L2.fun_mk ?mc_l ?mc_c ?mc_k)⟩, ⟨_, _, ⟨?eq1, ?eq2, ?eq3, ?eq4⟩, (L2.fun_mk ?eq_l ?eq_c ?eq_k)⟩, ⟨⟨?pg2, ?hd2, ?po2, ?sa2⟩, ?i1, ?i2, ?i3, ?i4, ?i5⟩, ?kl, ?nl, (Lw.propU ?p0_at ?p0_get ?p0_tak ?p0_rec ?p0_l ?p0_c ?p0_k), (Lw.propU ?p1_at ?p1_get ?p1_tak ?p1_rec ?p1_l ?p1_c ?p1_k), (Lw.propU ?p2_at ?p2_get ?p2_tak ?p2_rec ?p2_l ?p2_c ?p2_k), (Lw.propU ?p3_at ?p3_get ?p3_tak ?p3_rec ?p3_l ?p3_c ?p3_k), PySem.W.mg_of KX G ?mB, ⟨_, Lw.errU (g := "part") ?x_b ?x_sa ?x_ga ?x_gg ?x_nf ?x_i ?x_t ?x_l ?x_c ?x_kC ?x_eC ?x_tC ?x_hC⟩⟩
      ⟨⟨_, _, PySem.W.mg_of KX G ?s_a, ?s_k, Lw.funC ?s_l ?s_c⟩, ⟨_, _, PySem.W.mg_of KX G ?q_a, ?q_k, Lw.funC ?q_l ?q_c⟩, ⟨_, Lw.funB KX G ?b_a ?b_l ?b_c ?b_k⟩, ?me, Lw.cat KX G ?c1, Lw.cat KX G ?c2, Lw.cat KX G ?c3, Lw.cat KX G ?c4, Lw.cat KX G ?c5, Lw.cat KX G ?c6, Lw.cat KX G ?c7, Lw.cat KX G ?c8, Lw.cat KX G ?c9, Lw.cat KX G ?c10⟩
      (by decide) (Lw.lawU KX G hmg ?l_a ?l_l ?l_c ?l_k) (hT8 375 (by simp)) (hT8 415 (by simp)) ?nS ?nT (PySem.W.codeHd_of_K KX ?hS) (PySem.W.codeHd_of_K KX ?hT)
    (case z0 => k_is); (case z1 => k_is); (case z2 => k_is); (case z3 => k_is); (case z4 => k_is); (case z5 => k_is); (case z6 => k_is); (case z7 => k_is)
    (case zm => k_is); (case zr => k_is); (case zs => k_is); (case zp => k_is); (case d0_a => k_is); (case d0_l => k_is); (case d0_c => k_is); (case d0_k => k_is)
    (case d1_a => k_is); (case d1_l => k_is); (case d1_c => k_is); (case d1_k => k_is); (case d2_a => k_is); (case d2_l => k_is); (case d2_c => k_is); (case d2_k => k_is)
    (case d3_a => k_is); (case d3_l => k_is); (case d3_c => k_is); (case d3_k => k_is); (case d4_a => k_is); (case d4_l => k_is); (case d4_c => k_is); (case d4_k => k_is)
    (case d5_a => k_is); (case d5_l => k_is); (case d5_c => k_is); (case d5_k => k_is); (case d6_a => k_is); (case d6_l => k_is); (case d6_c => k_is); (case d6_k => k_is)
    (case d7_a => k_is); (case d7_l => k_is); (case d7_c => k_is); (case d7_k => k_is); (case t0_a => k_is); (case t0_l => k_is); (case t0_z => decide +kernel); (case t0_v => exact .cons ⟨_, rfl⟩ (.cons ⟨_, rfl⟩ (.cons ⟨_, rfl⟩ (.nil))))
    (case t1_a => k_is); (case t1_l => k_is); (case t1_z => decide +kernel); (case t1_v => exact .cons ⟨_, rfl⟩ (.cons ⟨_, rfl⟩ (.cons ⟨_, rfl⟩ (.nil)))); (case e0_a => k_is); (case e0_l => k_is); (case e0_c => k_is); (case e0_k => k_is)
    (case e1_a => k_is); (case e1_l => k_is); (case e1_c => k_is); (case e1_k => k_is); (case e2_a => k_is); (case e2_l => k_is); (case e2_c => k_is); (case e2_k => k_is)
    (case e3_a => k_is); (case e3_l => k_is); (case e3_c => k_is); (case e3_k => k_is); (case e4_a => k_is); (case e4_l => k_is); (case e4_c => k_is); (case e4_k => k_is)
    (case e5_a => k_is); (case e5_l => k_is); (case e5_c => k_is); (case e5_k => k_is); (case e6_a => k_is); (case e6_l => k_is); (case e6_c => k_is); (case e6_k => k_is)
    (case e7_a => k_is); (case e7_l => k_is); (case e7_c => k_is); (case e7_k => k_is); (case e8_a => k_is); (case e8_l => k_is); (case e8_c => k_is); (case e8_k => k_is)
    (case e9_a => k_is); (case e9_l => k_is); (case e9_c => k_is); (case e9_k => k_is); (case mS => k_is); (case pg => k_is); (case hd => k_is); (case po => k_is)
    (case sa => k_is); (case n1 => unfold L2.NoAttr; k_is); (case n2 => unfold L2.NoAttr; k_is); (case n3 => unfold L2.NoAttr; k_is); (case n4 => unfold L2.NoAttr; k_is); (case n5 => unfold L2.NoAttr; k_is); (case mk => k_is); (case mi => k_is)
    (case mf => k_is); (case mkp => k_is); (case mI_l => k_is); (case mI_c => k_is); (case mI_k => k_is); (case ml_at => k_is); (case ml_fn => k_is); (case ml_kp => k_is)
    (case ml_l => k_is); (case ml_c => k_is); (case ml_k => k_is); (case mc_at => k_is); (case mc_fn => k_is); (case mc_kp => k_is); (case mc_l => k_is); (case mc_c => k_is)
    (case mc_k => k_is); (case eq1 => k_is); (case eq2 => k_is); (case eq3 => k_is); (case eq4 => k_is); (case eq_l => k_is); (case eq_c => k_is); (case eq_k => k_is)
    (case pg2 => k_is); (case hd2 => k_is); (case po2 => k_is); (case sa2 => k_is); (case i1 => k_is); (case i2 => k_is); (case i3 => k_is); (case i4 => k_is)
    (case i5 => kernel_rfl); (case kl => kernel_rfl); (case nl => kernel_rfl); (case p0_at => k_is); (case p0_get => k_is); (case p0_tak => k_is); (case p0_rec => k_is); (case p0_l => k_is)
    (case p0_c => k_is); (case p0_k => k_is); (case p1_at => k_is); (case p1_get => k_is); (case p1_tak => k_is); (case p1_rec => k_is); (case p1_l => k_is); (case p1_c => k_is)
    (case p1_k => k_is); (case p2_at => k_is); (case p2_get => k_is); (case p2_tak => k_is); (case p2_rec => k_is); (case p2_l => k_is); (case p2_c => k_is); (case p2_k => k_is)
    (case p3_at => k_is); (case p3_get => k_is); (case p3_tak => k_is); (case p3_rec => k_is); (case p3_l => k_is); (case p3_c => k_is); (case p3_k => k_is); (case mB => k_is)
    (case x_b => k_is); (case x_sa => k_is); (case x_ga => k_is); (case x_gg => k_is); (case x_nf => k_is); (case x_i => k_is); (case x_t => k_is); (case x_l => k_is)
    (case x_c => k_is); (case x_kC => k_is); (case x_eC => k_is); (case x_tC => k_is); (case x_hC => k_is); (case s_a => k_is); (case s_k => k_is); (case s_l => k_is)
    (case s_c => k_is); (case q_a => k_is); (case q_k => k_is); (case q_l => k_is); (case q_c => k_is); (case b_a => k_is); (case b_l => k_is); (case b_c => k_is)
    (case b_k => k_is); (case me => kernel_rfl); (case c1 => k_is); (case c2 => k_is); (case c3 => k_is); (case c4 => k_is); (case c5 => k_is); (case c6 => k_is)
    (case c7 => k_is); (case c8 => k_is); (case c9 => k_is); (case c10 => k_is); (case l_a => k_is); (case l_l => k_is); (case l_c => k_is); (case l_k => k_is)
    (case nS => kernel_rfl); (case nT => kernel_rfl); (case hS => kernel_rfl); (case hT => kernel_rfl)
