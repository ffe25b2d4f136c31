import PyProof.Rows.All
import Wide.All
import OpenK.AllK
import Wide.FinOn
import HandS.ForMost
import HandS.ForExc
import HandS.ExcInit
import HandS.ExcIs
import HandS.IsInst
import HandS.Defaults
import HandS.Wide
import HandS.HeadEnd
import KE.KExcInit
import KE.KExcIs
import HandS.ExcValue
import HandS.MakeKwOnly
import KE.KStateDown
import Lean
import HandS.Head0
import HandS.Head1
import HandS.Head2
import HandS.HeadHook1
import HandS.HeadHook2
import PySem.Challenge.RW_evenkeeps_k01_errors_and_limits
set_option Elab.async false
set_option linter.all false
set_option maxRecDepth 100000
set_option maxHeartbeats 2000000
namespace Ek
open PySem PySem.Spec PyProof.Rows L2

/-! ### defs that keep their promise where no repr is under way -/
structure FnG (P : Program) (w : World) (K : PySem.W.Frag) (mg : Str → Option Value) (base : Heap) (k : Nat) (f : Addr) (fd : FuncData) (ps : List Str) (sp : Sp) : Prop where
  size : ∀ {vs H Q E}, sp vs H Q E → vs.length = ps.length
  go : ∀ {A : Around} {outer : List Env} {s : Shared} {H : Hp} {args : Args} {us : List Value} {vs : List V} {Q : VK} {E : XK}, Room k A → A.guards = some [] →
    Env0 P w K mg base A outer s H → BindsTo s fd args (ps.zip us) → Vals vs us → sp vs H Q E → codeAny (model P w) A (.call (.ref f) args) (CR CX0 outer P w H s Q E) s

section
variable {P : Program} {w : World} {K : PySem.W.Frag} {mg : Str → Option Value} {base : Heap} {k : Nat} {f : Addr} {fd : FuncData} {ps : List Str} {sp : Sp}
theorem FnG.of (F : FnOk P w K mg base CX0 k f fd ps sp) : FnG P w K mg base k f fd ps sp :=
  ⟨fun h => F.len _ _ _ _ h, fun hr _ e0 hb r h => F.run _ _ _ _ _ _ _ _ _ hr e0 hb r h⟩

/-- a def of the text, by its body -/
theorem fnG {x qual : Str} {params : Arguments} {body : List Stmt} {scope : Scope} {dvs : List V} {kws : List (Str × V)} {N : List Str} (F : FunD K x qual params body scope dvs kws f fd) (S : FnScope N ps scope)
    (len : ∀ vs H Q E, sp vs H Q E → vs.length = ps.length)
    (hbody : ∀ (cdv : Value) (A : Around) (outer : List Env) (s : Shared) (H : Hp) (vs : List V) (Q : VK) (E : XK),
      Room k (A.deeper (envOfC qual scope s.heap.objs.size f cdv)) → A.guards = some [] → sp vs H Q E →
        ∃ t, PSs (cxOf CX0 P w K mg base N qual scope f cdv A outer s H E).nox body t ∧ t { nx := fun _ H' => Q .non H', rt := Q } (start N vs) H) :
    FnG P w K mg base (k + 1) f fd ps sp := by
  obtain ⟨oc, od, dV, kV, doc, pm, an, cdv, ct, osl, rfl, lk, hcd, _, _⟩ := F.ex
  refine ⟨fun h => len _ _ _ _ h, fun {A outer s H args us vs Q E} hr hgd e0 hb r hsp => ?_⟩
  have KX : K.In s.heap := e0.mod.kin.keeps fun b o e => (e0.bs b o e).1
  have lim : s.heap.NoLimit := e0.mod.nolimit.keeps fun b o e => (e0.bs b o e).1
  have hnames : ∀ y ∈ ps.zip us, scope.names.lookup y.1 = some .local ∨ (scope.names.lookup y.1 = some .cell ∧ ((cellsFrom (s.heap.objs.size + 1) scope.names []).lookup y.1).isSome = true) := by
    rintro ⟨n, v⟩ hy
    exact (S.par n (List.of_mem_zip hy).1).imp id fun q => ⟨q, PySem.W.cellsFrom_some _ _ _ (.inl q)⟩
  refine codeAny_call_function hr.depth (KX _ _ lk) rfl S.co S.gen rfl (PySem.W.codeRec_of KX hcd) (hb _ _ _ _ ?_)
  refine wpAny_newFunctionEnv_cells S.kind hnames fun env he s1 x => ?_
  subst he
  refine ⟨lim.keeps x.toInCall.keep, codeAny_func ?_⟩
  obtain ⟨t, ht, hq⟩ := hbody cdv A outer s H vs Q E (hr.deeper _) hgd hsp
  have I : Inv (cxOf CX0 P w K mg base N qual scope f cdv A outer s H E) [] (start N vs) H s1 := inv_start S hr.hd e0 (len _ _ _ _ hsp) r x
  refine wpAny_mono (ht.nox.run [] s1 (start N vs) H _ I hq) (fun fl s' hs => ?_) fun e s' hs => hs
  cases fl with
  | ret u =>
    obtain ⟨v, σ', H', J, rv, q⟩ := hs
    exact ⟨v, H', J.os, J.bare, J.base, J.hok, rv, q⟩
  | next =>
    obtain ⟨σ', H', J, q⟩ := hs
    exact ⟨V.non, H', J.os, J.bare, J.base, J.hok, rfl, q⟩
  | brk => exact hs.elim fun _ z => z.elim fun _ y => y.2.elim
  | cont => exact hs.elim fun _ z => z.elim fun _ y => y.2.elim
end

section
variable {X : Cx} {k : Nat} {f : Addr} {fd : FuncData} {ps : List Str} {sp : Sp} {x : Str} {p pos : Pos} {e : Expr} {es : List Expr} {t : TA}
/-- f(e, ..) of such a def -/
theorem pe_callG (F : FnG X.prog X.w X.K X.mg X.base k f fd ps sp) (hr : Room k X.A) (hgd : X.A.guards = some []) (hg : Gl X x) (hm : X.mg x = some (.ref f)) (hk : PySem.W.keepIn X.K (.ref f) = true) (hb : Binds X.K fd ps [])
    (ha : PA X (e :: es) t) (hdb : (x == ("__debug__" : Str)) = false := by decide) (he : starEach (e :: es) X.env = (false, eval e X.env) :: starEach es X.env := by rfl) (hpl : (backTo pos (starEach es X.env)).any (·.1) = false := by rfl) :
    PE X (.Call (.Name x p) (e :: es) [] pos) (tCall sp [] E0 t) := by
  refine ⟨fun pins s σ H Q I h => wpAny_Call_Name_kw (ld_glob I hg hm ?_ hdb)⟩
  refine PySem.W.callWith_K (h₀ := X.base) I.ok.mod.kin hk (thn (ha.run pos pins s σ H _ I h) fun us s1 ⟨vs, H1, I1, r, q⟩ => ⟨I1.kIn, ?_⟩) he hpl
  have q : sp vs H1 Q E0 := (List.append_nil vs) ▸ q
  have hl : (us ++ []).length = ps.length := by rw [List.append_nil, ← r.length]; exact F.size q
  have hbb := hb s1 us I1.kIn hl
  rw [List.append_nil] at hbb
  refine wpAny_call (codeAny_mono (F.go hr hgd I1.env0 hbb r q) fun rr s' hq => ?_)
  cases rr with
  | error e => exact hq.elim
  | ok fl =>
    cases fl with
    | ret u => exact I1.after hq
    | next => exact hq.elim
    | brk => exact hq.elim
    | cont => exact hq.elim
end
end Ek

set_option Elab.async false
set_option linter.all false
set_option maxRecDepth 100000
set_option maxHeartbeats 4000000
namespace Ek
open PySem PySem.Spec PyProof.Rows L2
open Builtin Builtin.ObjectAttr
section
variable {A : Around} {E : Value → Shared → Prop} {h : Heap} {g : Array GenState} {d : Drawn} {t : Nat} {os : OsState} {nm q : Str} {C N : Addr} {bs bm bmB : List Value} {hdct : Bool} {sn : List Str}
  {sub : List Value} {ab : Bool} {col : Option Bool} {dd : Option Addr} {k0 k1 k2 k3 k5 : Option Value} {B newId initId : String} {rest : List Value} {kw : List (Str × Value)}
/-- the built-in __new__ takes any arguments -/
theorem xnew_check {M : Model} (F : ExcBaseFacts B newId initId bmB) (hT : ∀ X : String, bm.contains (.type X) = bmB.contains (.type X)) {Q : Unit → Shared → Prop}
    (hC : h.get? C = some (excClassObj nm q C N bs bm hdct sn sub ab col dd k0 k1 k2 k3 k5 newId)) (hq : Q () ⟨h, g, d, t, os⟩) : wpAny M A (checkBuiltinCall newId ⟨.ref C :: rest, kw⟩) Q E ⟨h, g, d, t, os⟩ := by
  have has : (Value.ref C :: bm).contains (.type B) = true := by rw [List.contains_cons, hT, F.hasB, Bool.or_true]
  have hstar := F.noStar
  simp only [checkBuiltinCall, F.newKind, F.newSplit, F.newRow]
  repeat (first | refine wpAny_loadPart_at hC ?_ | (refine wpAny_isSubtype_exc hC ?_; rw [has]) | refine wpAny_staticBase_exc hC ?_ | refine wpAny_madeBy_exc hC ?_ | simp only [bne_self_eq_false, Bool.false_eq_true, if_false] | wp_step)
  exact hq
end
section
variable {prog : Program} {w : World} {A : Around} {E : Value → Shared → Prop} {R : Result → Shared → Prop} {h : Heap} {g : Array GenState} {d : Drawn} {t : Nat} {os : OsState} {nm q : Str} {C N : Addr}
  {bs bm bmB : List Value} {hdct : Bool} {sn : List Str} {sub : List Value} {ab : Bool} {col : Option Bool} {dd : Option Addr} {k0 k1 k2 k3 k5 : Option Value} {B newId initId : String} {rest : List Value} {kw : List (Str × Value)}
/-- the heap with a new exception of the class at C, made with rest -/
abbrev xheap (h : Heap) (C : Addr) (rest : List Value) : Heap := (h.push (PySem.W.kdv_tup rest)).push (PySem.HandSPX.excO C h.objs.size)
theorem xnew (F : ExcBaseFacts B newId initId bmB) (hT : ∀ X : String, bm.contains (.type X) = bmB.contains (.type X)) (hC : h.get? C = some (excClassObj nm q C N bs bm hdct sn sub ab col dd k0 k1 k2 k3 k5 newId))
    (hq : R (.ok (.ret (.ref (h.objs.size + 1)))) ⟨xheap h C rest, g, d, t, os⟩) (hrest : rest.length ≤ sizeLine) : codeAny (model prog w) A (.builtin newId ⟨.ref C :: rest, kw⟩) R ⟨h, g, d, t, os⟩ := by
  have e0 := F.ends
  have e1 : (Value.ref C :: bm).contains (.type B) = true := by rw [List.contains_cons, hT, F.hasB, Bool.or_true]
  have e2 : (Value.ref C :: bm).contains (.type "AttributeError") = false := by rw [List.contains_cons, hT, F.noAttr]; rfl
  have e3 : (Value.ref C :: bm).contains (.type "NameError") = false := by rw [List.contains_cons, hT, F.noName]; rfl
  refine codeAny_builtinAt F.entry ?_
  unfold Builtin.«BaseException.__new__»
  refine PySem.wpAt_bind ?_
  show PySem.wpAt _ _ _ (stack >>= _) _ _ _
  refine PySem.wpAt_bind (PySem.wpAt_stack fun p below => PySem.wpAt_of_wpAny ?_)
  wp_walk
  refine PySem.wpAt_of_wpAny ?_
  rw [F.owner]
  repeat (first | with_reducible refine wpAny_madeHere_exc F.canon hC ?_ | with_reducible refine wpAny_loadPart_at hC ?_ | (with_reducible refine wpAny_isSubtype_exc hC ?_; first | rw [e1] | rw [e2] | rw [e3]) | wp_step)
  show R _ _
  rw [Heap.size_push]
  exact hq
theorem xtype_call (F : ExcBaseFacts B newId initId bmB) (hT : ∀ X : String, bm.contains (.type X) = bmB.contains (.type X)) {fI : Addr} {Q : Fin → Shared → Prop} (hC : h.get? C = some (excClassObj nm q C N bs bm hdct sn sub ab col dd k0 k1 k2 k3 k5 newId))
    (hi : W.Looks (model prog w) h (typeLookup (.ref C) "__init__") (some (.ref fI))) (hb : ∀ self, W.Looks (model prog w) h (bindSpecial (.ref fI) self) (.ref fI, [self])) (hrest : rest.length ≤ sizeLine)
    (hq : codeAny (model prog w) A (.call (.ref fI) ⟨.ref (h.objs.size + 1) :: rest, kw⟩)
      (fun r s' => match r with | .ok (.ret v) => v = .none ∧ Q (.done (.ret (.ref (h.objs.size + 1)))) s' | .ok _ => False | .error e => E e s') ⟨xheap h C rest, g, d, t, os⟩) :
    wpAny (model prog w) A (Builtin.«type.__call__» ⟨.ref C :: rest, kw⟩) Q E ⟨h, g, d, t, os⟩ := by
  repeat (first | with_reducible refine wpAny_loadPart_at hC ?_ | with_reducible refine wpAny_madeBy_exc hC ?_ | wp_step)
  refine codeAny_call_builtin_code (Code.quiet_builtin _ F.quiet) (xnew_check F hT hC ?_)
  refine xnew F hT hC ?_ hrest
  show wpAny _ _ _ _ _ _
  have k : ∀ b o, h.get? b = some o → (xheap h C rest).get? b = some o := fun b o e => Heap.get?_push_of_some _ (Heap.get?_push_of_some _ e)
  have hC₁ := k _ _ hC
  have hget : (xheap h C rest).get? (h.objs.size + 1) = some (PySem.HandSPX.excO C h.objs.size) := by heap_get
  have own : (Value.ref C :: bm).contains (.ref C) = true := by simp
  have i1 := hi.keeps k
  have b1 := (hb (.ref (h.objs.size + 1))).keeps k
  unfold isInstance
  repeat (first | with_reducible refine wpAny_loadPart_at hget ?_ | (with_reducible refine wpAny_isSubtype_exc hC₁ ?_; rw [own]) | wp_step)
  show wpAny _ _ (typeLookup (.ref C) _) _ _ _
  refine i1.at ?_
  refine wpAny_holding (wpAny_bind (b1.at ?_))
  refine wpAny_bind (wpAny_call (codeAny_mono hq fun r s' z => ?_))
  rcases r with e | (v | _ | _ | _) <;> first | exact z | exact z.elim | skip
  obtain ⟨rfl, z⟩ := z
  first
    | exact wpAny_pure (wpAny_pure z)
    | (wp_walk; exact z)
/-- C(..), C an own exception class whose __init__ is a def: by any arguments -/
theorem xcall (F : ExcBaseFacts B newId initId bmB) (hT : ∀ X : String, bm.contains (.type X) = bmB.contains (.type X)) {fI : Addr} (hC : h.get? C = some (excClassObj nm q C N bs bm hdct sn sub ab col dd k0 k1 k2 k3 k5 newId))
    (hi : W.Looks (model prog w) h (typeLookup (.ref C) "__init__") (some (.ref fI))) (hb : ∀ self, W.Looks (model prog w) h (bindSpecial (.ref fI) self) (.ref fI, [self])) (hrest : rest.length ≤ sizeLine)
    (hq : codeAny (model prog w) (A.under (.builtin "type.__call__" ⟨.ref C :: rest, kw⟩)) (.call (.ref fI) ⟨.ref (h.objs.size + 1) :: rest, kw⟩) (W.InitBack (h.objs.size + 1) R) ⟨xheap h C rest, g, d, t, os⟩) :
    codeAny (model prog w) A (.call (.ref C) ⟨rest, kw⟩) R ⟨h, g, d, t, os⟩ := by
  have f1 := tc_lookup
  have f2 := tc_bind (.ref C)
  have hTy : (⟨h, g, d, t, os⟩ : Shared).TypeIs (.ref C) "type" := ⟨_, hC, rfl⟩
  refine codeAny_of_tree ?_
  show wpAny _ _ (callAny (.ref C) _) _ _ _
  repeat (any_goals (first | assumption | with_reducible refine wpAny_loadPart_at hC ?_ | wp_step))
  refine ⟨rfl, ?_⟩
  have typ : W.Looks (model prog w) h (isInstance (.ref C) (.type "type")) true := by
    have t1 : W.Looks (model prog w) h (typeOf (.ref C)) (.type "type") := (W.Looks.ld hC).andThen .now
    exact t1.andThen (.of_pure tc_sub)
  refine codeAny_call_builtin_at (Code.quiet_builtin _ (by decide +kernel)) entry_typeCall (W.check_slot tc_kind tc_split typ (W.tc_args _ _ _) (xtype_call F hT hC hi hb hrest ?_))
  refine codeAny_mono hq fun r s' z => ?_
  rcases r with e | (v | _ | _ | _) <;> exact z
end
end Ek

set_option Elab.async false
set_option linter.all false
set_option maxRecDepth 100000
set_option maxHeartbeats 4000000
namespace Ek
open PySem PySem.Spec PyProof.Rows L2
open Builtin Builtin.ObjectAttr
/-- a built-in exception class under own ones -/
structure XB (B newId initId : String) (tail : List Value) : Prop where
  base : ExcBaseFacts B newId initId tail
  st : StoreFacts B tail "object.__setattr__" "object"
abbrev tlV : List Value := [.type "ValueError", .type "Exception", .type "BaseException", .type "object"]
abbrev tlL : List Value := [.type "LookupError", .type "Exception", .type "BaseException", .type "object"]
abbrev tlR : List Value := [.type "RuntimeError", .type "Exception", .type "BaseException", .type "object"]
theorem xbV : XB "ValueError" "ValueError.__new__" "ValueError.__init__" tlV := ⟨F.excBase_ValueError, F.store_ValueError⟩
theorem xbL : XB "LookupError" "LookupError.__new__" "LookupError.__init__" tlL := ⟨F.excBase_LookupError, F.store_LookupError⟩
theorem xbR : XB "RuntimeError" "RuntimeError.__new__" "RuntimeError.__init__" tlR := ⟨F.excBase_RuntimeError, F.store_RuntimeError⟩
/-- what the written part says of an own exception class at C -/
structure XC (K : PySem.W.Frag) (C : Addr) (newId : String) (tail : List Value) : Prop where
  im : PySem.W.excInitIn K C tail newId = true
  ov : PySem.W.excOver K C tail = true
  kp : PySem.W.keepIn K (.ref C) = true
  sa : PySem.W.findIn K (.ref C) "__setattr__" = some (some (.builtin "object.__setattr__"))
  ga : PySem.W.findIn K (.ref C) "__getattribute__" = some (some (.builtin "BaseException.__getattribute__"))
  gg : PySem.W.findIn K (.ref C) "__getattr__" = some none
  sb : PySem.W.subIn K (.ref C) (.type "BaseException") = some true
  hd : PySem.W.hasDictIn K C = true
  cl : PySem.W.findIn K (.ref C) "__class__" = some (some (.builtin "object.__class__"))
  cg : PySem.W.specialIn K (.builtin "object.__class__") "__get__" = some (some (.builtin "getset_descriptor.__get__"))
  ct : PySem.W.takesIn K (.builtin "object.__class__") = some true
  mo : PySem.W.mroIn K C (.type "object") = some true
section
variable {prog : Program} {w : World} {A : Around} {R : Result → Shared → Prop} {hp : Heap} {g : Array GenState} {d : Drawn} {t : Nat} {os : OsState} {K : PySem.W.Frag} {C : Addr} {B newId initId : String} {tail : List Value} {name : Str} {tk : Tok} {v : Value} {x : Addr} {fv : Array Value}
theorem taker_none {K : PySem.W.Frag} {C : Addr} {name : Str} (h : PySem.W.findIn K (.ref C) name = some none) : PySem.W.takerIn K C name = some none := by
  unfold PySem.W.takerIn
  rw [h]; rfl
/-- the first store into an exception: its dict is laid -/
theorem xosa_new (S : XB B newId initId tail) (T : XC K C newId tail) (X : K.In hp) (hx : hp.get? x = some { cls := .ref C, data := .fields fv }) (hno : PySem.W.findIn K (.ref C) name = some none)
    (hq : ∀ h' tk' dx, (∀ b o, b ≠ x → hp.get? b = some o → h'.get? b = some o) → hp.objs.size ≤ dx → dx ≠ x → h'.get? x = some { cls := .ref C, dict := some dx, data := .fields fv } →
      h'.Ns1 dx (fun y => if y = name then some v else none) → R (.ok (.ret .none)) ⟨h', g, d, tk', os⟩) :
    codeAny (model prog w) A (.call (.builtin "object.__setattr__") ⟨[.ref x, .str name tk, v], []⟩) R ⟨hp, g, d, t, os⟩ := by
  have hxs : x ≠ hp.objs.size := Nat.ne_of_lt (Heap.lt_size hx)
  have I : W.InstAt hp x { cls := .ref C, data := .fields fv } C none := ⟨hx, rfl, rfl, trivial⟩
  obtain ⟨cd, hcd, hh⟩ := W.any_some T.hd
  have hcls : W.Looks (model prog w) hp (classData C) cd := W.looks_clsIn X hcd
  refine W.osa_openX (s := ⟨hp, g, d, t, os⟩) S.st X I T.ov (taker_none hno) fun b => ?_
  show wpAny _ _ (storeInOwnDict (.ref x) (.ref C) (.str name tk) name v b) _ _ _
  obtain ⟨nm, bs, mro, ns, qn, hdd, sn, sb, ab, col, del⟩ := cd
  dsimp only at hh
  subst hh
  unfold storeInOwnDict ownDictForStores
  repeat (first | with_reducible refine PySem.HandSPX.store_in_new ?_ ?_ | with_reducible refine wpAny_loadPart_at hx ?_ | with_reducible refine hcls.at ?_ | wp_step)
  · exact ⟨_, #[], _, (Heap.get?_update_ne _ _ _ _ hxs.symm).trans (Heap.get?_push_at rfl rfl), rfl, fun e he => absurd he (by simp), fun _ => rfl⟩
  · intro h' tk' hn' hs
    have hx₁ : (hp.push { cls := .type "dict", data := .dict #[] }).get? x = some { cls := .ref C, data := .fields fv } := Heap.get?_push_of_some _ hx
    refine hq h' tk' hp.objs.size (fun b o hb ho => ?_) (Nat.le_refl _) hxs.symm ?_ hn'
    · exact (hs.2 b (Nat.ne_of_lt (Heap.lt_size ho))).trans ((Heap.get?_update_ne _ _ _ _ hb).trans (Heap.get?_push_of_some _ ho))
    · exact (hs.2 x hxs).trans (Heap.get?_update_self _ hx₁ rfl)
/-- a further store -/
theorem xosa_old {dx : Addr} {m0 : Str → Option Value} {nl : List Str} (S : XB B newId initId tail) (T : XC K C newId tail) (X : K.In hp) (hx : hp.get? x = some { cls := .ref C, dict := some dx, data := .fields fv }) (hns : hp.Ns1 dx m0) (hw : Within m0 nl) (hz : nl.length ≤ 1000)
    (hno : PySem.W.findIn K (.ref C) name = some none)
    (hq : ∀ h' tk', (∀ b o, b ≠ dx → hp.get? b = some o → h'.get? b = some o) → h'.Ns1 dx (fun y => if y = name then some v else m0 y) → R (.ok (.ret .none)) ⟨h', g, d, tk', os⟩) :
    codeAny (model prog w) A (.call (.builtin "object.__setattr__") ⟨[.ref x, .str name tk, v], []⟩) R ⟨hp, g, d, t, os⟩ := by
  obtain ⟨oD, esD, epD, hoD, hdD, _⟩ := hns.count hw
  have I : W.InstAt hp x { cls := .ref C, dict := some dx, data := .fields fv } C (some oD) := ⟨hx, rfl, rfl, hoD⟩
  obtain ⟨cd, hcd, hh⟩ := W.any_some T.hd
  have hcls : W.Looks (model prog w) hp (classData C) cd := W.looks_clsIn X hcd
  refine W.osa_openX (s := ⟨hp, g, d, t, os⟩) S.st X I T.ov (taker_none hno) fun b => ?_
  show wpAny _ _ (storeInOwnDict (.ref x) (.ref C) (.str name tk) name v b) _ _ _
  obtain ⟨nm, bs, mro, ns, qn, hdd, sn, sb, ab, col, del⟩ := cd
  dsimp only at hh
  subst hh
  unfold storeInOwnDict ownDictForStores
  repeat (first | with_reducible refine PySem.OEX.store_in_old hns hw hz ?_ | with_reducible refine wpAny_loadPart_at hx ?_ | with_reducible refine hcls.at ?_ | wp_step)
  intro h' tk' hn' hs
  exact hq h' tk' (fun b o hb ho => (hs.2 b hb).trans ho) hn'
end
end Ek

set_option Elab.async false
set_option linter.all false
set_option maxRecDepth 100000
set_option maxHeartbeats 4000000
namespace Ek
open PySem PySem.Spec PyProof.Rows L2
section
variable {X : Cx} {pins : List (Addr × Obj)} {σ : L2.St} {H : Hp} {s : Shared} {a C dx : Addr} {f : Str} {y : V} {u : Value} {fs : List (Str × V)} {E : Value → Shared → Prop} {A : Around} {B newId initId : String} {tail : List Value}
/-- self.f = y, the first one -/
theorem xst_new {Q : Unit → Shared → Prop} (S : XB B newId initId tail) (T : XC X.K C newId tail) (I : Inv X pins σ H s) (ea : H a = some (exo a C none)) (hno : PySem.W.findIn X.K (.ref C) f = some none) (ry : RelV y u)
    (h : ∀ dx s', H dx = none → dx ≠ a → Inv X pins σ (upd (upd H dx (exd dx [(f, y)])) a (exo a C (some dx))) s' → Q () s') : wpAny (model X.prog X.w) A (setAttr (.ref a) f u) Q E s := by
  obtain ⟨t1, ho⟩ := exo_at I.hok ea
  obtain ⟨hp, g, d, t, os⟩ := s
  refine PySem.W.set_plain I.kIn (ox := { cls := .ref C, dict := none, data := .fields #[.ref t1, .none, .none, .none, .bool false, .none] }) (od := none) ⟨ho, rfl, rfl, trivial⟩ T.sa ?_
  refine xosa_new S T I.kIn ho hno fun h' tk' dx k dn dne hx hn => ?_
  have free : H dx = none := I.hok.fresh dn
  have old : ∀ {b : Addr} {o : Obj}, hp.get? b = some o → b ≠ dx := fun q => Nat.ne_of_lt (Nat.lt_of_lt_of_le (Heap.lt_size q) dn)
  have other : ∀ {b : Addr}, H b = none → b ≠ a := fun n z => by rw [z, ea] at n; cases n
  have two : ∀ {b : Addr} {o : HO}, H b = some o → exo a C none ≠ o → upd (upd H dx (exd dx [(f, y)])) a (exo a C (some dx)) b = some o := fun {b o} q ne => by
    rw [upd_ne (at_ne ea q ne), upd_ne (ne_of_none q free)]; exact q
  refine h dx _ free dne (I.un (t' := tk') ?_ ?_)
  · exact { keep := fun b o q n _ _ => k b o (other n) q
            slot := fun b o q n _ _ => ⟨o.slots, k b o (other n) q⟩
            free := fun b o q n _ => by rw [upd_ne (other n), upd_ne (old q)]; exact n
            there := fun b o q _ => by
              rcases Decidable.em (b = a) with z | z
              · rw [z]; exact ⟨_, hx⟩
              · exact ⟨o, k b o z q⟩
            tups := fun b xs q => two q exo_tup
            frzs := fun b o v q => two q exo_frz
            tbls := fun b ps q => ⟨#[], by rw [two q exo_tbl]; simp⟩ }
  · intro b o q
    rcases Decidable.em (b = a) with z | z
    · subst z; rw [upd_same] at q; cases q; exact exo_ok hx
    rw [upd_ne z] at q
    rcases Decidable.em (b = dx) with z2 | z2
    · subst z2; rw [upd_same] at q; cases q; exact exd_ok hn (relO_put (fs := []) ry fun g => True.intro)
    rw [upd_ne z2] at q
    refine (I.hok b o q).stay (fun c v hc r => k c v ?_ r) (fun c hc => two hc exo_own) fun c xs hc => two hc exo_tup
    exact hc.elim (fun e => e ▸ z) fun e => at_ne ea e exo_own
/-- self.f = y, a further one -/
theorem xst_old {Q : Unit → Shared → Prop} (S : XB B newId initId tail) (T : XC X.K C newId tail) (I : Inv X pins σ H s) (ea : H a = some (exo a C (some dx))) (ed : H dx = some (exd dx fs)) (hl : fs.length ≤ 900) (hno : PySem.W.findIn X.K (.ref C) f = some none)
    (ry : RelV y u) (h : ∀ s', Inv X pins σ (upd H dx (exd dx ((f, y) :: fs))) s' → Q () s') : wpAny (model X.prog X.w) A (setAttr (.ref a) f u) Q E s := by
  obtain ⟨t1, ho⟩ := exo_at I.hok ea
  obtain ⟨mA, hns, rel⟩ := exd_at I.hok ed
  have hw := within_of rel
  obtain ⟨hp, g, d, t, os⟩ := s
  obtain ⟨oD, _, _, hoD, _, _⟩ := hns.count hw
  refine PySem.W.set_plain I.kIn (ox := { cls := .ref C, dict := some dx, data := .fields #[.ref t1, .none, .none, .none, .bool false, .none] }) (od := some oD) ⟨ho, rfl, rfl, hoD⟩ T.sa ?_
  refine xosa_old S T I.kIn ho hns hw (by rw [List.length_map]; omega) hno fun h' tk' k hn => ?_
  have there : ∃ o, h'.get? dx = some o := hn.elim fun o z => z.elim fun _ z => z.elim fun _ z => ⟨o, z.1⟩
  exact h _ (I.write (t' := tk') (x := dx) (e := dx) (o := exd dx ((f, y) :: fs)) (by rw [ed]; exact True.intro) (.inl rfl) k there (exd_ok hn (relO_put ry rel)))
end
/-! ### self.f = e in the __init__ of an exception; the exception as a value -/
/-- self.f = e -/
def tXst (K : PySem.W.Frag) (newId : String) (tail : List Value) (f : Str) (to te : TE) : TS := fun D σ H => te σ H fun y H1 => to σ H1 fun x H2 => ∃ a C : Addr, x = .ref a ∧ XC K C newId tail ∧ PySem.W.findIn K (.ref C) f = some none ∧
  ((H2 a = some (exo a C none) ∧ ∀ dx, H2 dx = none → dx ≠ a → D.nx σ (upd (upd H2 dx (exd dx [(f, y)])) a (exo a C (some dx)))) ∨
    ∃ (dx : Addr) (fs : List (Str × V)), H2 a = some (exo a C (some dx)) ∧ H2 dx = some (exd dx fs) ∧ fs.length ≤ 900 ∧ D.nx σ (upd H2 dx (exd dx ((f, y) :: fs))))
section
variable {X : Cx} {o e : Expr} {es : List Expr} {kws : List Keyword} {to te : TE} {ta tk : TA} {f x : Str} {p p' pos : Pos} {B newId initId : String} {tail : List Value} {C fI : Addr} {k : Nat} {fd : FuncData} {ps ks : List Str} {sp : Sp}
theorem ps_xst (S : XB B newId initId tail) (ho : PE X o to) (he : PE X e te) (hs : swapsWith e (some (.Attribute o f p')) pos.line X.env = pure false := by rfl) : PS X (.Assign [.Attribute o f p'] e pos) (tXst X.K newId tail f to te) := by
  refine ⟨fun pins s σ H D I h => plainObj_wpAny_Assign_Attribute (thn (he.run pins s σ H _ I h) fun v s1 ⟨y, H1, I1, r1, q1⟩ => thn (ho.run pins s1 σ H1 _ I1 q1) fun u s2 ⟨x, H2, I2, r2, a, C, ex, T, hno, q⟩ => ?_) hs⟩
  subst ex
  cases (show u = Value.ref a from r2)
  exact q.elim (fun ⟨ea, q⟩ => xst_new S T I2 ea hno r1 fun dx s' n ne J => ⟨σ, _, J, q dx n ne⟩) fun ⟨dx, fs, ea, ed, hl, q⟩ => xst_old S T I2 ea ed hl hno r1 fun s' J => ⟨σ, _, J, q⟩
/-- C(..), a new exception, its own __init__ keeping sp: gV orders what __init__ gets, behind self -/
def tXmk (C : Addr) (n m : Nat) (sp : Sp) (gV : List V → List V → List V) (t tk : TA) : TE := fun σ H Q => t σ H fun vs H1 => tk σ H1 fun zs H2 => vs.length = n ∧ zs.length = m ∧ n ≤ 1000 ∧
  ∀ a, H2 a = none → sp (gV (.ref a :: vs) zs) (upd H2 a (exo a C none)) (fun v H3 => v = .non ∧ Q (.ref a) H3) E0
variable {g : List Value → List Value → List Value} {gV : List V → List V → List V} {n : Nat}
theorem run_xmk {pins : List (Addr × Obj)} {σ : L2.St} {H : Hp} {s : Shared} {Q : VK} {us ws : List Value} {vs zs : List V} (S : XB B newId initId tail) (T : XC X.K C newId tail) (iC : PySem.W.findIn X.K (.ref C) "__init__" = some (some (.ref fI)))
    (tI : PySem.W.typeIn X.K (.ref fI) = some (.type "function")) (F1 : FnOk X.prog X.w X.K X.mg X.base CX0 k fI fd ps sp) (hr : Room (k + 1) X.A) (hb : KBn X.K fd ps (n + 1) ks g gV) (I : Inv X pins σ H s) (r : Vals vs us) (rz : Vals zs ws)
    (l1 : vs.length = n) (l2 : zs.length = ks.length) (l3 : n ≤ 1000) (h : ∀ a, H a = none → sp (gV (.ref a :: vs) zs) (upd H a (exo a C none)) (fun v H3 => v = .non ∧ Q (.ref a) H3) E0) :
    wpAny (model X.prog X.w) X.A (call (.ref C) us (ks.zip ws)) (EP X pins σ Q) X.xe s := by
  obtain ⟨hp, gg, dr, tk, os⟩ := s
  obtain ⟨nm, N, q, bs, bm, hdct, sn, sub, ab, col, dd, k0, k1, k2, k3, k5, hC, hT⟩ := PySem.W.excInit_of I.kIn T.im
  have big : hp.objs.size ≤ hp.objs.size + 1 := Nat.le_succ _
  have hq := h (hp.objs.size + 1) (I.hok.fresh big)
  have kk : ∀ b o, hp.get? b = some o → (xheap hp C us).get? b = some o := fun b o e => Heap.get?_push_of_some _ (Heap.get?_push_of_some _ e)
  have hget : (xheap hp C us).get? (hp.objs.size + 1) = some (PySem.HandSPX.excO C hp.objs.size) := by heap_get
  have I2 : Inv X pins σ (upd H (hp.objs.size + 1) (exo (hp.objs.size + 1) C none)) ⟨xheap hp C us, gg, dr, tk, os⟩ := I.laid (t' := tk) (h' := xheap hp C us) kk big (exo_ok hget)
  have r1 : Vals (V.ref (hp.objs.size + 1) :: vs) (Value.ref (hp.objs.size + 1) :: us) := .cons rfl r
  have r2 := hb.rel r1 rz
  have e1 : (Value.ref (hp.objs.size + 1) :: us).length = n + 1 := r1.length.symm.trans (congrArg Nat.succ l1)
  have e2 : ws.length = ks.length := rz.length.symm.trans l2
  have hus : us.length ≤ sizeLine := by rw [← r.length, l1, sizeLine_eq]; omega
  refine wpAny_call (xcall S.base hT hC (PySem.W.looks_findIn I.kIn iC) (fun self => PySem.W.bind_fn I.kIn self tI) hus (codeAny_mono
    (F1.run _ X.stack _ _ ⟨Value.ref (hp.objs.size + 1) :: us, ks.zip ws⟩ (g (Value.ref (hp.objs.size + 1) :: us) ws) _ _ E0 (hr.make C us (ks.zip ws)) (I2.env0.make C us (ks.zip ws)) (hb.to _ _ ws I2.kIn e1 e2) r2 hq) fun rr s' hq' => ?_))
  cases rr with
  | error e => exact hq'.elim
  | ok fl =>
    cases fl with
    | ret u =>
      obtain ⟨v, H', I3, rv, ev, q3⟩ := I2.after hq'
      subst ev
      exact ⟨rv, ⟨V.ref (hp.objs.size + 1), H', I3, rfl, q3⟩⟩
    | next => exact hq'.elim
    | brk => exact hq'.elim
    | cont => exact hq'.elim
/-- C(e, ..) by position -/
theorem pe_xmk (S : XB B newId initId tail) (T : XC X.K C newId tail) (iC : PySem.W.findIn X.K (.ref C) "__init__" = some (some (.ref fI))) (tI : PySem.W.typeIn X.K (.ref fI) = some (.type "function")) (F1 : FnOk X.prog X.w X.K X.mg X.base CX0 k fI fd ps sp) (hr : Room (k + 1) X.A)
    (hb : KBn X.K fd ps (n + 1) [] g gV) (hg : Gl X x) (hm : X.mg x = some (.ref C)) (ha : PA X (e :: es) ta) (hdb : (x == ("__debug__" : Str)) = false := by decide)
    (he : starEach (e :: es) X.env = (false, eval e X.env) :: starEach es X.env := by rfl) (hpl : (backTo pos (starEach es X.env)).any (·.1) = false := by rfl) :
    PE X (.Call (.Name x p) (e :: es) [] pos) (tXmk C n 0 sp gV ta tNil) := by
  refine ⟨fun pins s σ H Q I h => wpAny_Call_Name_kw (ld_glob I hg hm ?_ hdb)⟩
  refine PySem.W.callWith_K (h₀ := X.base) I.ok.mod.kin T.kp (thn (ha.run pos pins s σ H _ I h) fun us s1 ⟨vs, H1, I1, r, l1, l2, l3, q⟩ => ⟨I1.kIn, ?_⟩) he hpl
  exact run_xmk (ks := []) (ws := []) (zs := []) S T iC tI F1 hr hb I1 r .nil l1 rfl l3 q
end
end Ek

set_option Elab.async false
set_option linter.all false
set_option maxRecDepth 100000
set_option maxHeartbeats 4000000
namespace Ek
open PySem PySem.Spec PyProof.Rows L2
section
variable {X : Cx} {o e : Expr} {es : List Expr} {kws : List Keyword} {to te : TE} {ta tk : TA} {f x : Str} {p p' pos : Pos} {B newId initId : String} {tail : List Value} {C fI : Addr} {k : Nat} {fd : FuncData} {ps ks : List Str} {sp : Sp} {g : List Value → List Value → List Value} {gV : List V → List V → List V}
/-- C(k = v, ..) -/
theorem pe_xmkK (S : XB B newId initId tail) (T : XC X.K C newId tail) (iC : PySem.W.findIn X.K (.ref C) "__init__" = some (some (.ref fI))) (tI : PySem.W.typeIn X.K (.ref fI) = some (.type "function")) (F1 : FnOk X.prog X.w X.K X.mg X.base CX0 k fI fd ps sp) (hr : Room (k + 1) X.A)
    (hb : KBn X.K fd ps 1 ks g gV) (hg : Gl X x) (hm : X.mg x = some (.ref C)) (hkw : PK X kws tk)
    (hall : (backToKw pos (keywordEach kws X.env)).all (·.1.isSome) = true := by rfl) (hks : (backToKw pos (keywordEach kws X.env)).filterMap (·.1) = ks := by rfl) (hdb : (x == ("__debug__" : Str)) = false := by decide)
    (hpl : ((backTo pos (starEach [] X.env)).any (·.1) || (backToKw pos (keywordEach kws X.env)).any (·.1.isNone)) = false := by rfl) :
    PE X (.Call (.Name x p) [] kws pos) (tXmk C 0 ks.length sp gV tNil tk) := by
  refine ⟨fun pins s σ H Q I h => wpAny_Call_Name_kw (ld_glob I hg hm ?_ hdb)⟩
  refine PySem.W.callWith_KW0 (h₀ := X.base) I.ok.mod.kin T.kp hall (thn (hkw.run pos pins s σ H _ I h) fun ws s2 ⟨zs, H2, I2, rz, l1, l2, l3, q2⟩ => ⟨I2.kIn, ?_⟩) hpl
  rw [hks]
  exact run_xmk (us := []) (vs := []) S T iC tI F1 hr hb I2 .nil rz rfl l2 l3 q2
/-- C(), an own exception class without an own __init__ -/
def tX0 (C : Addr) : TE := fun _ H Q => ∀ a, H a = none → Q (.ref a) (upd H a (exo a C none))
theorem pe_x0 (F : ExcBaseFacts B newId initId tail) (q : PySem.W.excIn X.K C tail newId = true) (gC : X.mg x = some (.ref C)) (kC : PySem.W.keepIn X.K (.ref C) = true) (hg : Gl X x) (hdb : (x == ("__debug__" : Str)) = false := by decide) :
    PE X (.Call (.Name x p) [] [] pos) (tX0 C) := by
  refine ⟨fun pins s σ H Q I h => wpAny_Call_Name_kw (ld_glob I hg gC (PySem.W.callWith_K0 I.kIn kC ?_) hdb)⟩
  show wpAny _ _ (call (.ref C) []) _ _ _
  obtain ⟨bm, N, nm, qn, bs, hdct, sn, sub, ab, col, dd, k0, k1, k2, k3, k5, mN, hC, hN, hni, T⟩ := exc_obj I.kIn q
  refine wpAny_call_exc_subT F T hC hN hni (fun h' a hm => ?_) (by show 0 ≤ sizeLine; omega)
  obtain ⟨t, ht, _, _⟩ := hm.there
  exact ⟨.ref a, _, I.laidN hm.keeps hm.new (I.hok.gone hm.new) (exo_ok ht), rfl, h a (I.hok.gone hm.new)⟩
/-- e.f of an exception that has its dict -/
def tXat (K : PySem.W.Frag) (f : Str) (te : TE) : TE := fun σ H Q => te σ H fun x H1 => ∃ (a C d : Addr) (fs : List (Str × V)) (v : V) (newId : String) (tail : List Value), x = .ref a ∧ H1 a = some (exo a C (some d)) ∧ H1 d = some (exd d fs) ∧
  XC K C newId tail ∧ PySem.W.findIn K (.ref C) f = some none ∧ fs.lookup f = some v ∧ Q v H1
theorem pe_xat (he : PE X e te) (hb : attributeBase e f X.env (eval e X.env) = eval e X.env := by rfl) : PE X (.Attribute e f pos) (tXat X.K f te) := by
  refine ⟨fun pins s σ H Q I h => attr_of hb (thn (he.run pins s σ H _ I h) fun u s1 hh => ?_)⟩
  obtain ⟨x, H1, I1, rx, a, C, d, fs, v, newId, tail, rfl, ea, ed, T, hno, hv, q⟩ := hh
  cases (show u = Value.ref a from rx)
  obtain ⟨t1, ho⟩ := exo_at I1.hok ea
  obtain ⟨mA, hns, rel⟩ := exd_at I1.hok ed
  obtain ⟨od, hod, hl⟩ := lookIn_ns hns
  obtain ⟨u, hu, ru⟩ := RelO.some_of (v := v) (o := mA f) (by rw [← hv]; exact rel f)
  exact HandSPX.exc_get I1.kIn (od := some od) ⟨ho, rfl, rfl, hod⟩ T.ga T.gg T.sb (PySem.W.findObj_own T.hd hno rfl (by rw [hl, hu])) (handed_of ru) ⟨v, H1, I1.tok _, ru, q⟩
end
/-! ### isinstance of such an exception -/
/-- the exception's dict, if it has one, is tracked -/
def XdOk (H : Hp) : Option Addr → Prop
  | none => True
  | some d => ∃ fs, H d = some (exd d fs)
def rIsx (K : PySem.W.Frag) : List V → Hp → VK → Prop := fun xs H Q => ∃ (a C : Addr) (d : Option Addr) (c : V) (u : Value) (b : Bool) (newId : String) (tail : List Value), xs = [.ref a, c] ∧ H a = some (exo a C d) ∧ XdOk H d ∧
  XC K C newId tail ∧ ClsV c u ∧ PySem.W.kitOne K (.ref C) u = some b ∧ Q (.bl b) H
theorem call_isx {X : Cx} : CallR X (.builtin "isinstance") (rIsx X.K) := by
  intro pins s σ H xs us Q I r h
  obtain ⟨a, C, d, c, u, b, newId, tail, rfl, ea, hd, T, k, e, q⟩ := h
  obtain ⟨u1, u2, rfl, r1, r2⟩ := vals2 r
  cases (show u1 = Value.ref a from r1)
  have eu := k.eq r2
  subst eu
  obtain ⟨t1, ho⟩ := exo_at I.hok ea
  have cls : (PySem.W.clsIn X.K C).isSome = true := by
    obtain ⟨cd, hc, _⟩ := PySem.W.any_some T.hd
    rw [hc]; rfl
  have go : ∀ od, PySem.W.InstAt s.heap a { cls := .ref C, dict := d, data := .fields #[.ref t1, .none, .none, .none, .bool false, .none] } C od → wpAny (model X.prog X.w) X.A (call (.builtin "isinstance") [.ref a, u2]) (EP X pins σ Q) X.xe s := fun od J =>
    PySem.W.kia_one (PySem.W.kitx_exc cls T.ga T.gg T.sb T.cl T.cg T.ct T.mo) I.kIn J e (fun z => nomatch z) fun tk => ⟨.bl b, H, I.tok tk, rfl, q⟩
  cases d with
  | none => exact go none ⟨ho, rfl, rfl, trivial⟩
  | some dx =>
    obtain ⟨fs, ed⟩ := hd
    obtain ⟨mA, ⟨od, _, _, hod, _⟩, _⟩ := exd_at I.hok ed
    exact go (some od) ⟨ho, rfl, rfl, hod⟩
/-! ### repr -/
/-- x is shown as z -/
def Shown (K : PySem.W.Frag) (H : Hp) : V → Str → Prop
  | .non, z => z = "None"
  | .bl b, z => z = if b then Str.ofString "True" else Str.ofString "False"
  | .int i, z => i.natAbs.log2 < 1920 ∧ z = toString i
  | .str y, z => (reprText y).length ≤ sizeLine ∧ z = reprText y
  | .ref a, z => (∃ d : PyData, Dp K H (.ref a) d ∧ d.showable = true ∧ d.hasDict = false ∧ d.depth ≤ 20 ∧ d.shown.length ≤ sizeLine ∧ z = d.shown) ∨ (H a = some (.dK []) ∧ z = (PyData.dict []).shown)
  | _, _ => False
def rRepr (K : PySem.W.Frag) : List V → Hp → VK → Prop := fun xs H Q => ∃ (x : V) (z : Str), xs = [x] ∧ Shown K H x z ∧ Q (.str z) H
theorem call_repr {X : Cx} {k : Nat} (hr : Room k X.A) (hgd : X.A.guards = some []) : CallR X (.builtin "repr") (rRepr X.K) := by
  intro pins s σ H xs us Q I r h
  obtain ⟨x, z, rfl, hs, q⟩ := h
  obtain ⟨u, rfl, ru⟩ := vals1 r
  have hun := hr.un
  cases x with
  | non => cases hs; cases (show u = Value.none from ru); exact PySem.P.repr_of_none ⟨.str _, H, I.tok _, ⟨_, rfl⟩, q⟩
  | bl b => cases hs; cases (show u = Value.bool b from ru); exact PySem.P.repr_of_bool ⟨.str _, H, I.tok _, ⟨_, rfl⟩, q⟩
  | int i =>
    obtain ⟨h1, rfl⟩ := hs
    obtain ⟨t, rfl⟩ := ru
    exact PySem.P.repr_of_int h1 ⟨.str _, H, I.tok _, ⟨_, rfl⟩, q⟩
  | str y =>
    obtain ⟨h1, rfl⟩ := hs
    obtain ⟨t, rfl⟩ := ru
    exact PySem.P.repr_of_str ⟨.str _, H, I.tok _, ⟨_, rfl⟩, q⟩ h1
  | ref a =>
    cases (show u = Value.ref a from ru)
    rcases hs with ⟨d, hd, h1, h2, h3, h4, rfl⟩ | ⟨hd, rfl⟩
    · obtain ⟨as, rd⟩ := Dp.reads I d (.ref a) (.ref a) hd rfl
      exact repr_of_reads' rd h1 (PyData.noDict_hsm h2) hgd (by omega) (fun _ _ e => e) (fun h' u tk hk => ⟨.str _, H, I.kept (t' := tk) hk, ⟨_, rfl⟩, q⟩) h4
    · obtain ⟨_, hsm, vs, kv, o, es, ep, ho, hx, hdat, _, hp, _⟩ := (show ObjOk X.prog X.w H s.heap a (.dK []) from I.hok a _ hd)
      cases kv
      have es0 : es.toList = [] := by
        cases hp' : es.toList with
        | nil => rfl
        | cons y l => rw [hp'] at hp; cases hp
      have rd : Reads s.heap (.ref a) (.dict []) (a :: [] ++ []) := .dict (kvs := []) ho hx.1 hdat (by rw [es0]; exact .nil) (by rw [es0]; exact .nil)
      refine repr_of_reads' rd rfl (fun _ hm => ?_) hgd (by show _ + (1 + 1) < _; omega) (fun _ _ e => e) (fun h' u tk hk => ⟨.str _, H, I.kept (t' := tk) hk, ⟨_, rfl⟩, q⟩) (by decide +kernel)
      have z : sysModules = a := by simpa using hm
      rw [z] at hsm
      exact absurd hsm (by simp)
  | byt b => exact hs.elim
  | flt b => exact hs.elim
  | ty n => exact hs.elim
end Ek

set_option Elab.async false
set_option linter.all false
set_option maxRecDepth 100000
set_option maxHeartbeats 4000000
namespace Ek
open PySem PySem.Spec PyProof.Rows L2
theorem PE_imp {X : Cx} {e : Expr} {t t' : TE} (hp : PE X e t) (h : ∀ σ H Q, t' σ H Q → t σ H Q) : PE X e t' := ⟨fun pins s σ H Q I hq => hp.run pins s σ H Q I (h _ _ _ hq)⟩
theorem same_new {H : Hp} {p : Addr} {o : HO} (h : H p = none) : Same H (upd H p o) := fun b o' e => by rw [upd_ne (ne_of_none e h)]; exact e
/-- y is an exception of the class at C with these fields -/
def Exn (H : Hp) (y : V) (C : Addr) (fs : List (Str × V)) : Prop := ∃ a d : Addr, y = .ref a ∧ H a = some (exo a C (some d)) ∧ H d = some (exd d fs)
theorem Exn.mono {H H' : Hp} {y : V} {C : Addr} {fs : List (Str × V)} (h : Exn H y C fs) (s : Same H H') : Exn H' y C fs := by
  obtain ⟨a, d, e, h1, h2⟩ := h
  exact ⟨a, d, e, s _ _ h1, s _ _ h2⟩
/-! ### __init__(self, f): self.f = f -/
def iniA (f : Str) (p1 p2 : Pos) : Arguments := { posonlyargs := [], args := [⟨"self", none, p1⟩, ⟨f, none, p2⟩], vararg := none, kwonlyargs := [], kw_defaults := [], kwarg := none, defaults := [] }
def iniB (f : Str) (q1 q2 q3 q4 : Pos) : List Stmt := [.Assign [.Attribute (.Name "self" q1) f q2] (.Name f q3) q4]
def spI (C : Addr) (f : Str) : Sp := fun vs H Q _ => ∃ (a : Addr) (v : V), vs = [.ref a, v] ∧ H a = some (exo a C none) ∧ ∀ dx, H dx = none → dx ≠ a → Q .non (upd (upd H dx (exd dx [(f, v)])) a (exo a C (some dx)))
def spI2 (C : Addr) (f g : Str) : Sp := fun vs H Q _ => ∃ (a : Addr) (v w : V), vs = [.ref a, v, w] ∧ H a = some (exo a C none) ∧
  ∀ dx, H dx = none → dx ≠ a → Q .non (upd (upd (upd H dx (exd dx [(f, v)])) a (exo a C (some dx))) dx (exd dx [(g, w), (f, v)]))
section
variable {P : Program} {w : World} {K : PySem.W.Frag} {mg : Str → Option Value} {base : Heap} {C fI : Addr} {fd : FuncData} {B newId initId : String} {tail : List Value} {qual : Str} {params : Arguments} {body : List Stmt} {scope : Scope} {f g : Str}
theorem ok_ini {q1 q2 q3 q4 : Pos} (F : FunD K "__init__" qual params body scope [] [] fI fd) (S : XB B newId initId tail) (T : XC K C newId tail) (hno : PySem.W.findIn K (.ref C) f = some none) (sc : FnScope ["self", f] ["self", f] scope)
    (hb : body = iniB f q1 q2 q3 q4) (hs : scope.names.lookup ("self" : Str) = some .local) (hf : scope.names.lookup f = some .local) (h1 : (f == ("__debug__" : Str)) = false) (h2 : (f == ("__classdict__" : Str)) = false) : FnOk P w K mg base CX0 1 fI fd ["self", f] (spI C f) := by
  subst hb
  refine F.ok sc (fun vs H Q E h => ?_) (fun cdv A outer s H vs Q E hr h => ⟨_, PSs.nox (pss_one (ps_xst S (pe_var (i := 0) rfl (.inl hs) (by decide) (by decide)) (pe_var (i := 1) rfl (.inl hf) h1 h2))), ?_⟩)
  · obtain ⟨a, v, rfl, _⟩ := h
    rfl
  · obtain ⟨a, v, rfl, ha, hq⟩ := h
    exact ⟨v, rfl, .ref a, rfl, a, C, rfl, T, hno, .inl ⟨ha, hq⟩⟩
def iniB2 (f g : Str) (q1 q2 q3 q4 r1 r2 r3 r4 : Pos) : List Stmt := [.Assign [.Attribute (.Name "self" q1) f q2] (.Name f q3) q4, .Assign [.Attribute (.Name "self" r1) g r2] (.Name g r3) r4]
theorem ok_ini2 {q1 q2 q3 q4 r1 r2 r3 r4 : Pos} (F : FunD K "__init__" qual params body scope [] [] fI fd) (S : XB B newId initId tail) (T : XC K C newId tail) (hno : PySem.W.findIn K (.ref C) f = some none) (hno2 : PySem.W.findIn K (.ref C) g = some none)
    (sc : FnScope ["self", f, g] ["self", f, g] scope) (hb : body = iniB2 f g q1 q2 q3 q4 r1 r2 r3 r4) (hs : scope.names.lookup ("self" : Str) = some .local) (hf : scope.names.lookup f = some .local) (hg : scope.names.lookup g = some .local)
    (h1 : (f == ("__debug__" : Str)) = false) (h2 : (f == ("__classdict__" : Str)) = false) (h3 : (g == ("__debug__" : Str)) = false) (h4 : (g == ("__classdict__" : Str)) = false) : FnOk P w K mg base CX0 1 fI fd ["self", f, g] (spI2 C f g) := by
  subst hb
  refine F.ok sc (fun vs H Q E h => ?_) (fun cdv A outer s H vs Q E hr h => ⟨_, PSs.nox (pss_cons (ps_xst S (pe_var (i := 0) rfl (.inl hs) (by decide) (by decide)) (pe_var (i := 1) rfl (.inl hf) h1 h2))
    (pss_one (ps_xst S (pe_var (i := 0) rfl (.inl hs) (by decide) (by decide)) (pe_var (i := 2) rfl (.inl hg) h3 h4)))), ?_⟩)
  · obtain ⟨a, v, u, rfl, _⟩ := h
    rfl
  · obtain ⟨a, v, u, rfl, ha, hq⟩ := h
    refine ⟨v, rfl, .ref a, rfl, a, C, rfl, T, hno, .inl ⟨ha, fun dx hd ne => ?_⟩⟩
    exact ⟨u, rfl, .ref a, rfl, a, C, rfl, T, hno2, .inr ⟨dx, [(f, v)], upd_same, by rw [upd_ne ne, upd_same], (show 1 ≤ 900 by decide), hq dx hd ne⟩⟩
end
/-! ### a class with one field, with two: all that its calls want -/
/-- y is an exception whose class has the fields' names free and stands in the families bb -/
def Good (K : PySem.W.Frag) (H : Hp) (kit : Addr → Prop) (fs : List (Str × V)) (y : V) : Prop := ∃ (C : Addr) (newId : String) (tail : List Value), Exn H y C fs ∧ XC K C newId tail ∧ (∀ q ∈ fs, PySem.W.findIn K (.ref C) q.1 = some none) ∧ kit C
theorem Good.mono {K : PySem.W.Frag} {H H' : Hp} {kit : Addr → Prop} {fs : List (Str × V)} {y : V} (h : Good K H kit fs y) (s : Same H H') : Good K H' kit fs y := by
  obtain ⟨C, n, t, e, r⟩ := h
  exact ⟨C, n, t, e.mono s, r⟩
structure XR1 (P : Program) (w : World) (K : PySem.W.Frag) (mg : Str → Option Value) (base : Heap) (x f : Str) (C : Addr) (kit : Addr → Prop) : Prop where
  g : mg x = some (.ref C)
  ki : kit C
  no : PySem.W.findIn K (.ref C) f = some none
  all : ∃ (B newId initId : String) (tail : List Value) (fI : Addr) (fd : FuncData), XB B newId initId tail ∧ XC K C newId tail ∧ PySem.W.findIn K (.ref C) "__init__" = some (some (.ref fI)) ∧ PySem.W.typeIn K (.ref fI) = some (.type "function") ∧
    FnOk P w K mg base CX0 1 fI fd ["self", f] (spI C f) ∧ KBn K fd ["self", f] 2 [] (fun us _ => us) (fun vs _ => vs) ∧ KBn K fd ["self", f] 1 [f] (fun us ws => us ++ ws) (fun vs zs => vs ++ zs)
structure XR2 (P : Program) (w : World) (K : PySem.W.Frag) (mg : Str → Option Value) (base : Heap) (x f g : Str) (C : Addr) (kit : Addr → Prop) : Prop where
  gl : mg x = some (.ref C)
  ki : kit C
  no : PySem.W.findIn K (.ref C) f = some none ∧ PySem.W.findIn K (.ref C) g = some none
  all : ∃ (B newId initId : String) (tail : List Value) (fI : Addr) (fd : FuncData), XB B newId initId tail ∧ XC K C newId tail ∧ PySem.W.findIn K (.ref C) "__init__" = some (some (.ref fI)) ∧ PySem.W.typeIn K (.ref fI) = some (.type "function") ∧
    FnOk P w K mg base CX0 1 fI fd ["self", f, g] (spI2 C f g) ∧ KBn K fd ["self", f, g] 3 [] (fun us _ => us) (fun vs _ => vs) ∧ KBn K fd ["self", f, g] 1 [g, f] (fun us ws => us ++ ws.reverse) (fun vs zs => vs ++ zs.reverse)
section
variable {K : PySem.W.Frag} {C : Addr} {f g : Str} {v u : V} {H : Hp} {Q : VK}
theorem spI_ok (h : ∀ y H', Same H H' → Exn H' y C [(f, v)] → Q y H') (a : Addr) (ha : H a = none) : spI C f [.ref a, v] (upd H a (exo a C none)) (fun r H3 => r = .non ∧ Q (.ref a) H3) E0 := by
  refine ⟨a, v, rfl, upd_same, fun dx hd ne => ⟨rfl, h _ _ (fun b o e => ?_) ⟨a, dx, rfl, upd_same, by rw [upd_ne ne, upd_same]⟩⟩⟩
  rw [upd_ne ne] at hd
  rw [upd_ne (ne_of_none e ha), upd_ne (ne_of_none e hd), upd_ne (ne_of_none e ha)]
  exact e
theorem spI2_ok (h : ∀ y H', Same H H' → Exn H' y C [(g, u), (f, v)] → Q y H') (a : Addr) (ha : H a = none) : spI2 C f g [.ref a, v, u] (upd H a (exo a C none)) (fun r H3 => r = .non ∧ Q (.ref a) H3) E0 := by
  refine ⟨a, v, u, rfl, upd_same, fun dx hd ne => ⟨rfl, h _ _ (fun b o e => ?_) ⟨a, dx, rfl, by rw [upd_ne (Ne.symm ne), upd_same], upd_same⟩⟩⟩
  rw [upd_ne ne] at hd
  rw [upd_ne (ne_of_none e hd), upd_ne (ne_of_none e ha), upd_ne (ne_of_none e hd), upd_ne (ne_of_none e ha)]
  exact e
end
def tV1 (K : PySem.W.Frag) (f : Str) (kit : Addr → Prop) (te : TE) : TE := fun σ H Q => te σ H fun v H1 => ∀ y H', Same H1 H' → Good K H' kit [(f, v)] y → Q y H'
def tV2 (K : PySem.W.Frag) (f g : Str) (kit : Addr → Prop) (te tu : TE) : TE := fun σ H Q => te σ H fun v H1 => tu σ H1 fun u H2 => ∀ y H', Same H2 H' → Good K H' kit [(g, u), (f, v)] y → Q y H'
section
variable {X : Cx} {x f g : Str} {C : Addr} {kit : Addr → Prop} {e e2 : Expr} {te tu : TE} {p pos kp kp2 : Pos}
/-- TE respects what follows -/
def Mon (t : TE) : Prop := ∀ σ H (Q Q' : VK), (∀ v H', Q v H' → Q' v H') → t σ H Q → t σ H Q'
theorem mon_var {i : Nat} : Mon (tVar i) := fun _ _ _ _ h ⟨v, e, q⟩ => ⟨v, e, h _ _ q⟩
theorem pe_v1 (R : XR1 X.prog X.w X.K X.mg X.base x f C kit) (hr : Room 2 X.A) (hg : Gl X x) (he : PE X e te) (hm : Mon te) (hdb : (x == ("__debug__" : Str)) = false := by decide)
    (hst : starEach [e] X.env = (false, eval e X.env) :: starEach [] X.env := by rfl) : PE X (.Call (.Name x p) [e] [] pos) (tV1 X.K f kit te) := by
  obtain ⟨B, nw, ini, tl, fI, fd, S, T, iC, tI, F, b1, _⟩ := R.all
  refine PE_imp (pe_xmk (n := 1) S T iC tI F hr b1 hg R.g (pa_cons he pa_nil hst) hdb hst (by rfl)) fun σ H Q h => hm _ _ _ _ (fun v H1 q => ?_) h
  refine ⟨rfl, rfl, (show 1 ≤ 1000 by decide), spI_ok fun y H' s z => q y H' s ⟨C, _, _, z, T, fun q hq => ?_, R.ki⟩⟩
  cases List.mem_singleton.mp hq
  exact R.no
theorem pe_v1k (R : XR1 X.prog X.w X.K X.mg X.base x f C kit) (hr : Room 2 X.A) (hg : Gl X x) (he : PE X e te) (hm : Mon te) (hdb : (x == ("__debug__" : Str)) = false := by decide) : PE X (.Call (.Name x p) [] [⟨some f, e, kp⟩] pos) (tV1 X.K f kit te) := by
  obtain ⟨B, nw, ini, tl, fI, fd, S, T, iC, tI, F, _, b2⟩ := R.all
  refine PE_imp (pe_xmkK S T iC tI F hr b2 hg R.g (pk_cons he pk_nil) (by rfl) (by rfl) hdb (by rfl)) fun σ H Q h => hm _ _ _ _ (fun v H1 q => ?_) h
  refine ⟨rfl, rfl, (show 0 ≤ 1000 by decide), spI_ok fun y H' s z => q y H' s ⟨C, _, _, z, T, fun q hq => ?_, R.ki⟩⟩
  cases List.mem_singleton.mp hq
  exact R.no
theorem pe_v2 (R : XR2 X.prog X.w X.K X.mg X.base x f g C kit) (hr : Room 2 X.A) (hg : Gl X x) (he : PE X e te) (hm : Mon te) (he2 : PE X e2 tu) (hm2 : Mon tu) (hdb : (x == ("__debug__" : Str)) = false := by decide)
    (hst : starEach [e, e2] X.env = (false, eval e X.env) :: starEach [e2] X.env := by rfl) (hst2 : starEach [e2] X.env = (false, eval e2 X.env) :: starEach [] X.env := by rfl) (hpl : (backTo pos (starEach [e2] X.env)).any (·.1) = false := by rfl) : PE X (.Call (.Name x p) [e, e2] [] pos) (tV2 X.K f g kit te tu) := by
  obtain ⟨B, nw, ini, tl, fI, fd, S, T, iC, tI, F, b1, _⟩ := R.all
  refine PE_imp (pe_xmk (n := 2) S T iC tI F hr b1 hg R.gl (pa_cons he (pa_cons he2 pa_nil hst2) hst) hdb hst hpl) fun σ H Q h => hm _ _ _ _ (fun v H1 q => hm2 _ _ _ _ (fun u H2 q => ?_) q) h
  refine ⟨rfl, rfl, (show 2 ≤ 1000 by decide), spI2_ok fun y H' s z => q y H' s ⟨C, _, _, z, T, fun q hq => ?_, R.ki⟩⟩
  rcases List.mem_cons.mp hq with e | hq
  · rw [e]; exact R.no.2
  · cases List.mem_singleton.mp hq; exact R.no.1
/-- C(g = .., f = ..) -/
theorem pe_v2k (R : XR2 X.prog X.w X.K X.mg X.base x f g C kit) (hr : Room 2 X.A) (hg : Gl X x) (he : PE X e te) (hm : Mon te) (he2 : PE X e2 tu) (hm2 : Mon tu) (hdb : (x == ("__debug__" : Str)) = false := by decide) :
    PE X (.Call (.Name x p) [] [⟨some g, e2, kp2⟩, ⟨some f, e, kp⟩] pos) (fun σ H Q => tu σ H fun u H1 => te σ H1 fun v H2 => ∀ y H', Same H2 H' → Good X.K H' kit [(g, u), (f, v)] y → Q y H') := by
  obtain ⟨B, nw, ini, tl, fI, fd, S, T, iC, tI, F, _, b2⟩ := R.all
  refine PE_imp (pe_xmkK S T iC tI F hr b2 hg R.gl (pk_cons he2 (pk_cons he pk_nil)) (by rfl) (by rfl) hdb (by rfl)) fun σ H Q h => hm2 _ _ _ _ (fun u H1 q => hm _ _ _ _ (fun v H2 q => ?_) q) h
  refine ⟨rfl, rfl, (show 0 ≤ 1000 by decide), spI2_ok fun y H' s z => q y H' s ⟨C, _, _, z, T, fun q hq => ?_, R.ki⟩⟩
  rcases List.mem_cons.mp hq with e | hq
  · rw [e]; exact R.no.2
  · cases List.mem_singleton.mp hq; exact R.no.1
end
section
variable {K : PySem.W.Frag} {x qual : Str} {params : Arguments} {body : List Stmt} {scope : Scope} {f : Addr} {fd : FuncData} {ps ks : List Str} {n : Nat} {g : List Value → List Value → List Value} {gV : List V → List V → List V}
/-- how a def without defaults binds -/
theorem kbn (F : FunD K x qual params body scope [] [] f fd)
    (h : ∀ (kV doc pm : Value) (an : Option Addr) (cdv ct : Value) (us ws : List Value), us.length = n → ws.length = ks.length → bindArgs (PySem.W.fnOf x qual params body scope .none kV doc pm an cdv ct) ⟨us, ks.zip ws⟩ = pure (ps.zip (g us ws)))
    (rel : ∀ {vs : List V} {us : List Value} {zs : List V} {ws : List Value}, Vals vs us → Vals zs ws → Vals (gV vs zs) (g us ws)) : KBn K fd ps n ks g gV := by
  obtain ⟨oc, od, dV, kV, doc, pm, an, cdv, ct, osl, rfl, lk, hcd, hD, hK⟩ := F.ex
  rcases hD with ⟨_, rfl⟩ | ⟨e, _⟩
  · exact ⟨fun s us ws _ l1 l2 => .of_eq (h kV doc pm an cdv ct us ws l1 l2), rel⟩
  · exact absurd rfl e
theorem vals_rev : ∀ {vs : List V} {us : List Value}, Vals vs us → Vals vs.reverse us.reverse
  | _, _, .nil => .nil
  | _, _, .cons r t => by
    rw [List.reverse_cons, List.reverse_cons]
    exact (vals_rev t).append (.cons r .nil)
end
end Ek

set_option Elab.async false
set_option linter.all false
set_option maxRecDepth 100000
set_option maxHeartbeats 0
namespace Ek
open PySem PySem.Spec PyProof.Rows L2
/-! ### the head's facts, with one Bool more -/
def frK {α : Type} : PySem.W.Frag → (PySem.W.Frag → α) → α
  | [], k => k []
  | (a, o) :: r, k => frK r fun r' => k ((a, o) :: r')
theorem frK_eq {α : Type} : ∀ (K : PySem.W.Frag) (k : PySem.W.Frag → α), frK K k = k K
  | [], _ => rfl
  | (_, _) :: r, k => frK_eq r _
def obsM (n : Nat) (fa : List He.Fa) (fn : List He.DefD) (ex : PySem.W.Frag → Bool) (g : Addr → Option Obj) : He.AlD × Bool := frK (He.frG g (He.asD g n)) fun K => (He.obsD fa fn K, ex K)
def hookM (n : Nat) (fa : List He.Fa) (fn : List He.DefD) (ex : PySem.W.Frag → Bool) : PySem.W.Hook where
  α := He.AlD × Bool
  obs := fun s => obsM n fa fn ex s.heap.get?
  val := fun _ => (He.valD fn, true)
  says := fun _ h => ∃ K : PySem.W.Frag, K.In h ∧ He.SaysD fa fn K ∧ ex K = true
  of := fun _ _ e => by
    unfold obsM at e
    rw [frK_eq] at e
    exact ⟨_, He.frG_in, congrArg Prod.fst e, congrArg Prod.snd e⟩
  keeps := fun _ _ _ ⟨K, hK, c⟩ k => ⟨K, PySem.W.Frag.In.keeps hK k, c⟩
theorem obsM_eq {n : Nat} {fa : List He.Fa} {fn : List He.DefD} {ex : PySem.W.Frag → Bool} {g : Addr → Option Obj} {s : Shared} (h : ∀ a, g a = s.heap.get? a) : obsM n fa fn ex g = (hookM n fa fn ex).obs s := by
  have e : g = s.heap.get? := funext h
  rw [e] <;> rfl
/-! ### facts of exception classes by a Bool -/
def xcB (K : PySem.W.Frag) (C : Addr) (newId : String) (tail : List Value) : Bool :=
  PySem.W.excInitIn K C tail newId && (PySem.W.excOver K C tail && (PySem.W.keepIn K (.ref C) && (He.eqO (PySem.W.findIn K (.ref C) "__setattr__") (some (some (.builtin "object.__setattr__"))) &&
  (He.eqO (PySem.W.findIn K (.ref C) "__getattribute__") (some (some (.builtin "BaseException.__getattribute__"))) && (He.eqO (PySem.W.findIn K (.ref C) "__getattr__") (some none) && (decide (PySem.W.subIn K (.ref C) (.type "BaseException") = some true) &&
  (PySem.W.hasDictIn K C && (He.eqO (PySem.W.findIn K (.ref C) "__class__") (some (some (.builtin "object.__class__"))) && (He.eqO (PySem.W.specialIn K (.builtin "object.__class__") "__get__") (some (some (.builtin "getset_descriptor.__get__"))) &&
  (decide (PySem.W.takesIn K (.builtin "object.__class__") = some true) && decide (PySem.W.mroIn K C (.type "object") = some true)))))))))))
theorem xcB_ok {K : PySem.W.Frag} {C : Addr} {newId : String} {tail : List Value} (h : xcB K C newId tail = true) : XC K C newId tail := by
  unfold xcB at h
  simp only [Bool.and_eq_true, decide_eq_true_eq] at h
  obtain ⟨h1, h2, h3, h4, h5, h6, h7, h8, h9, h10, h11, h12⟩ := h
  exact ⟨h1, h2, h3, He.eqO_ok h4, He.eqO_ok h5, He.eqO_ok h6, h7, h8, He.eqO_ok h9, He.eqO_ok h10, h11, h12⟩
/-- its fields are no attributes of the class, its __init__ is a def of its own -/
def xiB (K : PySem.W.Frag) (C : Addr) (fs : List Str) : Bool := fs.all (fun f => He.eqO (PySem.W.findIn K (.ref C) f) (some none)) &&
  (He.eqO (PySem.W.findIn K (.ref C) "__init__") (some (some (.ref (He.ma K C "__init__")))) && decide (PySem.W.typeIn K (.ref (He.ma K C "__init__")) = some (.type "function")))
/-- which of the classes cs it is an instance of -/
def kiB (K : PySem.W.Frag) (C : Addr) (cs : List (Value × Bool)) : Bool := cs.all fun q => decide (PySem.W.kitOne K (.ref C) q.1 = some q.2)
def six (K : PySem.W.Frag) (a b c : Bool) : List (Value × Bool) := [(.ref (He.ga K "TextError"), a), (.ref (He.ga K "ProgramError"), b), (.ref (He.ga K "KeepError"), c), (.type "ValueError", a), (.type "LookupError", b), (.type "RuntimeError", c)]
end Ek
namespace E01
open PySem PySem.Spec PyProof.Rows L2
def top (i : Nat) : Stmt := PySem.Challenge.pw_evenkeeps_k01_errors_and_limits.main.body.getD i (.Pass ⟨0, 0, 0, 0⟩)
def lV : List (Str × List Str) := [("InvalidText", ["value"]), ("NotARatio", ["value"]), ("NotASampler", ["value"]), ("NotAJoin", ["value"]), ("NotAPlayer", ["value"]), ("InvalidLength", ["value"]), ("InvalidItem", ["value"]), ("InvalidPlace", ["value"]), ("InvalidCount", ["value"]), ("InvalidFraction", ["value"]), ("InvalidDraws", ["index"]), ("InvalidEdit", ["index"])]
def lL : List (Str × List Str) := [("UnknownPlace", ["line"]), ("NotDrawn", ["line"]), ("DrawnTwice", ["line"]), ("BelowOne", ["line"]), ("TooMuch", ["what"]), ("Unsettled", ["line"])]
def lR : List (Str × List Str) := [("Gap", ["at"]), ("Missing", ["name"]), ("Refused", ["name", "demand"])]
def l0 : List Str := ["UnlikePlaces", "NothingBack", "Held", "ZeroBelow"]
open Ek in
def ex (K : PySem.W.Frag) : Bool :=
  (lV.all fun q => xcB K (He.ga K q.1) "ValueError.__new__" tlV && (xiB K (He.ga K q.1) q.2 && kiB K (He.ga K q.1) (six K true false false))) &&
  ((lL.all fun q => xcB K (He.ga K q.1) "LookupError.__new__" tlL && (xiB K (He.ga K q.1) q.2 && kiB K (He.ga K q.1) (six K false true false))) &&
  ((lR.all fun q => xcB K (He.ga K q.1) "RuntimeError.__new__" tlR && (xiB K (He.ga K q.1) q.2 && kiB K (He.ga K q.1) (six K false false true))) &&
  (l0.all fun x => xcB K (He.ga K x) "RuntimeError.__new__" tlR && (PySem.W.excIn K (He.ga K x) tlR "RuntimeError.__new__" && kiB K (He.ga K x) (six K false false true)))))
def dInvalidText : He.DefD := ⟨("InvalidText", some "__init__"), "__init__", "InvalidText.__init__", defArgs (inClass (top 2) 0), defBody (inClass (top 2) 0), defScope (inClass (top 2) 0), [], []⟩
def dNotARatio : He.DefD := ⟨("NotARatio", some "__init__"), "__init__", "NotARatio.__init__", defArgs (inClass (top 3) 0), defBody (inClass (top 3) 0), defScope (inClass (top 3) 0), [], []⟩
def dNotASampler : He.DefD := ⟨("NotASampler", some "__init__"), "__init__", "NotASampler.__init__", defArgs (inClass (top 4) 0), defBody (inClass (top 4) 0), defScope (inClass (top 4) 0), [], []⟩
def dNotAJoin : He.DefD := ⟨("NotAJoin", some "__init__"), "__init__", "NotAJoin.__init__", defArgs (inClass (top 5) 0), defBody (inClass (top 5) 0), defScope (inClass (top 5) 0), [], []⟩
def dNotAPlayer : He.DefD := ⟨("NotAPlayer", some "__init__"), "__init__", "NotAPlayer.__init__", defArgs (inClass (top 6) 0), defBody (inClass (top 6) 0), defScope (inClass (top 6) 0), [], []⟩
def dInvalidLength : He.DefD := ⟨("InvalidLength", some "__init__"), "__init__", "InvalidLength.__init__", defArgs (inClass (top 7) 0), defBody (inClass (top 7) 0), defScope (inClass (top 7) 0), [], []⟩
def dInvalidItem : He.DefD := ⟨("InvalidItem", some "__init__"), "__init__", "InvalidItem.__init__", defArgs (inClass (top 8) 0), defBody (inClass (top 8) 0), defScope (inClass (top 8) 0), [], []⟩
def dInvalidPlace : He.DefD := ⟨("InvalidPlace", some "__init__"), "__init__", "InvalidPlace.__init__", defArgs (inClass (top 9) 0), defBody (inClass (top 9) 0), defScope (inClass (top 9) 0), [], []⟩
def dInvalidCount : He.DefD := ⟨("InvalidCount", some "__init__"), "__init__", "InvalidCount.__init__", defArgs (inClass (top 10) 0), defBody (inClass (top 10) 0), defScope (inClass (top 10) 0), [], []⟩
def dInvalidFraction : He.DefD := ⟨("InvalidFraction", some "__init__"), "__init__", "InvalidFraction.__init__", defArgs (inClass (top 11) 0), defBody (inClass (top 11) 0), defScope (inClass (top 11) 0), [], []⟩
def dInvalidDraws : He.DefD := ⟨("InvalidDraws", some "__init__"), "__init__", "InvalidDraws.__init__", defArgs (inClass (top 12) 0), defBody (inClass (top 12) 0), defScope (inClass (top 12) 0), [], []⟩
def dInvalidEdit : He.DefD := ⟨("InvalidEdit", some "__init__"), "__init__", "InvalidEdit.__init__", defArgs (inClass (top 13) 0), defBody (inClass (top 13) 0), defScope (inClass (top 13) 0), [], []⟩
def dUnknownPlace : He.DefD := ⟨("UnknownPlace", some "__init__"), "__init__", "UnknownPlace.__init__", defArgs (inClass (top 15) 0), defBody (inClass (top 15) 0), defScope (inClass (top 15) 0), [], []⟩
def dNotDrawn : He.DefD := ⟨("NotDrawn", some "__init__"), "__init__", "NotDrawn.__init__", defArgs (inClass (top 16) 0), defBody (inClass (top 16) 0), defScope (inClass (top 16) 0), [], []⟩
def dDrawnTwice : He.DefD := ⟨("DrawnTwice", some "__init__"), "__init__", "DrawnTwice.__init__", defArgs (inClass (top 17) 0), defBody (inClass (top 17) 0), defScope (inClass (top 17) 0), [], []⟩
def dBelowOne : He.DefD := ⟨("BelowOne", some "__init__"), "__init__", "BelowOne.__init__", defArgs (inClass (top 18) 0), defBody (inClass (top 18) 0), defScope (inClass (top 18) 0), [], []⟩
def dTooMuch : He.DefD := ⟨("TooMuch", some "__init__"), "__init__", "TooMuch.__init__", defArgs (inClass (top 19) 0), defBody (inClass (top 19) 0), defScope (inClass (top 19) 0), [], []⟩
def dUnsettled : He.DefD := ⟨("Unsettled", some "__init__"), "__init__", "Unsettled.__init__", defArgs (inClass (top 20) 0), defBody (inClass (top 20) 0), defScope (inClass (top 20) 0), [], []⟩
def dGap : He.DefD := ⟨("Gap", some "__init__"), "__init__", "Gap.__init__", defArgs (inClass (top 26) 0), defBody (inClass (top 26) 0), defScope (inClass (top 26) 0), [], []⟩
def dMissing : He.DefD := ⟨("Missing", some "__init__"), "__init__", "Missing.__init__", defArgs (inClass (top 27) 0), defBody (inClass (top 27) 0), defScope (inClass (top 27) 0), [], []⟩
def dRefused : He.DefD := ⟨("Refused", some "__init__"), "__init__", "Refused.__init__", defArgs (inClass (top 28) 0), defBody (inClass (top 28) 0), defScope (inClass (top 28) 0), [], []⟩
def d_law_well : He.DefD := ⟨("_law_well", none), "_law_well", "_law_well", defArgs (top 37), defBody (top 37), defScope (top 37), [], []⟩
def d_law_dip : He.DefD := ⟨("_law_dip", none), "_law_dip", "_law_dip", defArgs (top 38), defBody (top 38), defScope (top 38), [], []⟩
def d_law_any : He.DefD := ⟨("_law_any", none), "_law_any", "_law_any", defArgs (top 39), defBody (top 39), defScope (top 39), [], []⟩
def d_law_families : He.DefD := ⟨("_law_families", none), "_law_families", "_law_families", defArgs (top 40), defBody (top 40), defScope (top 40), [], []⟩
def d_law_due : He.DefD := ⟨("_law_due", none), "_law_due", "_law_due", defArgs (top 41), defBody (top 41), defScope (top 41), [], []⟩
def d_law_texts_right : He.DefD := ⟨("_law_texts_right", none), "_law_texts_right", "_law_texts_right", defArgs (top 42), defBody (top 42), defScope (top 42), [], []⟩
def d_law_others_right : He.DefD := ⟨("_law_others_right", none), "_law_others_right", "_law_others_right", defArgs (top 43), defBody (top 43), defScope (top 43), [], []⟩
def d_law : He.DefD := ⟨("law", none), "law", "law", defArgs (top 44), defBody (top 44), defScope (top 44), [], []⟩
def fn : List He.DefD := [dInvalidText, dNotARatio, dNotASampler, dNotAJoin, dNotAPlayer, dInvalidLength, dInvalidItem, dInvalidPlace, dInvalidCount, dInvalidFraction, dInvalidDraws, dInvalidEdit, dUnknownPlace, dNotDrawn, dDrawnTwice, dBelowOne, dTooMuch, dUnsettled, dGap, dMissing, dRefused, d_law_well, d_law_dip, d_law_any, d_law_families, d_law_due, d_law_texts_right, d_law_others_right, d_law]
def fa1 : List He.Fa := [.glo "InvalidText", .glo "NotARatio", .glo "NotASampler", .glo "NotAJoin", .glo "NotAPlayer", .glo "InvalidLength", .glo "InvalidItem", .glo "InvalidPlace", .glo "InvalidCount", .glo "InvalidFraction", .glo "InvalidDraws", .glo "InvalidEdit", .glo "UnknownPlace", .glo "NotDrawn", .glo "DrawnTwice", .glo "BelowOne", .glo "TooMuch", .glo "Unsettled", .glo "Gap", .glo "Missing", .glo "Refused", .glo "UnlikePlaces", .glo "NothingBack", .glo "Held", .glo "ZeroBelow", .glo "TextError", .glo "ProgramError", .glo "KeepError"]
def fa2 : List He.Fa := [.glo "_law_well", .glo "_law_dip", .glo "_law_any", .glo "_law_families", .glo "_law_due", .glo "_law_texts_right", .glo "_law_others_right", .glo "law", .int "MOST_PLACES" 3, .int "MOST_STATEMENTS" 24, .int "MOST_DRAWS" 6, .int "MOST_NESTED" 4, .int "MOST_ON_A_WAY" 3, .int "MOST_LENGTH" 60, .int "SETTLED" 19, .free "len", .free "range", .free "max", .free "min", .free "int", .free "abs", .free "isinstance", .free "all", .free "repr", .free "str", .free "ValueError", .free "LookupError", .free "RuntimeError"]
def fa : List He.Fa := fa1 ++ fa2
def nm1 : List Str := ["InvalidText", "NotARatio", "NotASampler", "NotAJoin", "NotAPlayer", "InvalidLength", "InvalidItem", "InvalidPlace", "InvalidCount", "InvalidFraction", "InvalidDraws", "InvalidEdit", "UnknownPlace", "NotDrawn", "DrawnTwice", "BelowOne", "TooMuch", "Unsettled", "Gap", "Missing", "Refused"]
def nm2 : List Str := ["UnlikePlaces", "NothingBack", "Held", "ZeroBelow", "TextError", "ProgramError", "KeepError", "MOST_PLACES", "MOST_STATEMENTS", "MOST_DRAWS", "MOST_NESTED", "MOST_ON_A_WAY", "MOST_LENGTH", "SETTLED", "_law_well", "_law_dip", "_law_any", "_law_families", "_law_due", "_law_texts_right", "_law_others_right"]
def nms : List Str := nm1 ++ nm2
abbrev R : PySem.W.OpenRow := PySem.W.OpenLaw.row PySem.Challenge.rw_evenkeeps_k01_errors_and_limits
abbrev hk : PySem.W.Hook := Ek.hookM 4 fa fn ex
def ob (s : PySem.W.SharedT) : He.AlD × Bool := Ek.obsM 4 fa fn ex (HandSHeadRun.getT s)
theorem ob_eq (s : PySem.W.SharedT) : ob s = hk.obs s.abs := Ek.obsM_eq (HandSHeadRun.getT_eq s)
theorem run (w : World) : HandSHeadRun.RunEq R (PySem.W.view R.prog [44]) hk ob 8000 nms w := by
  intro os
  kernel_rfl
end E01

set_option Elab.async false
set_option linter.all false
set_option maxRecDepth 100000
set_option maxHeartbeats 4000000
namespace E01
open PySem PySem.Spec PyProof.Rows L2
/-- the k-th family: TextError, ProgramError, KeepError -/
def fam (K : PySem.W.Frag) (k : Nat) (C : Addr) : Prop := Ek.kiB K C (Ek.six K (k == 0) (k == 1) (k == 2)) = true
section
variable {P : Program} {w : World} {K : PySem.W.Frag} {mg : Str → Option Value} {base h : Heap}
theorem facts_of (m : ex K = true) : (∀ q ∈ lV, Ek.XC K (He.ga K q.1) "ValueError.__new__" Ek.tlV ∧ Ek.xiB K (He.ga K q.1) q.2 = true ∧ fam K 0 (He.ga K q.1)) ∧ (∀ q ∈ lL, Ek.XC K (He.ga K q.1) "LookupError.__new__" Ek.tlL ∧ Ek.xiB K (He.ga K q.1) q.2 = true ∧ fam K 1 (He.ga K q.1)) ∧
    (∀ q ∈ lR, Ek.XC K (He.ga K q.1) "RuntimeError.__new__" Ek.tlR ∧ Ek.xiB K (He.ga K q.1) q.2 = true ∧ fam K 2 (He.ga K q.1)) ∧
    ∀ x ∈ l0, Ek.XC K (He.ga K x) "RuntimeError.__new__" Ek.tlR ∧ PySem.W.excIn K (He.ga K x) Ek.tlR "RuntimeError.__new__" = true ∧ fam K 2 (He.ga K x) := by
  unfold ex at m
  simp only [Bool.and_eq_true, List.all_eq_true] at m
  obtain ⟨h1, h2, h3, h4⟩ := m
  exact ⟨fun q hq => ⟨Ek.xcB_ok (h1 q hq).1, (h1 q hq).2.1, (h1 q hq).2.2⟩, fun q hq => ⟨Ek.xcB_ok (h2 q hq).1, (h2 q hq).2.1, (h2 q hq).2.2⟩, fun q hq => ⟨Ek.xcB_ok (h3 q hq).1, (h3 q hq).2.1, (h3 q hq).2.2⟩,
    fun q hq => ⟨Ek.xcB_ok (h4 q hq).1, (h4 q hq).2.1, (h4 q hq).2.2⟩⟩
theorem xi_of {C : Addr} {fs : List Str} (h : Ek.xiB K C fs = true) : (∀ f ∈ fs, PySem.W.findIn K (.ref C) f = some none) ∧ PySem.W.findIn K (.ref C) "__init__" = some (some (.ref (He.ma K C "__init__"))) ∧ PySem.W.typeIn K (.ref (He.ma K C "__init__")) = some (.type "function") := by
  unfold Ek.xiB at h
  simp only [Bool.and_eq_true, List.all_eq_true, decide_eq_true_eq] at h
  exact ⟨fun f hf => He.eqO_ok (h.1 f hf), He.eqO_ok h.2.1, h.2.2⟩
theorem r_InvalidText (c : He.SaysD fa fn K) (m : ex K = true) (X : K.In h) (G : h.Ns mainGlobals mg) : Ek.XR1 P w K mg base "InvalidText" "value" (He.ga K "InvalidText") (fam K 0) := by
  obtain ⟨fd, F⟩ := c.def_ 0 (d := dInvalidText) rfl
  obtain ⟨T, xi, ki⟩ := (facts_of m).1 ("InvalidText", ["value"]) (by simp [lV])
  obtain ⟨no, ini, tin⟩ := xi_of xi
  have no := no "value" (by simp)
  exact ⟨He.glo_ok X G (c.fact 0 (f := .glo "InvalidText") rfl), ki, no, _, _, _, _, _, fd, Ek.xbV, T, ini, tin, Ek.ok_ini (q1 := _) (q2 := _) (q3 := _) (q4 := _) F Ek.xbV T no ⟨rfl, rfl, rfl, by decide +kernel, rfl, by decide +kernel, by decide +kernel⟩ rfl rfl rfl (by decide) (by decide),
    Ek.kbn F (fun _ _ _ _ _ _ us ws l1 l2 => match us, ws, l1, l2 with | [_, _], [], _, _ => rfl) (fun r _ => r), Ek.kbn F (fun _ _ _ _ _ _ us ws l1 l2 => match us, ws, l1, l2 with | [_], [_], _, _ => rfl) (fun r z => r.append z)⟩
theorem r_NotARatio (c : He.SaysD fa fn K) (m : ex K = true) (X : K.In h) (G : h.Ns mainGlobals mg) : Ek.XR1 P w K mg base "NotARatio" "value" (He.ga K "NotARatio") (fam K 0) := by
  obtain ⟨fd, F⟩ := c.def_ 1 (d := dNotARatio) rfl
  obtain ⟨T, xi, ki⟩ := (facts_of m).1 ("NotARatio", ["value"]) (by simp [lV])
  obtain ⟨no, ini, tin⟩ := xi_of xi
  have no := no "value" (by simp)
  exact ⟨He.glo_ok X G (c.fact 1 (f := .glo "NotARatio") rfl), ki, no, _, _, _, _, _, fd, Ek.xbV, T, ini, tin, Ek.ok_ini (q1 := _) (q2 := _) (q3 := _) (q4 := _) F Ek.xbV T no ⟨rfl, rfl, rfl, by decide +kernel, rfl, by decide +kernel, by decide +kernel⟩ rfl rfl rfl (by decide) (by decide),
    Ek.kbn F (fun _ _ _ _ _ _ us ws l1 l2 => match us, ws, l1, l2 with | [_, _], [], _, _ => rfl) (fun r _ => r), Ek.kbn F (fun _ _ _ _ _ _ us ws l1 l2 => match us, ws, l1, l2 with | [_], [_], _, _ => rfl) (fun r z => r.append z)⟩
theorem r_NotASampler (c : He.SaysD fa fn K) (m : ex K = true) (X : K.In h) (G : h.Ns mainGlobals mg) : Ek.XR1 P w K mg base "NotASampler" "value" (He.ga K "NotASampler") (fam K 0) := by
  obtain ⟨fd, F⟩ := c.def_ 2 (d := dNotASampler) rfl
  obtain ⟨T, xi, ki⟩ := (facts_of m).1 ("NotASampler", ["value"]) (by simp [lV])
  obtain ⟨no, ini, tin⟩ := xi_of xi
  have no := no "value" (by simp)
  exact ⟨He.glo_ok X G (c.fact 2 (f := .glo "NotASampler") rfl), ki, no, _, _, _, _, _, fd, Ek.xbV, T, ini, tin, Ek.ok_ini (q1 := _) (q2 := _) (q3 := _) (q4 := _) F Ek.xbV T no ⟨rfl, rfl, rfl, by decide +kernel, rfl, by decide +kernel, by decide +kernel⟩ rfl rfl rfl (by decide) (by decide),
    Ek.kbn F (fun _ _ _ _ _ _ us ws l1 l2 => match us, ws, l1, l2 with | [_, _], [], _, _ => rfl) (fun r _ => r), Ek.kbn F (fun _ _ _ _ _ _ us ws l1 l2 => match us, ws, l1, l2 with | [_], [_], _, _ => rfl) (fun r z => r.append z)⟩
theorem r_NotAJoin (c : He.SaysD fa fn K) (m : ex K = true) (X : K.In h) (G : h.Ns mainGlobals mg) : Ek.XR1 P w K mg base "NotAJoin" "value" (He.ga K "NotAJoin") (fam K 0) := by
  obtain ⟨fd, F⟩ := c.def_ 3 (d := dNotAJoin) rfl
  obtain ⟨T, xi, ki⟩ := (facts_of m).1 ("NotAJoin", ["value"]) (by simp [lV])
  obtain ⟨no, ini, tin⟩ := xi_of xi
  have no := no "value" (by simp)
  exact ⟨He.glo_ok X G (c.fact 3 (f := .glo "NotAJoin") rfl), ki, no, _, _, _, _, _, fd, Ek.xbV, T, ini, tin, Ek.ok_ini (q1 := _) (q2 := _) (q3 := _) (q4 := _) F Ek.xbV T no ⟨rfl, rfl, rfl, by decide +kernel, rfl, by decide +kernel, by decide +kernel⟩ rfl rfl rfl (by decide) (by decide),
    Ek.kbn F (fun _ _ _ _ _ _ us ws l1 l2 => match us, ws, l1, l2 with | [_, _], [], _, _ => rfl) (fun r _ => r), Ek.kbn F (fun _ _ _ _ _ _ us ws l1 l2 => match us, ws, l1, l2 with | [_], [_], _, _ => rfl) (fun r z => r.append z)⟩
theorem r_NotAPlayer (c : He.SaysD fa fn K) (m : ex K = true) (X : K.In h) (G : h.Ns mainGlobals mg) : Ek.XR1 P w K mg base "NotAPlayer" "value" (He.ga K "NotAPlayer") (fam K 0) := by
  obtain ⟨fd, F⟩ := c.def_ 4 (d := dNotAPlayer) rfl
  obtain ⟨T, xi, ki⟩ := (facts_of m).1 ("NotAPlayer", ["value"]) (by simp [lV])
  obtain ⟨no, ini, tin⟩ := xi_of xi
  have no := no "value" (by simp)
  exact ⟨He.glo_ok X G (c.fact 4 (f := .glo "NotAPlayer") rfl), ki, no, _, _, _, _, _, fd, Ek.xbV, T, ini, tin, Ek.ok_ini (q1 := _) (q2 := _) (q3 := _) (q4 := _) F Ek.xbV T no ⟨rfl, rfl, rfl, by decide +kernel, rfl, by decide +kernel, by decide +kernel⟩ rfl rfl rfl (by decide) (by decide),
    Ek.kbn F (fun _ _ _ _ _ _ us ws l1 l2 => match us, ws, l1, l2 with | [_, _], [], _, _ => rfl) (fun r _ => r), Ek.kbn F (fun _ _ _ _ _ _ us ws l1 l2 => match us, ws, l1, l2 with | [_], [_], _, _ => rfl) (fun r z => r.append z)⟩
theorem r_InvalidLength (c : He.SaysD fa fn K) (m : ex K = true) (X : K.In h) (G : h.Ns mainGlobals mg) : Ek.XR1 P w K mg base "InvalidLength" "value" (He.ga K "InvalidLength") (fam K 0) := by
  obtain ⟨fd, F⟩ := c.def_ 5 (d := dInvalidLength) rfl
  obtain ⟨T, xi, ki⟩ := (facts_of m).1 ("InvalidLength", ["value"]) (by simp [lV])
  obtain ⟨no, ini, tin⟩ := xi_of xi
  have no := no "value" (by simp)
  exact ⟨He.glo_ok X G (c.fact 5 (f := .glo "InvalidLength") rfl), ki, no, _, _, _, _, _, fd, Ek.xbV, T, ini, tin, Ek.ok_ini (q1 := _) (q2 := _) (q3 := _) (q4 := _) F Ek.xbV T no ⟨rfl, rfl, rfl, by decide +kernel, rfl, by decide +kernel, by decide +kernel⟩ rfl rfl rfl (by decide) (by decide),
    Ek.kbn F (fun _ _ _ _ _ _ us ws l1 l2 => match us, ws, l1, l2 with | [_, _], [], _, _ => rfl) (fun r _ => r), Ek.kbn F (fun _ _ _ _ _ _ us ws l1 l2 => match us, ws, l1, l2 with | [_], [_], _, _ => rfl) (fun r z => r.append z)⟩
theorem r_InvalidItem (c : He.SaysD fa fn K) (m : ex K = true) (X : K.In h) (G : h.Ns mainGlobals mg) : Ek.XR1 P w K mg base "InvalidItem" "value" (He.ga K "InvalidItem") (fam K 0) := by
  obtain ⟨fd, F⟩ := c.def_ 6 (d := dInvalidItem) rfl
  obtain ⟨T, xi, ki⟩ := (facts_of m).1 ("InvalidItem", ["value"]) (by simp [lV])
  obtain ⟨no, ini, tin⟩ := xi_of xi
  have no := no "value" (by simp)
  exact ⟨He.glo_ok X G (c.fact 6 (f := .glo "InvalidItem") rfl), ki, no, _, _, _, _, _, fd, Ek.xbV, T, ini, tin, Ek.ok_ini (q1 := _) (q2 := _) (q3 := _) (q4 := _) F Ek.xbV T no ⟨rfl, rfl, rfl, by decide +kernel, rfl, by decide +kernel, by decide +kernel⟩ rfl rfl rfl (by decide) (by decide),
    Ek.kbn F (fun _ _ _ _ _ _ us ws l1 l2 => match us, ws, l1, l2 with | [_, _], [], _, _ => rfl) (fun r _ => r), Ek.kbn F (fun _ _ _ _ _ _ us ws l1 l2 => match us, ws, l1, l2 with | [_], [_], _, _ => rfl) (fun r z => r.append z)⟩
theorem r_InvalidPlace (c : He.SaysD fa fn K) (m : ex K = true) (X : K.In h) (G : h.Ns mainGlobals mg) : Ek.XR1 P w K mg base "InvalidPlace" "value" (He.ga K "InvalidPlace") (fam K 0) := by
  obtain ⟨fd, F⟩ := c.def_ 7 (d := dInvalidPlace) rfl
  obtain ⟨T, xi, ki⟩ := (facts_of m).1 ("InvalidPlace", ["value"]) (by simp [lV])
  obtain ⟨no, ini, tin⟩ := xi_of xi
  have no := no "value" (by simp)
  exact ⟨He.glo_ok X G (c.fact 7 (f := .glo "InvalidPlace") rfl), ki, no, _, _, _, _, _, fd, Ek.xbV, T, ini, tin, Ek.ok_ini (q1 := _) (q2 := _) (q3 := _) (q4 := _) F Ek.xbV T no ⟨rfl, rfl, rfl, by decide +kernel, rfl, by decide +kernel, by decide +kernel⟩ rfl rfl rfl (by decide) (by decide),
    Ek.kbn F (fun _ _ _ _ _ _ us ws l1 l2 => match us, ws, l1, l2 with | [_, _], [], _, _ => rfl) (fun r _ => r), Ek.kbn F (fun _ _ _ _ _ _ us ws l1 l2 => match us, ws, l1, l2 with | [_], [_], _, _ => rfl) (fun r z => r.append z)⟩
theorem r_InvalidCount (c : He.SaysD fa fn K) (m : ex K = true) (X : K.In h) (G : h.Ns mainGlobals mg) : Ek.XR1 P w K mg base "InvalidCount" "value" (He.ga K "InvalidCount") (fam K 0) := by
  obtain ⟨fd, F⟩ := c.def_ 8 (d := dInvalidCount) rfl
  obtain ⟨T, xi, ki⟩ := (facts_of m).1 ("InvalidCount", ["value"]) (by simp [lV])
  obtain ⟨no, ini, tin⟩ := xi_of xi
  have no := no "value" (by simp)
  exact ⟨He.glo_ok X G (c.fact 8 (f := .glo "InvalidCount") rfl), ki, no, _, _, _, _, _, fd, Ek.xbV, T, ini, tin, Ek.ok_ini (q1 := _) (q2 := _) (q3 := _) (q4 := _) F Ek.xbV T no ⟨rfl, rfl, rfl, by decide +kernel, rfl, by decide +kernel, by decide +kernel⟩ rfl rfl rfl (by decide) (by decide),
    Ek.kbn F (fun _ _ _ _ _ _ us ws l1 l2 => match us, ws, l1, l2 with | [_, _], [], _, _ => rfl) (fun r _ => r), Ek.kbn F (fun _ _ _ _ _ _ us ws l1 l2 => match us, ws, l1, l2 with | [_], [_], _, _ => rfl) (fun r z => r.append z)⟩
theorem r_InvalidFraction (c : He.SaysD fa fn K) (m : ex K = true) (X : K.In h) (G : h.Ns mainGlobals mg) : Ek.XR1 P w K mg base "InvalidFraction" "value" (He.ga K "InvalidFraction") (fam K 0) := by
  obtain ⟨fd, F⟩ := c.def_ 9 (d := dInvalidFraction) rfl
  obtain ⟨T, xi, ki⟩ := (facts_of m).1 ("InvalidFraction", ["value"]) (by simp [lV])
  obtain ⟨no, ini, tin⟩ := xi_of xi
  have no := no "value" (by simp)
  exact ⟨He.glo_ok X G (c.fact 9 (f := .glo "InvalidFraction") rfl), ki, no, _, _, _, _, _, fd, Ek.xbV, T, ini, tin, Ek.ok_ini (q1 := _) (q2 := _) (q3 := _) (q4 := _) F Ek.xbV T no ⟨rfl, rfl, rfl, by decide +kernel, rfl, by decide +kernel, by decide +kernel⟩ rfl rfl rfl (by decide) (by decide),
    Ek.kbn F (fun _ _ _ _ _ _ us ws l1 l2 => match us, ws, l1, l2 with | [_, _], [], _, _ => rfl) (fun r _ => r), Ek.kbn F (fun _ _ _ _ _ _ us ws l1 l2 => match us, ws, l1, l2 with | [_], [_], _, _ => rfl) (fun r z => r.append z)⟩
theorem r_InvalidDraws (c : He.SaysD fa fn K) (m : ex K = true) (X : K.In h) (G : h.Ns mainGlobals mg) : Ek.XR1 P w K mg base "InvalidDraws" "index" (He.ga K "InvalidDraws") (fam K 0) := by
  obtain ⟨fd, F⟩ := c.def_ 10 (d := dInvalidDraws) rfl
  obtain ⟨T, xi, ki⟩ := (facts_of m).1 ("InvalidDraws", ["index"]) (by simp [lV])
  obtain ⟨no, ini, tin⟩ := xi_of xi
  have no := no "index" (by simp)
  exact ⟨He.glo_ok X G (c.fact 10 (f := .glo "InvalidDraws") rfl), ki, no, _, _, _, _, _, fd, Ek.xbV, T, ini, tin, Ek.ok_ini (q1 := _) (q2 := _) (q3 := _) (q4 := _) F Ek.xbV T no ⟨rfl, rfl, rfl, by decide +kernel, rfl, by decide +kernel, by decide +kernel⟩ rfl rfl rfl (by decide) (by decide),
    Ek.kbn F (fun _ _ _ _ _ _ us ws l1 l2 => match us, ws, l1, l2 with | [_, _], [], _, _ => rfl) (fun r _ => r), Ek.kbn F (fun _ _ _ _ _ _ us ws l1 l2 => match us, ws, l1, l2 with | [_], [_], _, _ => rfl) (fun r z => r.append z)⟩
theorem r_InvalidEdit (c : He.SaysD fa fn K) (m : ex K = true) (X : K.In h) (G : h.Ns mainGlobals mg) : Ek.XR1 P w K mg base "InvalidEdit" "index" (He.ga K "InvalidEdit") (fam K 0) := by
  obtain ⟨fd, F⟩ := c.def_ 11 (d := dInvalidEdit) rfl
  obtain ⟨T, xi, ki⟩ := (facts_of m).1 ("InvalidEdit", ["index"]) (by simp [lV])
  obtain ⟨no, ini, tin⟩ := xi_of xi
  have no := no "index" (by simp)
  exact ⟨He.glo_ok X G (c.fact 11 (f := .glo "InvalidEdit") rfl), ki, no, _, _, _, _, _, fd, Ek.xbV, T, ini, tin, Ek.ok_ini (q1 := _) (q2 := _) (q3 := _) (q4 := _) F Ek.xbV T no ⟨rfl, rfl, rfl, by decide +kernel, rfl, by decide +kernel, by decide +kernel⟩ rfl rfl rfl (by decide) (by decide),
    Ek.kbn F (fun _ _ _ _ _ _ us ws l1 l2 => match us, ws, l1, l2 with | [_, _], [], _, _ => rfl) (fun r _ => r), Ek.kbn F (fun _ _ _ _ _ _ us ws l1 l2 => match us, ws, l1, l2 with | [_], [_], _, _ => rfl) (fun r z => r.append z)⟩
theorem r_UnknownPlace (c : He.SaysD fa fn K) (m : ex K = true) (X : K.In h) (G : h.Ns mainGlobals mg) : Ek.XR1 P w K mg base "UnknownPlace" "line" (He.ga K "UnknownPlace") (fam K 1) := by
  obtain ⟨fd, F⟩ := c.def_ 12 (d := dUnknownPlace) rfl
  obtain ⟨T, xi, ki⟩ := (facts_of m).2.1 ("UnknownPlace", ["line"]) (by simp [lL])
  obtain ⟨no, ini, tin⟩ := xi_of xi
  have no := no "line" (by simp)
  exact ⟨He.glo_ok X G (c.fact 12 (f := .glo "UnknownPlace") rfl), ki, no, _, _, _, _, _, fd, Ek.xbL, T, ini, tin, Ek.ok_ini (q1 := _) (q2 := _) (q3 := _) (q4 := _) F Ek.xbL T no ⟨rfl, rfl, rfl, by decide +kernel, rfl, by decide +kernel, by decide +kernel⟩ rfl rfl rfl (by decide) (by decide),
    Ek.kbn F (fun _ _ _ _ _ _ us ws l1 l2 => match us, ws, l1, l2 with | [_, _], [], _, _ => rfl) (fun r _ => r), Ek.kbn F (fun _ _ _ _ _ _ us ws l1 l2 => match us, ws, l1, l2 with | [_], [_], _, _ => rfl) (fun r z => r.append z)⟩
theorem r_NotDrawn (c : He.SaysD fa fn K) (m : ex K = true) (X : K.In h) (G : h.Ns mainGlobals mg) : Ek.XR1 P w K mg base "NotDrawn" "line" (He.ga K "NotDrawn") (fam K 1) := by
  obtain ⟨fd, F⟩ := c.def_ 13 (d := dNotDrawn) rfl
  obtain ⟨T, xi, ki⟩ := (facts_of m).2.1 ("NotDrawn", ["line"]) (by simp [lL])
  obtain ⟨no, ini, tin⟩ := xi_of xi
  have no := no "line" (by simp)
  exact ⟨He.glo_ok X G (c.fact 13 (f := .glo "NotDrawn") rfl), ki, no, _, _, _, _, _, fd, Ek.xbL, T, ini, tin, Ek.ok_ini (q1 := _) (q2 := _) (q3 := _) (q4 := _) F Ek.xbL T no ⟨rfl, rfl, rfl, by decide +kernel, rfl, by decide +kernel, by decide +kernel⟩ rfl rfl rfl (by decide) (by decide),
    Ek.kbn F (fun _ _ _ _ _ _ us ws l1 l2 => match us, ws, l1, l2 with | [_, _], [], _, _ => rfl) (fun r _ => r), Ek.kbn F (fun _ _ _ _ _ _ us ws l1 l2 => match us, ws, l1, l2 with | [_], [_], _, _ => rfl) (fun r z => r.append z)⟩
theorem r_DrawnTwice (c : He.SaysD fa fn K) (m : ex K = true) (X : K.In h) (G : h.Ns mainGlobals mg) : Ek.XR1 P w K mg base "DrawnTwice" "line" (He.ga K "DrawnTwice") (fam K 1) := by
  obtain ⟨fd, F⟩ := c.def_ 14 (d := dDrawnTwice) rfl
  obtain ⟨T, xi, ki⟩ := (facts_of m).2.1 ("DrawnTwice", ["line"]) (by simp [lL])
  obtain ⟨no, ini, tin⟩ := xi_of xi
  have no := no "line" (by simp)
  exact ⟨He.glo_ok X G (c.fact 14 (f := .glo "DrawnTwice") rfl), ki, no, _, _, _, _, _, fd, Ek.xbL, T, ini, tin, Ek.ok_ini (q1 := _) (q2 := _) (q3 := _) (q4 := _) F Ek.xbL T no ⟨rfl, rfl, rfl, by decide +kernel, rfl, by decide +kernel, by decide +kernel⟩ rfl rfl rfl (by decide) (by decide),
    Ek.kbn F (fun _ _ _ _ _ _ us ws l1 l2 => match us, ws, l1, l2 with | [_, _], [], _, _ => rfl) (fun r _ => r), Ek.kbn F (fun _ _ _ _ _ _ us ws l1 l2 => match us, ws, l1, l2 with | [_], [_], _, _ => rfl) (fun r z => r.append z)⟩
theorem r_BelowOne (c : He.SaysD fa fn K) (m : ex K = true) (X : K.In h) (G : h.Ns mainGlobals mg) : Ek.XR1 P w K mg base "BelowOne" "line" (He.ga K "BelowOne") (fam K 1) := by
  obtain ⟨fd, F⟩ := c.def_ 15 (d := dBelowOne) rfl
  obtain ⟨T, xi, ki⟩ := (facts_of m).2.1 ("BelowOne", ["line"]) (by simp [lL])
  obtain ⟨no, ini, tin⟩ := xi_of xi
  have no := no "line" (by simp)
  exact ⟨He.glo_ok X G (c.fact 15 (f := .glo "BelowOne") rfl), ki, no, _, _, _, _, _, fd, Ek.xbL, T, ini, tin, Ek.ok_ini (q1 := _) (q2 := _) (q3 := _) (q4 := _) F Ek.xbL T no ⟨rfl, rfl, rfl, by decide +kernel, rfl, by decide +kernel, by decide +kernel⟩ rfl rfl rfl (by decide) (by decide),
    Ek.kbn F (fun _ _ _ _ _ _ us ws l1 l2 => match us, ws, l1, l2 with | [_, _], [], _, _ => rfl) (fun r _ => r), Ek.kbn F (fun _ _ _ _ _ _ us ws l1 l2 => match us, ws, l1, l2 with | [_], [_], _, _ => rfl) (fun r z => r.append z)⟩
theorem r_TooMuch (c : He.SaysD fa fn K) (m : ex K = true) (X : K.In h) (G : h.Ns mainGlobals mg) : Ek.XR1 P w K mg base "TooMuch" "what" (He.ga K "TooMuch") (fam K 1) := by
  obtain ⟨fd, F⟩ := c.def_ 16 (d := dTooMuch) rfl
  obtain ⟨T, xi, ki⟩ := (facts_of m).2.1 ("TooMuch", ["what"]) (by simp [lL])
  obtain ⟨no, ini, tin⟩ := xi_of xi
  have no := no "what" (by simp)
  exact ⟨He.glo_ok X G (c.fact 16 (f := .glo "TooMuch") rfl), ki, no, _, _, _, _, _, fd, Ek.xbL, T, ini, tin, Ek.ok_ini (q1 := _) (q2 := _) (q3 := _) (q4 := _) F Ek.xbL T no ⟨rfl, rfl, rfl, by decide +kernel, rfl, by decide +kernel, by decide +kernel⟩ rfl rfl rfl (by decide) (by decide),
    Ek.kbn F (fun _ _ _ _ _ _ us ws l1 l2 => match us, ws, l1, l2 with | [_, _], [], _, _ => rfl) (fun r _ => r), Ek.kbn F (fun _ _ _ _ _ _ us ws l1 l2 => match us, ws, l1, l2 with | [_], [_], _, _ => rfl) (fun r z => r.append z)⟩
theorem r_Unsettled (c : He.SaysD fa fn K) (m : ex K = true) (X : K.In h) (G : h.Ns mainGlobals mg) : Ek.XR1 P w K mg base "Unsettled" "line" (He.ga K "Unsettled") (fam K 1) := by
  obtain ⟨fd, F⟩ := c.def_ 17 (d := dUnsettled) rfl
  obtain ⟨T, xi, ki⟩ := (facts_of m).2.1 ("Unsettled", ["line"]) (by simp [lL])
  obtain ⟨no, ini, tin⟩ := xi_of xi
  have no := no "line" (by simp)
  exact ⟨He.glo_ok X G (c.fact 17 (f := .glo "Unsettled") rfl), ki, no, _, _, _, _, _, fd, Ek.xbL, T, ini, tin, Ek.ok_ini (q1 := _) (q2 := _) (q3 := _) (q4 := _) F Ek.xbL T no ⟨rfl, rfl, rfl, by decide +kernel, rfl, by decide +kernel, by decide +kernel⟩ rfl rfl rfl (by decide) (by decide),
    Ek.kbn F (fun _ _ _ _ _ _ us ws l1 l2 => match us, ws, l1, l2 with | [_, _], [], _, _ => rfl) (fun r _ => r), Ek.kbn F (fun _ _ _ _ _ _ us ws l1 l2 => match us, ws, l1, l2 with | [_], [_], _, _ => rfl) (fun r z => r.append z)⟩
theorem r_Gap (c : He.SaysD fa fn K) (m : ex K = true) (X : K.In h) (G : h.Ns mainGlobals mg) : Ek.XR1 P w K mg base "Gap" "at" (He.ga K "Gap") (fam K 2) := by
  obtain ⟨fd, F⟩ := c.def_ 18 (d := dGap) rfl
  obtain ⟨T, xi, ki⟩ := (facts_of m).2.2.1 ("Gap", ["at"]) (by simp [lR])
  obtain ⟨no, ini, tin⟩ := xi_of xi
  have no := no "at" (by simp)
  exact ⟨He.glo_ok X G (c.fact 18 (f := .glo "Gap") rfl), ki, no, _, _, _, _, _, fd, Ek.xbR, T, ini, tin, Ek.ok_ini (q1 := _) (q2 := _) (q3 := _) (q4 := _) F Ek.xbR T no ⟨rfl, rfl, rfl, by decide +kernel, rfl, by decide +kernel, by decide +kernel⟩ rfl rfl rfl (by decide) (by decide),
    Ek.kbn F (fun _ _ _ _ _ _ us ws l1 l2 => match us, ws, l1, l2 with | [_, _], [], _, _ => rfl) (fun r _ => r), Ek.kbn F (fun _ _ _ _ _ _ us ws l1 l2 => match us, ws, l1, l2 with | [_], [_], _, _ => rfl) (fun r z => r.append z)⟩
theorem r_Missing (c : He.SaysD fa fn K) (m : ex K = true) (X : K.In h) (G : h.Ns mainGlobals mg) : Ek.XR1 P w K mg base "Missing" "name" (He.ga K "Missing") (fam K 2) := by
  obtain ⟨fd, F⟩ := c.def_ 19 (d := dMissing) rfl
  obtain ⟨T, xi, ki⟩ := (facts_of m).2.2.1 ("Missing", ["name"]) (by simp [lR])
  obtain ⟨no, ini, tin⟩ := xi_of xi
  have no := no "name" (by simp)
  exact ⟨He.glo_ok X G (c.fact 19 (f := .glo "Missing") rfl), ki, no, _, _, _, _, _, fd, Ek.xbR, T, ini, tin, Ek.ok_ini (q1 := _) (q2 := _) (q3 := _) (q4 := _) F Ek.xbR T no ⟨rfl, rfl, rfl, by decide +kernel, rfl, by decide +kernel, by decide +kernel⟩ rfl rfl rfl (by decide) (by decide),
    Ek.kbn F (fun _ _ _ _ _ _ us ws l1 l2 => match us, ws, l1, l2 with | [_, _], [], _, _ => rfl) (fun r _ => r), Ek.kbn F (fun _ _ _ _ _ _ us ws l1 l2 => match us, ws, l1, l2 with | [_], [_], _, _ => rfl) (fun r z => r.append z)⟩
theorem r_Refused (c : He.SaysD fa fn K) (m : ex K = true) (X : K.In h) (G : h.Ns mainGlobals mg) : Ek.XR2 P w K mg base "Refused" "name" "demand" (He.ga K "Refused") (fam K 2) := by
  obtain ⟨fd, F⟩ := c.def_ 20 (d := dRefused) rfl
  obtain ⟨T, xi, ki⟩ := (facts_of m).2.2.1 ("Refused", ["name", "demand"]) (by simp [lR])
  obtain ⟨no, ini, tin⟩ := xi_of xi
  have no1 := no "name" (by simp)
  have no2 := no "demand" (by simp)
  exact ⟨He.glo_ok X G (c.fact 20 (f := .glo "Refused") rfl), ki, ⟨no1, no2⟩, _, _, _, _, _, fd, Ek.xbR, T, ini, tin, Ek.ok_ini2 (q1 := _) (q2 := _) (q3 := _) (q4 := _) (r1 := _) (r2 := _) (r3 := _) (r4 := _) F Ek.xbR T no1 no2 ⟨rfl, rfl, rfl, by decide +kernel, rfl, by decide +kernel, by decide +kernel⟩ rfl rfl rfl rfl (by decide) (by decide) (by decide) (by decide),
    Ek.kbn F (fun _ _ _ _ _ _ us ws l1 l2 => match us, ws, l1, l2 with | [_, _, _], [], _, _ => rfl) (fun r _ => r), Ek.kbn F (fun _ _ _ _ _ _ us ws l1 l2 => match us, ws, l1, l2 with | [_], [_, _], _, _ => rfl) (fun r z => r.append (Ek.vals_rev z))⟩
end
end E01

set_option Elab.async false
set_option linter.all false
set_option maxRecDepth 100000
set_option maxHeartbeats 4000000
namespace E01
open PySem PySem.Spec PyProof.Rows L2
section
variable {P : Program} {w : World} {K : PySem.W.Frag} {mg : Str → Option Value} {base h : Heap}
theorem g_InvalidText (c : He.SaysD fa fn K) (X : K.In h) (G : h.Ns mainGlobals mg) : mg "InvalidText" = some (.ref (He.ga K "InvalidText")) := He.glo_ok X G (c.fact 0 (f := .glo "InvalidText") rfl)
theorem g_NotARatio (c : He.SaysD fa fn K) (X : K.In h) (G : h.Ns mainGlobals mg) : mg "NotARatio" = some (.ref (He.ga K "NotARatio")) := He.glo_ok X G (c.fact 1 (f := .glo "NotARatio") rfl)
theorem g_NotASampler (c : He.SaysD fa fn K) (X : K.In h) (G : h.Ns mainGlobals mg) : mg "NotASampler" = some (.ref (He.ga K "NotASampler")) := He.glo_ok X G (c.fact 2 (f := .glo "NotASampler") rfl)
theorem g_NotAJoin (c : He.SaysD fa fn K) (X : K.In h) (G : h.Ns mainGlobals mg) : mg "NotAJoin" = some (.ref (He.ga K "NotAJoin")) := He.glo_ok X G (c.fact 3 (f := .glo "NotAJoin") rfl)
theorem g_NotAPlayer (c : He.SaysD fa fn K) (X : K.In h) (G : h.Ns mainGlobals mg) : mg "NotAPlayer" = some (.ref (He.ga K "NotAPlayer")) := He.glo_ok X G (c.fact 4 (f := .glo "NotAPlayer") rfl)
theorem g_InvalidLength (c : He.SaysD fa fn K) (X : K.In h) (G : h.Ns mainGlobals mg) : mg "InvalidLength" = some (.ref (He.ga K "InvalidLength")) := He.glo_ok X G (c.fact 5 (f := .glo "InvalidLength") rfl)
theorem g_InvalidItem (c : He.SaysD fa fn K) (X : K.In h) (G : h.Ns mainGlobals mg) : mg "InvalidItem" = some (.ref (He.ga K "InvalidItem")) := He.glo_ok X G (c.fact 6 (f := .glo "InvalidItem") rfl)
theorem g_InvalidPlace (c : He.SaysD fa fn K) (X : K.In h) (G : h.Ns mainGlobals mg) : mg "InvalidPlace" = some (.ref (He.ga K "InvalidPlace")) := He.glo_ok X G (c.fact 7 (f := .glo "InvalidPlace") rfl)
theorem g_InvalidCount (c : He.SaysD fa fn K) (X : K.In h) (G : h.Ns mainGlobals mg) : mg "InvalidCount" = some (.ref (He.ga K "InvalidCount")) := He.glo_ok X G (c.fact 8 (f := .glo "InvalidCount") rfl)
theorem g_InvalidFraction (c : He.SaysD fa fn K) (X : K.In h) (G : h.Ns mainGlobals mg) : mg "InvalidFraction" = some (.ref (He.ga K "InvalidFraction")) := He.glo_ok X G (c.fact 9 (f := .glo "InvalidFraction") rfl)
theorem g_InvalidDraws (c : He.SaysD fa fn K) (X : K.In h) (G : h.Ns mainGlobals mg) : mg "InvalidDraws" = some (.ref (He.ga K "InvalidDraws")) := He.glo_ok X G (c.fact 10 (f := .glo "InvalidDraws") rfl)
theorem g_InvalidEdit (c : He.SaysD fa fn K) (X : K.In h) (G : h.Ns mainGlobals mg) : mg "InvalidEdit" = some (.ref (He.ga K "InvalidEdit")) := He.glo_ok X G (c.fact 11 (f := .glo "InvalidEdit") rfl)
theorem g_UnknownPlace (c : He.SaysD fa fn K) (X : K.In h) (G : h.Ns mainGlobals mg) : mg "UnknownPlace" = some (.ref (He.ga K "UnknownPlace")) := He.glo_ok X G (c.fact 12 (f := .glo "UnknownPlace") rfl)
theorem g_NotDrawn (c : He.SaysD fa fn K) (X : K.In h) (G : h.Ns mainGlobals mg) : mg "NotDrawn" = some (.ref (He.ga K "NotDrawn")) := He.glo_ok X G (c.fact 13 (f := .glo "NotDrawn") rfl)
theorem g_DrawnTwice (c : He.SaysD fa fn K) (X : K.In h) (G : h.Ns mainGlobals mg) : mg "DrawnTwice" = some (.ref (He.ga K "DrawnTwice")) := He.glo_ok X G (c.fact 14 (f := .glo "DrawnTwice") rfl)
theorem g_BelowOne (c : He.SaysD fa fn K) (X : K.In h) (G : h.Ns mainGlobals mg) : mg "BelowOne" = some (.ref (He.ga K "BelowOne")) := He.glo_ok X G (c.fact 15 (f := .glo "BelowOne") rfl)
theorem g_TooMuch (c : He.SaysD fa fn K) (X : K.In h) (G : h.Ns mainGlobals mg) : mg "TooMuch" = some (.ref (He.ga K "TooMuch")) := He.glo_ok X G (c.fact 16 (f := .glo "TooMuch") rfl)
theorem g_Unsettled (c : He.SaysD fa fn K) (X : K.In h) (G : h.Ns mainGlobals mg) : mg "Unsettled" = some (.ref (He.ga K "Unsettled")) := He.glo_ok X G (c.fact 17 (f := .glo "Unsettled") rfl)
theorem g_Gap (c : He.SaysD fa fn K) (X : K.In h) (G : h.Ns mainGlobals mg) : mg "Gap" = some (.ref (He.ga K "Gap")) := He.glo_ok X G (c.fact 18 (f := .glo "Gap") rfl)
theorem g_Missing (c : He.SaysD fa fn K) (X : K.In h) (G : h.Ns mainGlobals mg) : mg "Missing" = some (.ref (He.ga K "Missing")) := He.glo_ok X G (c.fact 19 (f := .glo "Missing") rfl)
theorem g_Refused (c : He.SaysD fa fn K) (X : K.In h) (G : h.Ns mainGlobals mg) : mg "Refused" = some (.ref (He.ga K "Refused")) := He.glo_ok X G (c.fact 20 (f := .glo "Refused") rfl)
theorem g_UnlikePlaces (c : He.SaysD fa fn K) (X : K.In h) (G : h.Ns mainGlobals mg) : mg "UnlikePlaces" = some (.ref (He.ga K "UnlikePlaces")) := He.glo_ok X G (c.fact 21 (f := .glo "UnlikePlaces") rfl)
theorem g_NothingBack (c : He.SaysD fa fn K) (X : K.In h) (G : h.Ns mainGlobals mg) : mg "NothingBack" = some (.ref (He.ga K "NothingBack")) := He.glo_ok X G (c.fact 22 (f := .glo "NothingBack") rfl)
theorem g_Held (c : He.SaysD fa fn K) (X : K.In h) (G : h.Ns mainGlobals mg) : mg "Held" = some (.ref (He.ga K "Held")) := He.glo_ok X G (c.fact 23 (f := .glo "Held") rfl)
theorem g_ZeroBelow (c : He.SaysD fa fn K) (X : K.In h) (G : h.Ns mainGlobals mg) : mg "ZeroBelow" = some (.ref (He.ga K "ZeroBelow")) := He.glo_ok X G (c.fact 24 (f := .glo "ZeroBelow") rfl)
theorem g_TextError (c : He.SaysD fa fn K) (X : K.In h) (G : h.Ns mainGlobals mg) : mg "TextError" = some (.ref (He.ga K "TextError")) := He.glo_ok X G (c.fact 25 (f := .glo "TextError") rfl)
theorem g_ProgramError (c : He.SaysD fa fn K) (X : K.In h) (G : h.Ns mainGlobals mg) : mg "ProgramError" = some (.ref (He.ga K "ProgramError")) := He.glo_ok X G (c.fact 26 (f := .glo "ProgramError") rfl)
theorem g_KeepError (c : He.SaysD fa fn K) (X : K.In h) (G : h.Ns mainGlobals mg) : mg "KeepError" = some (.ref (He.ga K "KeepError")) := He.glo_ok X G (c.fact 27 (f := .glo "KeepError") rfl)
theorem g_law_well (c : He.SaysD fa fn K) (X : K.In h) (G : h.Ns mainGlobals mg) : mg "_law_well" = some (.ref (He.ga K "_law_well")) := He.glo_ok X G (c.fact 28 (f := .glo "_law_well") rfl)
theorem g_law_dip (c : He.SaysD fa fn K) (X : K.In h) (G : h.Ns mainGlobals mg) : mg "_law_dip" = some (.ref (He.ga K "_law_dip")) := He.glo_ok X G (c.fact 29 (f := .glo "_law_dip") rfl)
theorem g_law_any (c : He.SaysD fa fn K) (X : K.In h) (G : h.Ns mainGlobals mg) : mg "_law_any" = some (.ref (He.ga K "_law_any")) := He.glo_ok X G (c.fact 30 (f := .glo "_law_any") rfl)
theorem g_law_families (c : He.SaysD fa fn K) (X : K.In h) (G : h.Ns mainGlobals mg) : mg "_law_families" = some (.ref (He.ga K "_law_families")) := He.glo_ok X G (c.fact 31 (f := .glo "_law_families") rfl)
theorem g_law_due (c : He.SaysD fa fn K) (X : K.In h) (G : h.Ns mainGlobals mg) : mg "_law_due" = some (.ref (He.ga K "_law_due")) := He.glo_ok X G (c.fact 32 (f := .glo "_law_due") rfl)
theorem g_law_texts_right (c : He.SaysD fa fn K) (X : K.In h) (G : h.Ns mainGlobals mg) : mg "_law_texts_right" = some (.ref (He.ga K "_law_texts_right")) := He.glo_ok X G (c.fact 33 (f := .glo "_law_texts_right") rfl)
theorem g_law_others_right (c : He.SaysD fa fn K) (X : K.In h) (G : h.Ns mainGlobals mg) : mg "_law_others_right" = some (.ref (He.ga K "_law_others_right")) := He.glo_ok X G (c.fact 34 (f := .glo "_law_others_right") rfl)
theorem g_law (c : He.SaysD fa fn K) (X : K.In h) (G : h.Ns mainGlobals mg) : mg "law" = some (.ref (He.ga K "law")) := He.glo_ok X G (c.fact 35 (f := .glo "law") rfl)
theorem c_MOST_PLACES (c : He.SaysD fa fn K) (X : K.In h) (G : h.Ns mainGlobals mg) : ∃ t, mg "MOST_PLACES" = some (.int 3 t) := He.int_ok X G (c.fact 36 (f := .int "MOST_PLACES" 3) rfl)
theorem c_MOST_STATEMENTS (c : He.SaysD fa fn K) (X : K.In h) (G : h.Ns mainGlobals mg) : ∃ t, mg "MOST_STATEMENTS" = some (.int 24 t) := He.int_ok X G (c.fact 37 (f := .int "MOST_STATEMENTS" 24) rfl)
theorem c_MOST_DRAWS (c : He.SaysD fa fn K) (X : K.In h) (G : h.Ns mainGlobals mg) : ∃ t, mg "MOST_DRAWS" = some (.int 6 t) := He.int_ok X G (c.fact 38 (f := .int "MOST_DRAWS" 6) rfl)
theorem c_MOST_NESTED (c : He.SaysD fa fn K) (X : K.In h) (G : h.Ns mainGlobals mg) : ∃ t, mg "MOST_NESTED" = some (.int 4 t) := He.int_ok X G (c.fact 39 (f := .int "MOST_NESTED" 4) rfl)
theorem c_MOST_ON_A_WAY (c : He.SaysD fa fn K) (X : K.In h) (G : h.Ns mainGlobals mg) : ∃ t, mg "MOST_ON_A_WAY" = some (.int 3 t) := He.int_ok X G (c.fact 40 (f := .int "MOST_ON_A_WAY" 3) rfl)
theorem c_MOST_LENGTH (c : He.SaysD fa fn K) (X : K.In h) (G : h.Ns mainGlobals mg) : ∃ t, mg "MOST_LENGTH" = some (.int 60 t) := He.int_ok X G (c.fact 41 (f := .int "MOST_LENGTH" 60) rfl)
theorem c_SETTLED (c : He.SaysD fa fn K) (X : K.In h) (G : h.Ns mainGlobals mg) : ∃ t, mg "SETTLED" = some (.int 19 t) := He.int_ok X G (c.fact 42 (f := .int "SETTLED" 19) rfl)
theorem f_len (c : He.SaysD fa fn K) (X : K.In h) (G : h.Ns mainGlobals mg) : mg "len" = none := He.free_ok X G (c.fact 43 (f := .free "len") rfl)
theorem f_range (c : He.SaysD fa fn K) (X : K.In h) (G : h.Ns mainGlobals mg) : mg "range" = none := He.free_ok X G (c.fact 44 (f := .free "range") rfl)
theorem f_max (c : He.SaysD fa fn K) (X : K.In h) (G : h.Ns mainGlobals mg) : mg "max" = none := He.free_ok X G (c.fact 45 (f := .free "max") rfl)
theorem f_min (c : He.SaysD fa fn K) (X : K.In h) (G : h.Ns mainGlobals mg) : mg "min" = none := He.free_ok X G (c.fact 46 (f := .free "min") rfl)
theorem f_int (c : He.SaysD fa fn K) (X : K.In h) (G : h.Ns mainGlobals mg) : mg "int" = none := He.free_ok X G (c.fact 47 (f := .free "int") rfl)
theorem f_abs (c : He.SaysD fa fn K) (X : K.In h) (G : h.Ns mainGlobals mg) : mg "abs" = none := He.free_ok X G (c.fact 48 (f := .free "abs") rfl)
theorem f_isinstance (c : He.SaysD fa fn K) (X : K.In h) (G : h.Ns mainGlobals mg) : mg "isinstance" = none := He.free_ok X G (c.fact 49 (f := .free "isinstance") rfl)
theorem f_all (c : He.SaysD fa fn K) (X : K.In h) (G : h.Ns mainGlobals mg) : mg "all" = none := He.free_ok X G (c.fact 50 (f := .free "all") rfl)
theorem f_repr (c : He.SaysD fa fn K) (X : K.In h) (G : h.Ns mainGlobals mg) : mg "repr" = none := He.free_ok X G (c.fact 51 (f := .free "repr") rfl)
theorem f_str (c : He.SaysD fa fn K) (X : K.In h) (G : h.Ns mainGlobals mg) : mg "str" = none := He.free_ok X G (c.fact 52 (f := .free "str") rfl)
theorem f_ValueError (c : He.SaysD fa fn K) (X : K.In h) (G : h.Ns mainGlobals mg) : mg "ValueError" = none := He.free_ok X G (c.fact 53 (f := .free "ValueError") rfl)
theorem f_LookupError (c : He.SaysD fa fn K) (X : K.In h) (G : h.Ns mainGlobals mg) : mg "LookupError" = none := He.free_ok X G (c.fact 54 (f := .free "LookupError") rfl)
theorem f_RuntimeError (c : He.SaysD fa fn K) (X : K.In h) (G : h.Ns mainGlobals mg) : mg "RuntimeError" = none := He.free_ok X G (c.fact 55 (f := .free "RuntimeError") rfl)
end
end E01

set_option Elab.async false
set_option linter.all false
set_option maxRecDepth 100000
set_option maxHeartbeats 4000000
namespace Ek
open PySem PySem.Spec PyProof.Rows L2
theorem same_put {H H' : Hp} {D : Addr} {o : HO} (s : Same H H') (h : H D = none) : Same H (upd H' D o) := fun b o' e => by rw [upd_ne (ne_of_none e h)]; exact s b o' e
theorem yesT {σ : L2.St} {H : Hp} {A B : Hp → Prop} (h : A H) : tYes σ H fun b H3 => if b = true then A H3 else B H3 := by
  show if true = true then A H else B H
  exact iteT h
end Ek
namespace E01
open PySem PySem.Spec PyProof.Rows L2
/-! ### _law_due -/
def dueL (k : Int) : List V := [.bl (decide ((0 : Int) = k)), .bl (decide ((1 : Int) = k)), .bl (decide ((2 : Int) = k))]
def spDue : Sp := fun vs H Q _ => ∃ k : Int, vs = [.int k] ∧ ∀ H' p, Same H H' → H' p = some (.lst (dueL k ++ dueL k)) → Q (.ref p) H'
theorem scDue : FnScope ["_law_family", "_law_at"] ["_law_family"] (defScope (top 41)) := ⟨rfl, rfl, rfl, by decide +kernel, rfl, by decide +kernel, by decide +kernel⟩
section
variable {P : Program} {w : World} {K : PySem.W.Frag} {mg : Str → Option Value} {base h : Heap} {f : Addr} {fd : FuncData}
theorem ok_due (F : FunD K "_law_due" "_law_due" (defArgs (top 41)) (defBody (top 41)) (defScope (top 41)) [] [] f fd) (fr : mg "range" = none) : FnOk P w K mg base CX0 1 f fd ["_law_family"] spDue := by
  refine F.ok scDue (fun vs H Q E h => ?_) (fun cdv A outer s H vs Q E hr h => ⟨_, PSs.nox (pss_one (ps_ret (pe_op op_rep (pe_lc (own := [("_law_at", 1)]) (g := gName 1) (tt := tYes) rfl scDue.nd (pi_range1 rfl fr (pa_cons pe_int pa_nil))
    (blkOk_by (N := ["_law_family", "_law_at"]) (sc := defScope (top 41)) (by decide +kernel)) (fun _ _ _ _ _ => pg_name (i := 1) scDue.nd rfl (Or.inl rfl)) (fun _ _ _ _ _ => pts_nil) (fun _ _ _ _ _ => pe_cmpR op_eq (pv 1) (pv 0) (nomark _))) pe_int))), ?_⟩)
  · obtain ⟨k, rfl, _⟩ := h
    rfl
  · obtain ⟨k, rfl, hq⟩ := h
    refine ⟨3, rfl, by decide, by decide, fun D hD => lc_range (lo := 0) (n := 3) (fun i H' => Same H H' ∧ H' D = some (.lst ((dueL k).take i))) ⟨Ek.same_new hD, upd_same⟩ ?_ ?_⟩
    · rintro i H' hi ⟨s1, hl⟩
      refine ⟨rfl, Ek.yesT ?_⟩
      refine ⟨_, rfl, _, rfl, rfl, _, hl, ?_, Ek.same_put s1 hD, ?_⟩
      · exact Nat.lt_of_le_of_lt (List.length_take_le _ _) (by rw [sizeLine_eq]; omega)
      · rw [upd_same]
        have : i = 0 ∨ i = 1 ∨ i = 2 := by omega
        rcases this with e | e | e <;> subst e <;> simp [dueL]
    · rintro H' ⟨s1, hl⟩
      refine ⟨_, _, _, rfl, rfl, hl, by decide, by decide, (show 6 ≤ sizeLine by decide), fun p hp => hq _ p ?_ ?_⟩
      · exact s1.trans (Ek.same_new hp)
      · rw [upd_same]
        rfl
/-! ### _law_families -/
def famL (k : Nat) : List V := [.bl (k == 0), .bl (k == 1), .bl (k == 2)]
def spFam (K : PySem.W.Frag) : Sp := fun vs H Q _ => ∃ (a C : Addr) (d : Option Addr) (newId : String) (tail : List Value) (k : Nat), vs = [.ref a] ∧ H a = some (exo a C d) ∧ Ek.XdOk H d ∧ Ek.XC K C newId tail ∧ fam K k C ∧
  ∀ H' p, Same H H' → H' p = some (.lst (famL k ++ famL k)) → Q (.ref p) H'
theorem scFam : FnScope ["_law_e", "_law_own"] ["_law_e"] (defScope (top 40)) := ⟨rfl, rfl, rfl, by decide +kernel, rfl, by decide +kernel, by decide +kernel⟩
theorem fam_six {k : Nat} {C : Addr} (hf : fam K k C) : ∀ q ∈ Ek.six K (k == 0) (k == 1) (k == 2), PySem.W.kitOne K (.ref C) q.1 = some q.2 := fun q hq => by
  unfold fam Ek.kiB at hf
  exact of_decide_eq_true (List.all_eq_true.mp hf q hq)
theorem ok_fam (F : FunD K "_law_families" "_law_families" (defArgs (top 40)) (defBody (top 40)) (defScope (top 40)) [] [] f fd) (c : He.SaysD fa fn K) (X : K.In h) (G : h.Ns mainGlobals mg) : FnOk P w K mg base CX0 1 f fd ["_law_e"] (spFam K) := by
  have fi := f_isinstance c X G
  refine F.ok scFam (fun vs H Q E h => ?_) (fun cdv A outer s H vs Q E hr h => ⟨_, PSs.nox (pss_cons (ps_set (i := 1) scFam.nd rfl (Or.inl rfl) (pe_lst
      (pa_cons (pe_callB Ek.call_isx (by rfl) fi (by decide +kernel) (pa_cons (pv 0) (pa_cons (pe_glob rfl (g_TextError c X G) (v := .ref _) rfl) pa_nil)))
      (pa_cons (pe_callB Ek.call_isx (by rfl) fi (by decide +kernel) (pa_cons (pv 0) (pa_cons (pe_glob rfl (g_ProgramError c X G) (v := .ref _) rfl) pa_nil)))
      (pa_cons (pe_callB Ek.call_isx (by rfl) fi (by decide +kernel) (pa_cons (pv 0) (pa_cons (pe_glob rfl (g_KeepError c X G) (v := .ref _) rfl) pa_nil))) pa_nil)))))
    (pss_one (ps_ret (pe_op op_cat (pv 1) (pe_lst
      (pa_cons (pe_callB Ek.call_isx (by rfl) fi (by decide +kernel) (pa_cons (pv 0) (pa_cons (pe_bltn (v := .ty "ValueError") (by rfl) (f_ValueError c X G) (by decide +kernel) rfl) pa_nil)))
      (pa_cons (pe_callB Ek.call_isx (by rfl) fi (by decide +kernel) (pa_cons (pv 0) (pa_cons (pe_bltn (v := .ty "LookupError") (by rfl) (f_LookupError c X G) (by decide +kernel) rfl) pa_nil)))
      (pa_cons (pe_callB Ek.call_isx (by rfl) fi (by decide +kernel) (pa_cons (pv 0) (pa_cons (pe_bltn (v := .ty "RuntimeError") (by rfl) (f_RuntimeError c X G) (by decide +kernel) rfl) pa_nil))) pa_nil)))))))), ?_⟩)
  · obtain ⟨a, C, d, n, t, k, rfl, _⟩ := h
    rfl
  · obtain ⟨a, C, d, n, t, k, rfl, ha, hd, T, hf, hq⟩ := h
    have six := fam_six hf
    refine ⟨_, rfl, a, C, d, _, _, _, n, t, rfl, ha, hd, T, .own _, six (.ref (He.ga K "TextError"), k == 0) (by simp [Ek.six]), ?_⟩
    refine ⟨_, rfl, a, C, d, _, _, _, n, t, rfl, ha, hd, T, .own _, six (.ref (He.ga K "ProgramError"), k == 1) (by simp [Ek.six]), ?_⟩
    refine ⟨_, rfl, a, C, d, _, _, _, n, t, rfl, ha, hd, T, .own _, six (.ref (He.ga K "KeepError"), k == 2) (by simp [Ek.six]), (show 3 ≤ sizeLine by decide), fun p1 h1 => ?_⟩
    have ha1 := Ek.same_new (o := .lst (famL k)) h1 _ _ ha
    have hd1 : Ek.XdOk (upd H p1 (.lst (famL k))) d := by
      cases d with
      | none => trivial
      | some dx => exact hd.elim fun fs e => ⟨fs, Ek.same_new h1 _ _ e⟩
    refine ⟨_, rfl, _, rfl, a, C, d, _, _, _, n, t, rfl, ha1, hd1, T, .ty _, six (.type "ValueError", k == 0) (by simp [Ek.six]), ?_⟩
    refine ⟨_, rfl, a, C, d, _, _, _, n, t, rfl, ha1, hd1, T, .ty _, six (.type "LookupError", k == 1) (by simp [Ek.six]), ?_⟩
    refine ⟨_, rfl, a, C, d, _, _, _, n, t, rfl, ha1, hd1, T, .ty _, six (.type "RuntimeError", k == 2) (by simp [Ek.six]), (show 3 ≤ sizeLine by decide), fun p2 h2 => ?_⟩
    refine ⟨_, _, _, _, rfl, rfl, Ek.same_new h2 _ _ upd_same, upd_same, (show 6 ≤ sizeLine by decide), fun p hp => hq _ p ?_ ?_⟩
    · exact ((Ek.same_new h1).trans (Ek.same_new h2)).trans (Ek.same_new hp)
    · rw [upd_same]
      rfl
end
end E01

set_option Elab.async false
set_option linter.all false
set_option maxRecDepth 100000
set_option maxHeartbeats 4000000
namespace Ek
open PySem PySem.Spec PyProof.Rows L2
theorem tup_mono {K : PySem.W.Frag} {H H' : Hp} {a : Addr} {xs : List V} (e : Same H H') (h : SqT K H a xs) : SqT K H' a xs := by
  rcases h with (h | ⟨o, h⟩) | h
  · exact .inl (.inl (e _ _ h))
  · exact .inl (.inr ⟨o, e _ _ h⟩)
  · exact .inr h
mutual
theorem Dp_mono {K : PySem.W.Frag} {H H' : Hp} (s : Same H H') : ∀ {v : V} {d : PyData}, Dp K H v d → Dp K H' v d
  | _, _, .non => .non
  | _, _, .bl b => .bl b
  | _, _, .int i => .int i
  | _, _, .str x => .str x
  | _, _, .lst h a => .lst (s.seq h) (DpAll_mono s a)
  | _, _, .tup h a => .tup (tup_mono s h) (DpAll_mono s a)
theorem DpAll_mono {K : PySem.W.Frag} {H H' : Hp} (s : Same H H') : ∀ {vs : List V} {ds : List PyData}, DpAll K H vs ds → DpAll K H' vs ds
  | _, _, .nil => .nil
  | _, _, .cons h a => .cons (Dp_mono s h) (DpAll_mono s a)
end
theorem all_nil {α : Type} {p : α → Prop} : ∀ y ∈ ([] : List α), p y := fun _ h => nomatch h
theorem all_cons {α : Type} {p : α → Prop} {x : α} {xs : List α} (h : p x) (t : ∀ y ∈ xs, p y) : ∀ y ∈ x :: xs, p y := List.forall_mem_cons.mpr ⟨h, t⟩
theorem Shown.mono {K : PySem.W.Frag} {H H' : Hp} {v : V} {z : Str} (h : Shown K H v z) (s : Same H H') : Shown K H' v z := by
  cases v with
  | ref a => exact h.imp (fun ⟨d, hd, r⟩ => ⟨d, Dp_mono s hd, r⟩) fun ⟨e, r⟩ => ⟨s _ _ e, r⟩
  | _ => exact h
end Ek
namespace E01
open PySem PySem.Spec PyProof.Rows L2
/-- repr(e.f) == repr(thing) and _law_families(e) == _law_due(k) -/
def tElt (K : PySem.W.Frag) (f : Str) (k : Int) (iE iT : Nat) : TE := tAndV (tOp rEq (tCB (Ek.rRepr K) (tCons (Ek.tXat K f (tVar iE)) tNil)) (tCB (Ek.rRepr K) (tCons (tVar iT) tNil)))
  (tOp (rEqD K) (tCall (spFam K) [] E0 (tCons (tVar iE) tNil)) (tCall spDue [] E0 (tCons (tC (.int k)) tNil)))
def bits (k : Nat) : List PyData := [.bool (k == 0), .bool (k == 1), .bool (k == 2), .bool (k == 0), .bool (k == 1), .bool (k == 2)]
def bitsD (k : Int) : List PyData := [.bool (decide (0 = k)), .bool (decide (1 = k)), .bool (decide (2 = k)), .bool (decide (0 = k)), .bool (decide (1 = k)), .bool (decide (2 = k))]
section
variable {K : PySem.W.Frag} {H : Hp} {f : Str} {thing y : V} {z : Str} {k : Nat} {iE iT : Nat} {σ : L2.St} {Q : VK}
theorem dp_fam {p : Addr} (h : H p = some (.lst (famL k ++ famL k))) : Dp K H (.ref p) (.list (bits k)) := .lst (SqL.of h) (.cons (.bl _) (.cons (.bl _) (.cons (.bl _) (.cons (.bl _) (.cons (.bl _) (.cons (.bl _) .nil))))))
theorem dp_due {p : Addr} {k : Int} (h : H p = some (.lst (dueL k ++ dueL k))) : Dp K H (.ref p) (.list (bitsD k)) := .lst (SqL.of h) (.cons (.bl _) (.cons (.bl _) (.cons (.bl _) (.cons (.bl _) (.cons (.bl _) (.cons (.bl _) .nil))))))
theorem bits_eq (hk : k < 3) : PyData.eqv (.list (bits k)) (.list (bitsD (k : Int))) = true := by
  have : k = 0 ∨ k = 1 ∨ k = 2 := by omega
  rcases this with e | e | e <;> subst e <;> decide +kernel
/-- families(e) == due(k), e an exception of the k-th family -/
theorem rd_fam (hk : k < 3) {a C : Addr} {d : Option Addr} {n : String} {t : List Value} (he : σ[iE]? = some (some (.ref a))) (ha : H a = some (exo a C d)) (hd : Ek.XdOk H d) (T : Ek.XC K C n t) (hf : fam K k C) (hq : ∀ H', Same H H' → Q (.bl true) H') :
    tOp (rEqD K) (tCall (spFam K) [] E0 (tCons (tVar iE) tNil)) (tCall spDue [] E0 (tCons (tC (.int k)) tNil)) σ H Q := by
  refine ⟨_, he, a, C, d, n, t, k, rfl, ha, hd, T, hf, fun H1 p1 s1 h1 => ⟨k, rfl, fun H2 p2 s2 h2 => ⟨_, _, dp_fam (k := k) (s2 _ _ h1), dp_due h2, rfl, rfl, ?_⟩⟩⟩
  rw [bits_eq hk]
  exact hq _ (s1.trans s2)
theorem rd_elt (hk : k < 3) (he : σ[iE]? = some (some y)) (ht : σ[iT]? = some (some thing)) (g : Ek.Good K H (fam K k) [(f, thing)] y) (hs : Ek.Shown K H thing z) (hq : ∀ H', Same H H' → Q (.bl true) H') : tElt K f k iE iT σ H Q := by
  obtain ⟨C, n, t, ⟨a, d, rfl, ha, hd⟩, T, no, hf⟩ := g
  refine ⟨_, he, a, C, d, _, thing, n, t, rfl, ha, hd, T, no (f, thing) (by simp), by simp [List.lookup], thing, z, rfl, hs, _, ht, thing, z, rfl, hs, rfl, true, by simp, ?_⟩
  exact iteT (rd_fam hk he ha ⟨_, hd⟩ T hf hq)
theorem slot_ne {i j : Nat} {v : Option V} (ne : i ≠ j) : (σ.set i v)[j]? = σ[j]? := List.getElem?_set_ne ne
theorem rd_all (hk : k < 3) {iF : Nat} {l : Addr} {xs : List V} (hE : iE < σ.length) (n1 : iE ≠ iT) (hF : σ[iF]? = some (some (.ref l))) (ht : σ[iT]? = some (some thing)) (hl : H l = some (.lst xs))
    (hx : ∀ x ∈ xs, Ek.Good K H (fam K k) [(f, thing)] x) (hs : Ek.Shown K H thing z) (hz : xs.length < 1000) (hq : ∀ H', Same H H' → Q (.bl true) H') :
    tCB (rAll K) (tCons (tLc (iList K (tVar iF)) (gName iE) tYes (tElt K f k iE iT) [iE]) tNil) σ H Q := by
  refine ⟨_, hF, l, rfl, ⟨_, SqL.of hl⟩, fun D hD => lc_list (K := K) (a := l) (xs := xs) (fun i H' => Same H H' ∧ H' D = some (.lst (List.replicate i (.bl true)))) ⟨Ek.same_new hD, upd_same⟩ (fun i H' _ h => h.1.seq (SqL.of hl)) ?_ ?_⟩
  · rintro i x H' hi ⟨s1, hd⟩
    have hlt : i < xs.length := (List.getElem?_eq_some_iff.mp hi).1
    have gx : Ek.Good K H' (fam K k) [(f, thing)] x := (hx x (List.mem_of_getElem? hi)).mono s1
    refine ⟨?_, Ek.yesT ?_⟩
    · show ((σ.set iE none).set iE (some x)).set iE none = σ.set iE none
      rw [List.set_set, List.set_set]
    · refine rd_elt hk (y := x) (thing := thing) (z := z) ?_ ?_ gx (hs.mono s1) fun H2 s2 => ?_
      · show ((σ.set iE none).set iE (some x))[iE]? = _
        rw [List.set_set, List.getElem?_set_self hE]
      · show ((σ.set iE none).set iE (some x))[iT]? = _
        rw [List.set_set, slot_ne n1]
        exact ht
      · refine ⟨_, s2 _ _ hd, ?_, Ek.same_put (s1.trans s2) hD, ?_⟩
        · rw [List.length_replicate, sizeLine_eq]; omega
        · rw [upd_same, List.replicate_succ']
  · rintro H' ⟨s1, hd⟩
    refine ⟨D, List.replicate xs.length true, rfl, SqL.of (by rw [hd, List.map_replicate]), ?_⟩
    have e : (List.replicate xs.length true).all id = true := by simp
    rw [e]
    exact hq _ s1
end
end E01

set_option Elab.async false
set_option linter.all false
set_option maxRecDepth 100000
set_option maxHeartbeats 4000000
namespace E01
open PySem PySem.Spec PyProof.Rows L2
/-! ### _law_texts_right -/
def spTx (K : PySem.W.Frag) : Sp := fun vs H Q _ => ∃ (thing : V) (z : Str), vs = [thing] ∧ Ek.Shown K H thing z ∧ ∀ H', Same H H' → Q (.bl true) H'
abbrev nTx : List Str := ["_law_thing", "_law_found", "_law_e"]
theorem scTx : FnScope nTx ["_law_thing"] (defScope (top 42)) := ⟨rfl, rfl, rfl, by decide +kernel, rfl, by decide +kernel, by decide +kernel⟩
section
variable {P : Program} {w : World} {K : PySem.W.Frag} {mg : Str → Option Value} {base h : Heap} {f : Addr} {fd fdF fdD : FuncData}
theorem ok_tx (F : FunD K "_law_texts_right" "_law_texts_right" (defArgs (top 42)) (defBody (top 42)) (defScope (top 42)) [] [] f fd) (c : He.SaysD fa fn K) (m : ex K = true) (X : K.In h) (G : h.Ns mainGlobals mg)
    (GF : FnOk P w K mg base CX0 1 (He.ga K "_law_families") fdF ["_law_e"] (spFam K)) (kF : PySem.W.keepIn K (.ref (He.ga K "_law_families")) = true) (bF : L2.Binds K fdF ["_law_e"] [])
    (GD : FnOk P w K mg base CX0 1 (He.ga K "_law_due") fdD ["_law_family"] spDue) (kD : PySem.W.keepIn K (.ref (He.ga K "_law_due")) = true) (bD : L2.Binds K fdD ["_law_family"] []) : Ek.FnG P w K mg base 4 f fd ["_law_thing"] (spTx K) := by
  have fr := f_repr c X G
  have fal := f_all c X G
  have gF := g_law_families c X G
  have gD := g_law_due c X G
  refine Ek.fnG F scTx (fun vs H Q E h => ?_) (fun cdv A outer s H vs Q E hr hgd h => ?_)
  · obtain ⟨th, z, rfl, _⟩ := h
    rfl
  have hr2 : Room 2 _ := hr.mono (by decide)
  have hr1 : Room 1 _ := hr.mono (by decide)
  refine' ⟨_, pss_cons (ps_set (i := 1) scTx.nd rfl (Or.inl rfl) ?e1) (pss_cons (ps_set (i := 1) scTx.nd rfl (Or.inl rfl) ?e2) (pss_cons (ps_set (i := 1) scTx.nd rfl (Or.inl rfl) ?e3) (pss_cons (ps_if (pt_not (pt_val ?e4)) (pss_one (ps_ret pe_bl)) pss_nil) (pss_cons (ps_set (i := 1) scTx.nd rfl (Or.inl rfl) ?e5) (pss_one (ps_ret ?e6)))))), ?rd⟩
  case e1 => exact (pe_lst (pa_cons (Ek.pe_v1 (r_InvalidText c m X G) hr2 (by rfl) (pv 0) Ek.mon_var) (pa_cons (Ek.pe_v1 (r_NotARatio c m X G) hr2 (by rfl) (pv 0) Ek.mon_var) (pa_cons (Ek.pe_v1 (r_NotASampler c m X G) hr2 (by rfl) (pv 0) Ek.mon_var) (pa_cons (Ek.pe_v1 (r_NotAJoin c m X G) hr2 (by rfl) (pv 0) Ek.mon_var) (pa_cons (Ek.pe_v1 (r_NotAPlayer c m X G) hr2 (by rfl) (pv 0) Ek.mon_var) pa_nil))))))
  case e2 => exact pe_op op_cat (pv 1) (pe_lst (pa_cons (Ek.pe_v1 (r_InvalidLength c m X G) hr2 (by rfl) (pv 0) Ek.mon_var) (pa_cons (Ek.pe_v1 (r_InvalidItem c m X G) hr2 (by rfl) (pv 0) Ek.mon_var) (pa_cons (Ek.pe_v1 (r_InvalidPlace c m X G) hr2 (by rfl) (pv 0) Ek.mon_var) (pa_cons (Ek.pe_v1 (r_InvalidCount c m X G) hr2 (by rfl) (pv 0) Ek.mon_var) pa_nil)))))
  case e3 => exact pe_op op_cat (pv 1) (pe_lst (pa_cons (Ek.pe_v1 (r_InvalidFraction c m X G) hr2 (by rfl) (pv 0) Ek.mon_var) (pa_cons (Ek.pe_v1k (r_InvalidText c m X G) hr2 (by rfl) (pv 0) Ek.mon_var) (pa_cons (Ek.pe_v1k (r_InvalidFraction c m X G) hr2 (by rfl) (pv 0) Ek.mon_var) pa_nil))))
  case e4 => exact (pe_callB (cr_all rfl) (by rfl) fal (by decide +kernel) (pa_cons (pe_lc (own := [("_law_e", 2)]) (g := gName 2) (tt := tYes) (te := tElt K "value" 0 2 0) rfl scTx.nd (pi_list (pv 1)) (blkOk_by (N := nTx) (sc := defScope (top 42)) (by decide +kernel)) (fun _ _ _ _ _ => pg_name (i := 2) scTx.nd rfl (Or.inl rfl)) (fun _ _ _ _ _ => pts_nil) (fun _ _ _ _ _ => (pe_and (pe_cmpR op_eq (by exact pe_callB (Ek.call_repr hr1 hgd) (by rfl) fr (by decide +kernel) (pa_cons (Ek.pe_xat (pv 2)) pa_nil)) (by exact pe_callB (Ek.call_repr hr1 hgd) (by rfl) fr (by decide +kernel) (pa_cons (pv 0) pa_nil)) (nomark _)) (pe_one (pe_cmpR (by exact op_eqD hr1.units) (by exact pe_call GF hr1 rfl gF kF bF .nil pass0 (pa_cons (pv 2) pa_nil)) (by exact pe_call GD hr1 rfl gD kD bD .nil pass0 (pa_cons pe_int pa_nil)) (nomark _)))))) pa_nil))
  case e5 => exact (pe_lst (pa_cons (Ek.pe_v1 (r_InvalidDraws c m X G) hr2 (by rfl) (pv 0) Ek.mon_var) (pa_cons (Ek.pe_v1 (r_InvalidEdit c m X G) hr2 (by rfl) (pv 0) Ek.mon_var) (pa_cons (Ek.pe_v1k (r_InvalidDraws c m X G) hr2 (by rfl) (pv 0) Ek.mon_var) pa_nil))))
  case e6 => exact (pe_callB (cr_all rfl) (by rfl) fal (by decide +kernel) (pa_cons (pe_lc (own := [("_law_e", 2)]) (g := gName 2) (tt := tYes) (te := tElt K "index" 0 2 0) rfl scTx.nd (pi_list (pv 1)) (blkOk_by (N := nTx) (sc := defScope (top 42)) (by decide +kernel)) (fun _ _ _ _ _ => pg_name (i := 2) scTx.nd rfl (Or.inl rfl)) (fun _ _ _ _ _ => pts_nil) (fun _ _ _ _ _ => (pe_and (pe_cmpR op_eq (by exact pe_callB (Ek.call_repr hr1 hgd) (by rfl) fr (by decide +kernel) (pa_cons (Ek.pe_xat (pv 2)) pa_nil)) (by exact pe_callB (Ek.call_repr hr1 hgd) (by rfl) fr (by decide +kernel) (pa_cons (pv 0) pa_nil)) (nomark _)) (pe_one (pe_cmpR (by exact op_eqD hr1.units) (by exact pe_call GF hr1 rfl gF kF bF .nil pass0 (pa_cons (pv 2) pa_nil)) (by exact pe_call GD hr1 rfl gD kD bD .nil pass0 (pa_cons pe_int pa_nil)) (nomark _)))))) pa_nil))
  obtain ⟨th, z, rfl, hs, hq⟩ := h
  refine ⟨th, rfl, fun y1 H1 s1 g1 => ⟨th, rfl, fun y2 H2 s2 g2 => ⟨th, rfl, fun y3 H3 s3 g3 => ⟨th, rfl, fun y4 H4 s4 g4 => ⟨th, rfl, fun y5 H5 s5 g5 => ⟨(show 5 ≤ sizeLine by decide), fun p6 h6 => ?_⟩⟩⟩⟩⟩⟩
  have s6 : Same H5 (upd H5 p6 (.lst [y1, y2, y3, y4, y5])) := Ek.same_new h6
  refine ⟨_, rfl, th, rfl, fun y6 H6 s7 g6 => ⟨th, rfl, fun y7 H7 s8 g7 => ⟨th, rfl, fun y8 H8 s9 g8 => ⟨th, rfl, fun y9 H9 s10 g9 => ⟨(show 4 ≤ sizeLine by decide), fun p11 h11 => ?_⟩⟩⟩⟩⟩
  have s11 : Same H9 (upd H9 p11 (.lst [y6, y7, y8, y9])) := Ek.same_new h11
  have a9 := s7.trans (s8.trans (s9.trans (s10.trans s11)))
  refine ⟨_, _, _, _, rfl, rfl, a9 _ _ upd_same, upd_same, (show 9 ≤ sizeLine by decide), fun p12 h12 => ?_⟩
  have s12 : Same _ (upd (upd H9 p11 (.lst [y6, y7, y8, y9])) p12 (.lst [y1, y2, y3, y4, y5, y6, y7, y8, y9])) := Ek.same_new h12
  refine ⟨_, rfl, th, rfl, fun y10 H10 s13 g10 => ⟨th, rfl, fun y11 H11 s14 g11 => ⟨th, rfl, fun y12 H12 s15 g12 => ⟨(show 3 ≤ sizeLine by decide), fun p16 h16 => ?_⟩⟩⟩⟩
  have s16 : Same H12 (upd H12 p16 (.lst [y10, y11, y12])) := Ek.same_new h16
  have a12 := s13.trans (s14.trans (s15.trans s16))
  refine ⟨_, _, _, _, rfl, rfl, a12 _ _ upd_same, upd_same, (show 12 ≤ sizeLine by decide), fun p17 h17 => ?_⟩
  have s17 : Same _ (upd (upd H12 p16 (.lst [y10, y11, y12])) p17 (.lst [y1, y2, y3, y4, y5, y6, y7, y8, y9, y10, y11, y12])) := Ek.same_new h17
  have b12 := s16.trans s17
  have b11 := s15.trans b12
  have b10 := s14.trans b11
  have b9 := s11.trans (s12.trans (s13.trans b10))
  have b8 := s10.trans b9
  have b7 := s9.trans b8
  have b6 := s8.trans b7
  have b5 := s6.trans (s7.trans b6)
  have b4 := s5.trans b5
  have b3 := s4.trans b4
  have b2 := s3.trans b3
  have b1 := s2.trans b2
  have b0 := s1.trans b1
  refine rd_all (f := "value") (k := 0) (thing := th) (z := z) (xs := [y1, y2, y3, y4, y5, y6, y7, y8, y9, y10, y11, y12]) (by decide) (show 2 < 3 by decide) (by decide) rfl rfl upd_same (Ek.all_cons (g1.mono b1) (Ek.all_cons (g2.mono b2) (Ek.all_cons (g3.mono b3) (Ek.all_cons (g4.mono b4) (Ek.all_cons (g5.mono b5) (Ek.all_cons (g6.mono b6) (Ek.all_cons (g7.mono b7) (Ek.all_cons (g8.mono b8) (Ek.all_cons (g9.mono b9) (Ek.all_cons (g10.mono b10) (Ek.all_cons (g11.mono b11) (Ek.all_cons (g12.mono b12) Ek.all_nil)))))))))))) (hs.mono b0) (show 12 < 1000 by decide) fun H18 s18 => ⟨true, rfl, ?_⟩
  refine iteF ?_
  refine ⟨th, rfl, fun x1 J1 t1 k1 => ⟨th, rfl, fun x2 J2 t2 k2 => ⟨th, rfl, fun x3 J3 t3 k3 => ⟨(show 3 ≤ sizeLine by decide), fun p4 h4 => ?_⟩⟩⟩⟩
  have t4 : Same J3 (upd J3 p4 (.lst [x1, x2, x3])) := Ek.same_new h4
  have c0 := b0.trans (s18.trans (t1.trans (t2.trans (t3.trans t4))))
  refine rd_all (f := "index") (k := 0) (thing := th) (z := z) (xs := [x1, x2, x3]) (by decide) (show 2 < 3 by decide) (by decide) rfl rfl upd_same (Ek.all_cons (k1.mono (t2.trans (t3.trans t4))) (Ek.all_cons (k2.mono (t3.trans t4)) (Ek.all_cons (k3.mono t4) Ek.all_nil))) (hs.mono c0) (show 3 < 1000 by decide) fun H5 s5 => hq _ (c0.trans s5)
end
end E01

set_option Elab.async false
set_option linter.all false
set_option maxRecDepth 100000
set_option maxHeartbeats 4000000
namespace E01
open PySem PySem.Spec PyProof.Rows L2
/-! ### _law_others_right -/
def spOx (K : PySem.W.Frag) : Sp := fun vs H Q _ => ∃ (thing other : V) (z y : Str), vs = [thing, other] ∧ Ek.Shown K H thing z ∧ Ek.Shown K H other y ∧ PyData.strOk z = true ∧ PyData.strOk y = true ∧ ∀ H', Same H H' → Q (.bl true) H'
abbrev nOx : List Str := ["_law_thing", "_law_other", "_law_found", "_law_e", "_law_near", "_law_far", "_law_rest"]
theorem scOx : FnScope nOx ["_law_thing", "_law_other"] (defScope (top 43)) := ⟨rfl, rfl, rfl, by decide +kernel, rfl, by decide +kernel, by decide +kernel⟩
section
variable {P : Program} {w : World} {K : PySem.W.Frag} {mg : Str → Option Value} {base h : Heap} {f : Addr} {fd fdF fdD : FuncData}
/-- an exception of the k-th family, with or without its dict -/
def Mem (K : PySem.W.Frag) (H : Hp) (k : Nat) (y : V) : Prop := ∃ (a C : Addr) (d : Option Addr) (n : String) (t : List Value), y = .ref a ∧ H a = some (exo a C d) ∧ Ek.XdOk H d ∧ Ek.XC K C n t ∧ fam K k C
theorem Mem.mono {H H' : Hp} {k : Nat} {y : V} (h : Mem K H k y) (s : Same H H') : Mem K H' k y := by
  obtain ⟨a, C, d, n, t, e, ha, hd, r⟩ := h
  refine ⟨a, C, d, n, t, e, s _ _ ha, ?_, r⟩
  cases d with
  | none => trivial
  | some dx => exact hd.elim fun fs q => ⟨fs, s _ _ q⟩
theorem Mem.of {H : Hp} {k : Nat} {fs : List (Str × V)} {y : V} (g : Ek.Good K H (fam K k) fs y) : Mem K H k y := by
  obtain ⟨C, n, t, ⟨a, d, e, ha, hd⟩, T, _, hf⟩ := g
  exact ⟨a, C, some d, n, t, e, ha, ⟨fs, hd⟩, T, hf⟩
theorem eqv2 {z y : Str} : PyData.eqv (.list [.str z, .str y]) (.list [.str z, .str y]) = true := by simp [PyData.eqv, PyData.eqvAll]
theorem shp2 {z y : Str} (hz : PyData.strOk z = true) (hy : PyData.strOk y = true) : SeqAt.shaped (.list [.str z, .str y]) = true := by
  unfold SeqAt.shaped
  simp only [PyData.canLay0, PyData.canLayAll0, hz, hy, Bool.and_self, Bool.true_and]
  rfl
theorem lk2 {u v : V} : List.lookup ("name" : Str) [("demand", u), ("name", v)] = some v := by simp [List.lookup, show ((("name" : Str)) == ("demand" : Str)) = false from by decide]
theorem dp_refs {H : Hp} {d : PyData} : ∀ {ps : List Addr}, (∀ p ∈ ps, Dp K H (.ref p) d) → DpAll K H (ps.map V.ref) (List.replicate ps.length d)
  | [], _ => .nil
  | p :: r, h => .cons (h p List.mem_cons_self) (dp_refs fun q hq => h q (List.mem_cons_of_mem _ hq))
theorem ok_ox (F : FunD K "_law_others_right" "_law_others_right" (defArgs (top 43)) (defBody (top 43)) (defScope (top 43)) [] [] f fd) (c : He.SaysD fa fn K) (m : ex K = true) (X : K.In h) (G : h.Ns mainGlobals mg)
    (GF : FnOk P w K mg base CX0 1 (He.ga K "_law_families") fdF ["_law_e"] (spFam K)) (kF : PySem.W.keepIn K (.ref (He.ga K "_law_families")) = true) (bF : L2.Binds K fdF ["_law_e"] [])
    (GD : FnOk P w K mg base CX0 1 (He.ga K "_law_due") fdD ["_law_family"] spDue) (kD : PySem.W.keepIn K (.ref (He.ga K "_law_due")) = true) (bD : L2.Binds K fdD ["_law_family"] []) : Ek.FnG P w K mg base 4 f fd ["_law_thing", "_law_other"] (spOx K) := by
  have fr := f_repr c X G
  have fal := f_all c X G
  have gF := g_law_families c X G
  have gD := g_law_due c X G
  obtain ⟨xU, iU, kU⟩ := (facts_of m).2.2.2 "UnlikePlaces" (by simp [l0])
  obtain ⟨xN, iN, kN⟩ := (facts_of m).2.2.2 "NothingBack" (by simp [l0])
  obtain ⟨xH, iH, kH⟩ := (facts_of m).2.2.2 "Held" (by simp [l0])
  obtain ⟨xZ, iZ, kZ⟩ := (facts_of m).2.2.2 "ZeroBelow" (by simp [l0])
  refine Ek.fnG F scOx (fun vs H Q E h => ?_) (fun cdv A outer s H vs Q E hr hgd h => ?_)
  · obtain ⟨th, ot, z, y, rfl, _⟩ := h
    rfl
  have hr2 : Room 2 _ := hr.mono (by decide)
  have hr1 : Room 1 _ := hr.mono (by decide)
  refine' ⟨_, (pss_cons (ps_set (i := 2) scOx.nd rfl (Or.inl rfl) ?e1) (pss_cons (ps_if (pt_not (pt_val ?e2)) (pss_one (ps_ret pe_bl)) pss_nil) (pss_cons (ps_for PassesOwn.never rfl (pi_list ?e3) (pg_name (i := 3) scOx.nd rfl (Or.inl rfl)) (pss_one (ps_if ?t3 (pss_one (ps_ret pe_bl)) pss_nil))) (pss_cons (ps_for PassesOwn.never rfl (pi_list ?e4) (pg_name (i := 3) scOx.nd rfl (Or.inl rfl)) (pss_one (ps_if ?t4 (pss_one (ps_ret pe_bl)) pss_nil))) (pss_cons (ps_par (i := 4) (j := 5) rfl scOx.nd rfl rfl (by decide) rfl rfl ?e5 (by rfl)) (pss_cons (ps_if ?t6 (pss_one (ps_ret pe_bl)) pss_nil) (pss_cons (ps_set (i := 6) scOx.nd rfl (Or.inl rfl) ?e7) (pss_one (ps_ret ?e8))))))))), ?rd⟩
  case e1 => exact (pe_lst (pa_cons (Ek.pe_v1 (r_UnknownPlace c m X G) hr2 (by rfl) (pv 0) Ek.mon_var) (pa_cons (Ek.pe_v1 (r_NotDrawn c m X G) hr2 (by rfl) (pv 0) Ek.mon_var) (pa_cons (Ek.pe_v1 (r_DrawnTwice c m X G) hr2 (by rfl) (pv 0) Ek.mon_var) (pa_cons (Ek.pe_v1 (r_BelowOne c m X G) hr2 (by rfl) (pv 0) Ek.mon_var) (pa_cons (Ek.pe_v1k (r_Unsettled c m X G) hr2 (by rfl) (pv 0) Ek.mon_var) pa_nil))))))
  case e2 => exact (pe_callB (cr_all rfl) (by rfl) fal (by decide +kernel) (pa_cons (pe_lc (own := [("_law_e", 3)]) (g := gName 3) (tt := tYes) (te := tElt K "line" 1 3 0) rfl scOx.nd (pi_list (pv 2)) (blkOk_by (N := nOx) (sc := defScope (top 43)) (by decide +kernel)) (fun _ _ _ _ _ => pg_name (i := 3) scOx.nd rfl (Or.inl rfl)) (fun _ _ _ _ _ => pts_nil) (fun _ _ _ _ _ => (pe_and (pe_cmpR op_eq (by exact pe_callB (Ek.call_repr hr1 hgd) (by rfl) fr (by decide +kernel) (pa_cons (Ek.pe_xat (pv 3)) pa_nil)) (by exact pe_callB (Ek.call_repr hr1 hgd) (by rfl) fr (by decide +kernel) (pa_cons (pv 0) pa_nil)) (nomark _)) (pe_one (pe_cmpR (by exact op_eqD hr1.units) (by exact pe_call GF hr1 rfl gF kF bF .nil pass0 (pa_cons (pv 3) pa_nil)) (by exact pe_call GD hr1 rfl gD kD bD .nil pass0 (pa_cons pe_int pa_nil)) (nomark _)))))) pa_nil))
  case e3 => exact (pe_lst (pa_cons (Ek.pe_v1 (r_TooMuch c m X G) hr2 (by rfl) (pv 0) Ek.mon_var) (pa_cons (Ek.pe_v1k (r_TooMuch c m X G) hr2 (by rfl) (pv 0) Ek.mon_var) pa_nil)))
  case t3 => exact PW.pt (pw_or (pt_cmpR op_ne (by exact pe_callB (Ek.call_repr hr1 hgd) (by rfl) fr (by decide +kernel) (pa_cons (Ek.pe_xat (pv 3)) pa_nil)) (by exact pe_callB (Ek.call_repr hr1 hgd) (by rfl) fr (by decide +kernel) (pa_cons (pv 0) pa_nil)) (nomark _)) (pw_or1 (pt_cmpR (by exact op_neD hr1.units) (by exact pe_call GF hr1 rfl gF kF bF .nil pass0 (pa_cons (pv 3) pa_nil)) (by exact pe_call GD hr1 rfl gD kD bD .nil pass0 (pa_cons pe_int pa_nil)) (nomark _))))
  case e4 => exact (pe_lst (pa_cons (Ek.pe_v2 (r_Refused c m X G) hr2 (by rfl) (pv 0) Ek.mon_var (pv 1) Ek.mon_var) (pa_cons (Ek.pe_v2k (r_Refused c m X G) hr2 (by rfl) (pv 0) Ek.mon_var (pv 1) Ek.mon_var) pa_nil)))
  case t4 => exact PW.pt (pw_or (pt_cmpR (by exact op_neD hr1.units) (pe_lst (pa_cons (by exact pe_callB (Ek.call_repr hr1 hgd) (by rfl) fr (by decide +kernel) (pa_cons (Ek.pe_xat (pv 3)) pa_nil)) (pa_cons (by exact pe_callB (Ek.call_repr hr1 hgd) (by rfl) fr (by decide +kernel) (pa_cons (Ek.pe_xat (pv 3)) pa_nil)) pa_nil))) (pe_lst (pa_cons (by exact pe_callB (Ek.call_repr hr1 hgd) (by rfl) fr (by decide +kernel) (pa_cons (pv 0) pa_nil)) (pa_cons (by exact pe_callB (Ek.call_repr hr1 hgd) (by rfl) fr (by decide +kernel) (pa_cons (pv 1) pa_nil)) pa_nil))) (nomark _)) (pw_or1 (pt_cmpR (by exact op_neD hr1.units) (by exact pe_call GF hr1 rfl gF kF bF .nil pass0 (pa_cons (pv 3) pa_nil)) (by exact pe_call GD hr1 rfl gD kD bD .nil pass0 (pa_cons pe_int pa_nil)) (nomark _))))
  case e5 => exact (pa_cons (Ek.pe_v1 (r_Gap c m X G) hr2 (by rfl) (pv 0) Ek.mon_var) (pa_cons (Ek.pe_v1k (r_Missing c m X G) hr2 (by rfl) (pv 0) Ek.mon_var) pa_nil))
  case t6 => exact pt_cmpR (by exact op_neD hr1.units) (pe_lst (pa_cons (by exact pe_callB (Ek.call_repr hr1 hgd) (by rfl) fr (by decide +kernel) (pa_cons (Ek.pe_xat (pv 4)) pa_nil)) (pa_cons (by exact pe_callB (Ek.call_repr hr1 hgd) (by rfl) fr (by decide +kernel) (pa_cons (Ek.pe_xat (pv 5)) pa_nil)) pa_nil))) (pe_op op_rep (pe_lst (pa_cons (by exact pe_callB (Ek.call_repr hr1 hgd) (by rfl) fr (by decide +kernel) (pa_cons (pv 0) pa_nil)) pa_nil)) pe_int) (nomark _)
  case e7 => exact (pe_lst (pa_cons (pv 4) (pa_cons (pv 5) (pa_cons (Ek.pe_x0 Ek.xbR.base iU (g_UnlikePlaces c X G) xU.kp (by rfl)) (pa_cons (Ek.pe_x0 Ek.xbR.base iN (g_NothingBack c X G) xN.kp (by rfl)) (pa_cons (Ek.pe_x0 Ek.xbR.base iH (g_Held c X G) xH.kp (by rfl)) (pa_cons (Ek.pe_x0 Ek.xbR.base iZ (g_ZeroBelow c X G) xZ.kp (by rfl)) pa_nil)))))))
  case e8 => exact pe_cmpR (by exact op_eqD hr1.units) (pe_lc (own := [("_law_e", 3)]) (g := gName 3) (tt := tYes) (te := tCall (spFam K) [] E0 (tCons (tVar 3) tNil)) rfl scOx.nd (pi_list (pv 6)) (blkOk_by (N := nOx) (sc := defScope (top 43)) (by decide +kernel)) (fun _ _ _ _ _ => pg_name (i := 3) scOx.nd rfl (Or.inl rfl)) (fun _ _ _ _ _ => pts_nil) (fun _ _ _ _ _ => (by exact pe_call GF hr1 rfl gF kF bF .nil pass0 (pa_cons (pv 3) pa_nil)))) (pe_op op_rep (pe_lst (pa_cons (by exact pe_call GD hr1 rfl gD kD bD .nil pass0 (pa_cons pe_int pa_nil)) pa_nil)) pe_int) (nomark _)
  obtain ⟨th, ot, z, y, rfl, hs, ho, oz, oy, hq⟩ := h
  refine ⟨th, rfl, fun y1 H1 s1 g1 => ⟨th, rfl, fun y2 H2 s2 g2 => ⟨th, rfl, fun y3 H3 s3 g3 => ⟨th, rfl, fun y4 H4 s4 g4 => ⟨th, rfl, fun y5 H5 s5 g5 => ⟨(show 5 ≤ sizeLine by decide), fun p6 h6 => ?_⟩⟩⟩⟩⟩⟩
  have b5 : Same H5 (upd H5 p6 (.lst [y1, y2, y3, y4, y5])) := Ek.same_new h6
  have b4 := s5.trans b5
  have b3 := s4.trans b4
  have b2 := s3.trans b3
  have b1 := s2.trans b2
  have b0 := s1.trans b1
  refine rd_all (f := "line") (k := 1) (thing := th) (z := z) (xs := [y1, y2, y3, y4, y5]) (by decide) (show 3 < 7 by decide) (by decide) rfl rfl upd_same
    (Ek.all_cons (g1.mono b1) (Ek.all_cons (g2.mono b2) (Ek.all_cons (g3.mono b3) (Ek.all_cons (g4.mono b4) (Ek.all_cons (g5.mono b5) Ek.all_nil))))) (hs.mono b0) (show 5 < 1000 by decide) fun H7 s7 => ⟨true, rfl, ?_⟩
  refine iteF ?_
  have d7 := b0.trans s7
  -- for e in [TooMuch(thing), TooMuch(what=thing)]
  refine ⟨th, rfl, fun x1 J1 t1 k1 => ⟨th, rfl, fun x2 J2 t2 k2 => ⟨(show 2 ≤ sizeLine by decide), fun p8 h8 => ?_⟩⟩⟩
  have t3 : Same J2 (upd J2 p8 (.lst [x1, x2])) := Ek.same_new h8
  have e3 := d7.trans (t1.trans (t2.trans t3))
  have gx : ∀ x ∈ [x1, x2], Ek.Good K (upd J2 p8 (.lst [x1, x2])) (fam K 1) [("what", th)] x := Ek.all_cons (k1.mono (t2.trans t3)) (Ek.all_cons (k2.mono t3) Ek.all_nil)
  refine ⟨p8, rfl, ⟨_, SqL.of upd_same⟩, for_list (K := K) (a := p8) (xs := [x1, x2]) (fun i σ' H' => ∃ v : Option V, σ' = [some th, some ot, some (.ref p6), v, none, none, none] ∧ Same (upd J2 p8 (.lst [x1, x2])) H') ⟨none, rfl, Same.refl _⟩
    (fun i σ' H' _ ⟨v, _, s⟩ => s.seq (SqL.of upd_same)) ?_ ?_⟩
  · rintro i x σ' H' hi ⟨v, rfl, s8⟩
    obtain ⟨C, n, t, ⟨a, d, rfl, ha, hd⟩, T, no, hf⟩ := (gx x (List.mem_of_getElem? hi)).mono s8
    refine ⟨_, rfl, a, C, d, _, th, n, t, rfl, ha, hd, T, no ("what", th) (by simp), by simp [List.lookup], th, z, rfl, hs.mono (e3.trans s8), th, rfl, th, z, rfl, hs.mono (e3.trans s8), rfl, false, by simp, ?_⟩
    refine iteF ?_
    refine ⟨_, rfl, a, C, some d, n, t, 1, rfl, ha, ⟨_, hd⟩, T, hf, fun H9 p9 s9 h9 => ⟨1, rfl, fun H10 p10 s10 h10 => ⟨_, _, dp_fam (k := 1) (s10 _ _ h9), dp_due h10, rfl, rfl, false, by decide +kernel, ?_⟩⟩⟩
    exact iteF ⟨_, rfl, s8.trans (s9.trans s10)⟩
  rintro σ9 H9 ⟨v9, rfl, s9⟩
  have d9 := e3.trans s9
  -- for e in [Refused(thing, other), Refused(demand=other, name=thing)]
  refine ⟨th, rfl, ot, rfl, fun w1 L1 u1 m1 => ⟨ot, rfl, th, rfl, fun w2 L2 u2 m2 => ⟨(show 2 ≤ sizeLine by decide), fun p10 h10 => ?_⟩⟩⟩
  have u3 : Same L2 (upd L2 p10 (.lst [w1, w2])) := Ek.same_new h10
  have e10 := d9.trans (u1.trans (u2.trans u3))
  have gw : ∀ x ∈ [w1, w2], Ek.Good K (upd L2 p10 (.lst [w1, w2])) (fam K 2) [("demand", ot), ("name", th)] x := Ek.all_cons (m1.mono (u2.trans u3)) (Ek.all_cons (m2.mono u3) Ek.all_nil)
  refine ⟨p10, rfl, ⟨_, SqL.of upd_same⟩, for_list (K := K) (a := p10) (xs := [w1, w2]) (fun i σ' H' => ∃ v : Option V, σ' = [some th, some ot, some (.ref p6), v, none, none, none] ∧ Same (upd L2 p10 (.lst [w1, w2])) H') ⟨v9, rfl, Same.refl _⟩
    (fun i σ' H' _ ⟨v, _, s⟩ => s.seq (SqL.of upd_same)) ?_ ?_⟩
  · rintro i x σ' H' hi ⟨v, rfl, s8⟩
    obtain ⟨C, n, t, ⟨a, d, rfl, ha, hd⟩, T, no, hf⟩ := (gw x (List.mem_of_getElem? hi)).mono s8
    have hs1 := hs.mono (e10.trans s8)
    have ho1 := ho.mono (e10.trans s8)
    refine ⟨_, rfl, a, C, d, _, th, n, t, rfl, ha, hd, T, no ("name", th) (by simp), lk2, th, z, rfl, hs1, _, rfl, a, C, d, _, ot, n, t, rfl, ha, hd, T, no ("demand", ot) (by simp), by simp [List.lookup], ot, y, rfl, ho1,
      (show 2 ≤ sizeLine by decide), fun q1 j1 => ?_⟩
    have v1 : Same H' (upd H' q1 (.lst [.str z, .str y])) := Ek.same_new j1
    refine ⟨th, rfl, th, z, rfl, hs1.mono v1, ot, rfl, ot, y, rfl, ho1.mono v1, (show 2 ≤ sizeLine by decide), fun q2 j2 => ?_⟩
    have v2 : Same _ (upd (upd H' q1 (.lst [.str z, .str y])) q2 (.lst [.str z, .str y])) := Ek.same_new j2
    refine ⟨.list [.str z, .str y], .list [.str z, .str y], .lst (SqL.of (v2 _ _ upd_same)) (.cons (.str _) (.cons (.str _) .nil)), .lst (SqL.of upd_same) (.cons (.str _) (.cons (.str _) .nil)), shp2 oz oy, shp2 oz oy, false, by rw [eqv2]; rfl, ?_⟩
    refine iteF ?_
    have v3 := v1.trans v2
    refine ⟨_, rfl, a, C, some d, n, t, 2, rfl, v3 _ _ ha, ⟨_, v3 _ _ hd⟩, T, hf, fun H9 p9 s9 h9 => ⟨2, rfl, fun H10 p10 s10 h10 => ⟨_, _, dp_fam (k := 2) (s10 _ _ h9), dp_due h10, rfl, rfl, false, by decide +kernel, ?_⟩⟩⟩
    exact iteF ⟨_, rfl, s8.trans (v3.trans (s9.trans s10))⟩
  rintro σ11 H11 ⟨v11, rfl, s11⟩
  have d11 := e10.trans s11
  -- near, far
  refine ⟨th, rfl, fun near N1 n1 gn => ⟨th, rfl, fun far N2 n2 gf => ⟨near, far, rfl, ?_⟩⟩⟩
  have gn2 := gn.mono n2
  have d12 := d11.trans (n1.trans n2)
  have mn := Mem.of gn2
  have mf := Mem.of gf
  obtain ⟨C, n, t, ⟨a, d, rfl, ha, hd⟩, T, no, hf⟩ := gn2
  obtain ⟨C', n', t', ⟨a', d', rfl, ha', hd'⟩, T', no', hf'⟩ := gf
  have hs2 := hs.mono d12
  refine ⟨_, rfl, a, C, d, _, th, n, t, rfl, ha, hd, T, no ("at", th) (by simp), by simp [List.lookup], th, z, rfl, hs2, _, rfl, a', C', d', _, th, n', t', rfl, ha', hd', T', no' ("name", th) (by simp), by simp [List.lookup], th, z, rfl, hs2,
      (show 2 ≤ sizeLine by decide), fun q1 j1 => ?_⟩
  have v1 : Same N2 (upd N2 q1 (.lst [.str z, .str z])) := Ek.same_new j1
  refine ⟨th, rfl, th, z, rfl, hs2.mono v1, (show 1 ≤ sizeLine by decide), fun q2 j2 => ⟨_, _, _, rfl, rfl, upd_same, by decide, by decide, (show 2 ≤ sizeLine by decide), fun q3 j3 => ?_⟩⟩
  have v2 : Same (upd N2 q1 (.lst [.str z, .str z])) (upd (upd N2 q1 (.lst [.str z, .str z])) q2 (.lst [.str z])) := Ek.same_new j2
  have v3 : Same (upd (upd N2 q1 (.lst [.str z, .str z])) q2 (.lst [.str z])) (upd (upd (upd N2 q1 (.lst [.str z, .str z])) q2 (.lst [.str z])) q3 (.lst [.str z, .str z])) := Ek.same_new j3
  refine ⟨.list [.str z, .str z], .list [.str z, .str z], .lst (SqL.of ((v2.trans v3) _ _ upd_same)) (.cons (.str _) (.cons (.str _) .nil)), .lst (SqL.of upd_same) (.cons (.str _) (.cons (.str _) .nil)), shp2 oz oz, shp2 oz oz, false, by rw [eqv2]; rfl, ?_⟩
  refine iteF ?_
  have w3 := v1.trans (v2.trans v3)
  -- rest
  refine ⟨_, rfl, _, rfl, fun c1 r1 => ?_⟩
  have x1 := Ek.same_new (o := exo c1 (He.ga K "UnlikePlaces") none) r1
  refine fun c2 r2 => ?_
  have x2 := Ek.same_new (o := exo c2 (He.ga K "NothingBack") none) r2
  refine fun c3 r3 => ?_
  have x3 := Ek.same_new (o := exo c3 (He.ga K "Held") none) r3
  refine fun c4 r4 => ?_
  have x4 := Ek.same_new (o := exo c4 (He.ga K "ZeroBelow") none) r4
  refine ⟨(show 6 ≤ sizeLine by decide), fun p13 h13 => ?_⟩
  have x5 := Ek.same_new (o := .lst [.ref a, .ref a', .ref c1, .ref c2, .ref c3, .ref c4]) h13
  have a4 := x4.trans x5
  have a3 := x3.trans a4
  have a2 := x2.trans a3
  have a1 := x1.trans a2
  have d13 := d12.trans (w3.trans a1)
  generalize hH : upd _ p13 (HO.lst [V.ref a, V.ref a', V.ref c1, V.ref c2, V.ref c3, V.ref c4]) = H13 at *
  have hl : H13 p13 = some (.lst [.ref a, .ref a', .ref c1, .ref c2, .ref c3, .ref c4]) := by rw [← hH]; exact upd_same
  have mm : ∀ x ∈ [V.ref a, V.ref a', V.ref c1, V.ref c2, V.ref c3, V.ref c4], Mem K H13 2 x := Ek.all_cons (mn.mono (w3.trans a1)) (Ek.all_cons (mf.mono (w3.trans a1))
    (Ek.all_cons ⟨c1, _, none, _, _, rfl, a2 _ _ upd_same, trivial, xU, kU⟩ (Ek.all_cons ⟨c2, _, none, _, _, rfl, a3 _ _ upd_same, trivial, xN, kN⟩
    (Ek.all_cons ⟨c3, _, none, _, _, rfl, a4 _ _ upd_same, trivial, xH, kH⟩ (Ek.all_cons ⟨c4, _, none, _, _, rfl, x5 _ _ upd_same, trivial, xZ, kZ⟩ Ek.all_nil)))))
  refine ⟨_, rfl, p13, rfl, ⟨_, SqL.of hl⟩, fun D hD => lc_list (K := K) (a := p13) (xs := [.ref a, .ref a', .ref c1, .ref c2, .ref c3, .ref c4])
    (fun i H' => Same H13 H' ∧ ∃ ps : List Addr, ps.length = i ∧ H' D = some (.lst (ps.map V.ref)) ∧ ∀ p ∈ ps, H' p = some (.lst (famL 2 ++ famL 2)) ∧ p ≠ D) ⟨Ek.same_new hD, [], rfl, upd_same, fun _ h => nomatch h⟩ (fun i H' _ h => h.1.seq (SqL.of hl)) ?_ ?_⟩
  · rintro i x H' hi ⟨z1, ps, hlen, hd, hall⟩
    have hlt : i < 6 := (List.getElem?_eq_some_iff.mp hi).1
    obtain ⟨b, Cb, db, nb, tb, rfl, hb, hbd, Tb, fb⟩ := (mm x (List.mem_of_getElem? hi)).mono z1
    refine ⟨rfl, Ek.yesT ?_⟩
    refine ⟨_, rfl, b, Cb, db, nb, tb, 2, rfl, hb, hbd, Tb, fb, fun H'' p z2 hp => ⟨_, z2 _ _ hd, ?_, Ek.same_put (z1.trans z2) hD, ps ++ [p], ?_, ?_, ?_⟩⟩
    · rw [List.length_map, hlen, sizeLine_eq]; omega
    · rw [List.length_append, hlen]; rfl
    · rw [upd_same, List.map_append]; rfl
    · have pD : p ≠ D := fun e => by
        rw [e, z2 _ _ hd] at hp
        have q := HO.lst.inj (Option.some.inj hp)
        cases ps with
        | nil => cases q
        | cons q0 r => cases (List.cons.inj q).1
      intro q hq
      rcases List.mem_append.mp hq with hq | hq
      · exact ⟨by rw [upd_ne (hall q hq).2]; exact z2 _ _ (hall q hq).1, (hall q hq).2⟩
      · cases List.mem_singleton.mp hq
        exact ⟨by rw [upd_ne pD]; exact hp, pD⟩
  · rintro H' ⟨z1, ps, hlen, hd, hall⟩
    refine ⟨2, rfl, fun H14 p14 z2 h14 => ⟨(show 1 ≤ sizeLine by decide), fun p15 h15 => ?_⟩⟩
    have z3 : Same H14 (upd H14 p15 (.lst [.ref p14])) := Ek.same_new h15
    refine ⟨_, _, _, rfl, rfl, upd_same, by decide, by decide, (show 6 ≤ sizeLine by decide), fun p16 h16 => ?_⟩
    have z4 : Same (upd H14 p15 (.lst [.ref p14])) (upd (upd H14 p15 (.lst [.ref p14])) p16 (.lst [.ref p14, .ref p14, .ref p14, .ref p14, .ref p14, .ref p14])) := Ek.same_new h16
    have z5 := z2.trans (z3.trans z4)
    have z6 := z3.trans z4
    have dpd := dp_due (K := K) (z6 _ _ h14)
    refine ⟨.list (List.replicate 6 (.list (bits 2))), .list (List.replicate 6 (.list (bitsD 2))), .lst (SqL.of (z5 _ _ hd)) ?_, .lst (SqL.of upd_same) ?_, rfl, rfl, ?_⟩
    · rw [← (show ps.length = 6 from hlen)]
      exact dp_refs fun p hp => dp_fam (z5 _ _ (hall p hp).1)
    · exact .cons dpd (.cons dpd (.cons dpd (.cons dpd (.cons dpd (.cons dpd .nil)))))
    · have e : PyData.eqv (.list (List.replicate 6 (.list (bits 2)))) (.list (List.replicate 6 (.list (bitsD 2)))) = true := by decide +kernel
      rw [e]
      exact hq _ (d13.trans (z1.trans z5))
end
end E01

set_option Elab.async false
set_option linter.all false
set_option maxRecDepth 100000
set_option maxHeartbeats 4000000
namespace E01
open PySem PySem.Spec PyProof.Rows L2
abbrev big : Int := 998244353
/-- a well: its digits, its state, its count -/
def wl (d s c : Int) : HO := .lst [.int d, .int s, .int c]
/-! ### _law_dip -/
def spDip : Sp := fun vs H Q _ => ∃ (p : Addr) (many d st c : Int), vs = [.ref p, .int many] ∧ H p = some (wl d st c) ∧ 0 ≤ d ∧ 0 ≤ st ∧ st < big ∧ 0 < many ∧ many.natAbs.log2 < 9000 ∧
  ∀ r d' st' c', 0 ≤ r → r < many → 0 ≤ d' → 0 ≤ st' → st' < big → Q (.int r) (upd H p (wl d' st' c'))
abbrev nDip : List Str := ["_law_well_here", "_law_many", "_law_digit", "_law_state"]
theorem scDip : FnScope nDip ["_law_well_here", "_law_many"] (defScope (top 38)) := ⟨rfl, rfl, rfl, by decide +kernel, rfl, by decide +kernel, by decide +kernel⟩
section
variable {P : Program} {w : World} {K : PySem.W.Frag} {mg : Str → Option Value} {base h : Heap} {f : Addr} {fd fdD : FuncData}
theorem ok_dip (F : FunD K "_law_dip" "_law_dip" (defArgs (top 38)) (defBody (top 38)) (defScope (top 38)) [] [] f fd) (fi : mg "int" = none) : FnOk P w K mg base CX0 1 f fd ["_law_well_here", "_law_many"] spDip := by
  refine F.ok scDip (fun vs H Q E h => ?_) (fun cdv A outer s H vs Q E hr h => ⟨_, PSs.nox (
    pss_cons (ps_asg (pe_op op_add (pe_ix ix_list (pv 0) pe_int (fun _ _ => rfl)) pe_int) (pg_sub (pv 0) pe_int set_list))
    (pss_cons (ps_if (pt_cmpR op_gt (pe_ix ix_list (pv 0) pe_int (fun _ _ => rfl)) pe_int (nomark _))
      (pss_cons (ps_set (i := 2) scDip.nd rfl (Or.inl rfl) (pe_op op_mod (pe_callTy call_int1 (by rfl) fi (by decide +kernel) (pa_cons (pe_ix ix_list (pv 0) pe_int (fun _ _ => rfl)) pa_nil)) (pv 1)))
      (pss_cons (ps_asg (pe_op op_fdivW (pe_ix ix_list (pv 0) pe_int (fun _ _ => rfl)) (pv 1)) (pg_sub (pv 0) pe_int set_list))
      (pss_one (ps_ret (pv 2))))) pss_nil)
    (pss_cons (ps_set (i := 3) scDip.nd rfl (Or.inl rfl) (pe_callTy call_int1 (by rfl) fi (by decide +kernel) (pa_cons (pe_ix ix_list (pv 0) pe_int (fun _ _ => rfl)) pa_nil)))
    (pss_cons (ps_asg (pe_op op_mod (pe_callTy call_int1 (by rfl) fi (by decide +kernel) (pa_cons (pe_op op_add (pe_op op_add (pe_op op_mul (pv 3) (pe_op op_add (pe_op op_mod (pv 3) pe_int) pe_int)) (pe_op op_mul pe_int (pe_ix ix_list (pv 0) pe_int (fun _ _ => rfl)))) pe_int) pa_nil)) pe_int) (pg_sub (pv 0) pe_int set_list))
    (pss_one (ps_ret (pe_op op_mod (pe_callTy call_int1 (by rfl) fi (by decide +kernel) (pa_cons (pe_op op_fdiv (pe_ix ix_list (pv 0) pe_int (fun _ _ => rfl)) pe_int) pa_nil)) (pv 1)))))))), ?_⟩)
  · obtain ⟨p, many, d, st, c, rfl, _⟩ := h
    rfl
  · obtain ⟨p, many, d, st, c, rfl, hp, h1, h2, h3, h4, h5, hq⟩ := h
    have hc : big = 998244353 := rfl
    refine ⟨_, rfl, p, _, 2, .int c, rfl, rfl, SqL.of hp, rfl, c, 1, rfl, rfl, _, rfl, p, _, 2, 2, rfl, rfl, hp, rfl, ?_⟩
    show (fun H' => _) (upd H p (wl d st (c + 1)))
    refine ⟨_, rfl, p, _, 0, .int d, rfl, rfl, SqL.of upd_same, rfl, d, 0, rfl, rfl, _, rfl, ?_⟩
    refine ite2 (fun hd => ?_) fun hd => ?_
    · have hd := of_decide_eq_true hd
      refine ⟨_, rfl, p, _, 0, .int d, rfl, rfl, SqL.of upd_same, rfl, .inl ⟨d, rfl, _, rfl, d, many, rfl, rfl, h4, ?_⟩⟩
      refine ⟨_, rfl, p, _, 0, .int d, rfl, rfl, SqL.of upd_same, rfl, _, rfl, d, many, rfl, rfl, ⟨h4, h5⟩, _, rfl, p, _, 0, 0, rfl, rfl, upd_same, rfl, ?_⟩
      refine ⟨_, rfl, ?_⟩
      rw [upd_upd]
      exact hq (d % many) (d / many) st (c + 1) (Int.emod_nonneg _ (by omega)) (Int.emod_lt_of_pos _ h4) (Int.ediv_nonneg h1 (by omega)) h2 h3
    · refine ⟨_, rfl, p, _, 1, .int st, rfl, rfl, SqL.of upd_same, rfl, .inl ⟨st, rfl, ?_⟩⟩
      refine ⟨_, rfl, _, rfl, st, 48611, rfl, rfl, (show (0 : Int) < 48611 by decide), _, 8191, rfl, rfl, _, _, rfl, rfl, .inl ⟨by omega, by omega⟩, _, rfl, p, _, 2, .int (c + 1), rfl, rfl, SqL.of upd_same, rfl, 6151, c + 1, rfl, rfl, .inl ⟨by decide, by decide⟩,
        _, _, rfl, rfl, _, 11, rfl, rfl, .inl ⟨_, rfl, _, 998244353, rfl, rfl, (show (0 : Int) < 998244353 by decide), _, rfl, p, _, 1, 1, rfl, rfl, upd_same, rfl, ?_⟩⟩
      rw [upd_upd]
      refine ⟨_, rfl, p, _, 1, _, rfl, rfl, SqL.of upd_same, rfl, _, 131, rfl, rfl, ⟨by decide, by decide⟩, .inl ⟨_, rfl, _, rfl, _, many, rfl, rfl, h4, ?_⟩⟩
      exact hq _ d _ (c + 1) (Int.emod_nonneg _ (by omega)) (Int.emod_lt_of_pos _ h4) h1 (Int.emod_nonneg _ (by decide)) (Int.emod_lt_of_pos _ (by decide))
end
end E01

set_option Elab.async false
set_option linter.all false
set_option maxRecDepth 100000
set_option maxHeartbeats 4000000
namespace E01
open PySem PySem.Spec PyProof.Rows L2
/-! ### _law_any -/
def spAny (K : PySem.W.Frag) : Sp := fun vs H Q _ => ∃ (p l : Addr) (xs : List V) (d st c : Int), vs = [.ref p, .ref l] ∧ H p = some (wl d st c) ∧ 0 ≤ d ∧ 0 ≤ st ∧ st < big ∧ H l = some (.lst xs) ∧ l ≠ p ∧ 0 < xs.length ∧ xs.length < 1000 ∧
  ∀ x d' st' c', x ∈ xs → 0 ≤ d' → 0 ≤ st' → st' < big → Q x (upd H p (wl d' st' c'))
theorem scAny : FnScope ["_law_well_here", "_law_things"] ["_law_well_here", "_law_things"] (defScope (top 39)) := ⟨rfl, rfl, rfl, by decide +kernel, rfl, by decide +kernel, by decide +kernel⟩
section
variable {P : Program} {w : World} {K : PySem.W.Frag} {mg : Str → Option Value} {base h : Heap} {f : Addr} {fd fdD : FuncData}
theorem ok_any (F : FunD K "_law_any" "_law_any" (defArgs (top 39)) (defBody (top 39)) (defScope (top 39)) [] [] f fd) (fl : mg "len" = none) (gD : mg "_law_dip" = some (.ref (He.ga K "_law_dip")))
    (GD : FnOk P w K mg base CX0 1 (He.ga K "_law_dip") fdD ["_law_well_here", "_law_many"] spDip) (kD : PySem.W.keepIn K (.ref (He.ga K "_law_dip")) = true) (bD : L2.Binds K fdD ["_law_well_here", "_law_many"] []) :
    FnOk P w K mg base CX0 2 f fd ["_law_well_here", "_law_things"] (spAny K) := by
  refine F.ok scAny (fun vs H Q E h => ?_) (fun cdv A outer s H vs Q E hr h => ⟨_, PSs.nox (pss_one (ps_ret (pe_ix ix_list (pv 1) (pe_call GD hr rfl gD kD bD .nil pass0 (pa_cons (pv 0) (pa_cons (pe_callB call_len_seq (by rfl) fl boot_len (pa_cons (pv 1) pa_nil)) pa_nil))) (fun _ _ => rfl)))), ?_⟩)
  · obtain ⟨p, l, xs, d, st, c, rfl, _⟩ := h
    rfl
  · obtain ⟨p, l, xs, d, st, c, rfl, hp, h1, h2, h3, hl, ne, h4, h5, hq⟩ := h
    refine ⟨_, rfl, _, rfl, _, rfl, l, xs, rfl, .inl (SqL.of hl), p, xs.length, d, st, c, rfl, hp, h1, h2, h3, by omega, ?_, fun r d' st' c' r0 r1 hd hs0 hs1 => ?_⟩
    · have : (xs.length : Int).natAbs.log2 ≤ xs.length := by
        rw [Int.natAbs_natCast]
        exact Nat.log2_le_self _
      omega
    · have hr' : r.toNat < xs.length := by omega
      have e : xs[r.toNat]? = some xs[r.toNat] := List.getElem?_eq_getElem hr'
      have hl' : upd H p (wl d' st' c') l = some (.lst xs) := by rw [upd_ne ne]; exact hl
      refine ⟨l, xs, r, xs[r.toNat], rfl, rfl, SqL.of hl', ?_, hq _ d' st' c' (List.getElem_mem hr') hd hs0 hs1⟩
      have e2 := atI_nat e
      rwa [Int.toNat_of_nonneg r0] at e2
/-! ### _law_well -/
def spWell (K : PySem.W.Frag) : Sp := fun vs H Q _ => ∃ (a : Addr) (ns : List Int) (k : Nat), vs = [.ref a, .int k] ∧ SqL K H a (ns.map V.int) ∧ k < 100 ∧
  ∀ H' p d st, Same H H' → H p = none → 0 ≤ d → 0 ≤ st → st < big → H' p = some (wl d st 0) → Q (.ref p) H'
abbrev nWell : List Str := ["_law_script", "_law_spot", "_law_mixed", "_law_number", "_law_own", "_law_digits"]
theorem scWell : FnScope nWell ["_law_script", "_law_spot"] (defScope (top 37)) := ⟨rfl, rfl, rfl, by decide +kernel, rfl, by decide +kernel, by decide +kernel⟩
theorem ok_well (F : FunD K "_law_well" "_law_well" (defArgs (top 37)) (defBody (top 37)) (defScope (top 37)) [] [] f fd) (fi : mg "int" = none) (fl : mg "len" = none) (fab : mg "abs" = none) : FnOk P w K mg base CX0 1 f fd ["_law_script", "_law_spot"] (spWell K) := by
  refine F.ok scWell (fun vs H Q E h => ?_) (fun cdv A outer s H vs Q E hr h => ⟨_, PSs.nox (
    pss_cons (ps_set (i := 2) scWell.nd rfl (Or.inl rfl) (pe_op op_add pe_int (pv 1)))
    (pss_cons (ps_for PassesOwn.never rfl (pi_list (pe_slice sl_list (pv 0) po_none (po_some pe_int))) (pg_name (i := 3) scWell.nd rfl (Or.inl rfl))
      (pss_one (ps_set (i := 2) scWell.nd rfl (Or.inl rfl) (pe_op op_mod (pe_callTy call_int1 (by rfl) fi (by decide +kernel) (pa_cons (pe_op op_add (pe_op op_add (pe_op op_mul (pv 2) pe_int) (pe_op op_mul (pv 3) pe_int)) pe_int) pa_nil)) pe_int))))
    (pss_cons (ps_set (i := 4) scWell.nd rfl (Or.inl rfl) (pe_ifExp (pt_cmpR op_lt (pv 1) (pe_callB call_len_seq (by rfl) fl boot_len (pa_cons (pv 0) pa_nil)) (nomark _)) (pe_ix ix_list (pv 0) (pv 1) (fun _ _ => rfl)) (pe_op op_add (pe_op op_mul (pv 2) pe_int) (pv 1))))
    (pss_cons (ps_set (i := 5) scWell.nd rfl (Or.inl rfl) (pe_ifExp (PW.pt (pw_or (pt_cmpR op_lt (pv 4) pe_int (nomark _)) (pw_or1 (pt_cmpR op_ge (pv 4) (pe_op op_pow pe_int pe_int) (nomark _))))) (pe_callB call_abs (by rfl) fab (by decide +kernel) (pa_cons (pv 4) pa_nil)) pe_int))
    (pss_one (ps_ret (pe_lst (pa_cons (pv 5) (pa_cons (pe_op op_mod (pe_callTy call_int1 (by rfl) fi (by decide +kernel) (pa_cons (pe_op op_add (pe_op op_add (pe_op op_mul (pv 4) pe_int) (pe_op op_mul (pv 2) pe_int)) pe_int) pa_nil)) pe_int) (pa_cons pe_int pa_nil)))))))))), ?_⟩)
  · obtain ⟨a, ns, k, rfl, _⟩ := h
    rfl
  · obtain ⟨a, ns, k, rfl, ha, hk, hq⟩ := h
    refine ⟨_, rfl, 41, k, rfl, rfl, ?_⟩
    refine ⟨_, rfl, 4, rfl, a, _, rfl, ha, fun p hp => ⟨p, rfl, ⟨_, SqL.of upd_same⟩, for_list (K := K) (a := p) (xs := cutV (ns.map V.int) none (some 4))
      (fun i σ' H' => ∃ (m : Int) (v : Option V), σ' = [some (.ref a), some (.int k), some (.int m), v, none, none] ∧ H' = upd H p (.lst (cutV (ns.map V.int) none (some 4)))) ⟨41 + k, none, rfl, rfl⟩ (fun i σ' H' _ ⟨_, _, _, e⟩ => by rw [e]; exact SqL.of upd_same) ?_ ?_⟩⟩
    · rintro i x σ' H' hi ⟨m, v, rfl, rfl⟩
      obtain ⟨n, _, rfl⟩ := List.mem_map.mp (List.mem_of_mem_drop (List.mem_of_mem_take (List.mem_of_getElem? hi)))
      exact ⟨_, rfl, m, 6007, rfl, rfl, .inr ⟨by decide, by decide⟩, _, rfl, n, 19, rfl, rfl, .inr ⟨by decide, by decide⟩, _, _, rfl, rfl, _, 5, rfl, rfl, .inl ⟨_, rfl, _, 998244353, rfl, rfl, (show (0 : Int) < 998244353 by decide), _, _, rfl, rfl⟩⟩
    · rintro σ' H' ⟨m, v, rfl, rfl⟩
      have s1 : Same H (upd H p (.lst (cutV (ns.map V.int) none (some 4)))) := Ek.same_new hp
      have ha1 := s1.seq ha
      refine ⟨_, rfl, _, rfl, a, _, rfl, .inl ha1, k, _, rfl, rfl, _, rfl, ?_⟩
      refine ite2 (fun hlt => ?_) fun hge => ?_
      · have hlt := of_decide_eq_true hlt
        have hl : k < ns.length := by rw [List.length_map] at hlt; omega
        have e : (ns.map V.int)[k]? = some (.int ns[k]) := by rw [List.getElem?_map, List.getElem?_eq_getElem hl]; rfl
        refine ⟨_, rfl, _, rfl, a, _, k, _, rfl, rfl, ha1, atI_nat e, ?_⟩
        generalize ns[k] = own
        refine ⟨_, rfl, own, 0, rfl, rfl, _, rfl, ?_⟩
        refine ite2 (fun hn => ?_) fun hn => ?_
        · refine iteT ⟨_, rfl, own, rfl, ?_⟩
          have hd : 0 ≤ (if own < 0 then -own else own) := by split <;> omega
          generalize (if own < 0 then -own else own) = dg at hd
          exact ⟨_, rfl, _, rfl, own, 3301, rfl, rfl, .inr ⟨by decide, by decide⟩, _, rfl, m, 7, rfl, rfl, .inr ⟨by decide, by decide⟩, _, _, rfl, rfl, _, 271, rfl, rfl, .inl ⟨_, rfl, _, 998244353, rfl, rfl, (show (0 : Int) < 998244353 by decide),
            (show 3 ≤ sizeLine by decide), fun p2 hp2 => hq _ p2 dg _ (s1.trans (Ek.same_new hp2)) (s1.free hp2) hd (Int.emod_nonneg _ (by decide)) (Int.emod_lt_of_pos _ (by decide)) upd_same⟩⟩
        · refine ⟨_, rfl, 10, 18, rfl, rfl, ⟨by decide, by decide, by decide⟩, own, _, rfl, rfl, _, rfl, ?_⟩
          refine ite2 (fun hb => ?_) fun hb => ?_
          · refine ⟨_, rfl, own, rfl, ?_⟩
            have hd : 0 ≤ (if own < 0 then -own else own) := by split <;> omega
            generalize (if own < 0 then -own else own) = dg at hd
            exact ⟨_, rfl, _, rfl, own, 3301, rfl, rfl, .inr ⟨by decide, by decide⟩, _, rfl, m, 7, rfl, rfl, .inr ⟨by decide, by decide⟩, _, _, rfl, rfl, _, 271, rfl, rfl, .inl ⟨_, rfl, _, 998244353, rfl, rfl, (show (0 : Int) < 998244353 by decide),
              (show 3 ≤ sizeLine by decide), fun p2 hp2 => hq _ p2 dg _ (s1.trans (Ek.same_new hp2)) (s1.free hp2) hd (Int.emod_nonneg _ (by decide)) (Int.emod_lt_of_pos _ (by decide)) upd_same⟩⟩
          · exact ⟨_, rfl, _, rfl, own, 3301, rfl, rfl, .inr ⟨by decide, by decide⟩, _, rfl, m, 7, rfl, rfl, .inr ⟨by decide, by decide⟩, _, _, rfl, rfl, _, 271, rfl, rfl, .inl ⟨_, rfl, _, 998244353, rfl, rfl, (show (0 : Int) < 998244353 by decide),
              (show 3 ≤ sizeLine by decide), fun p2 hp2 => hq _ p2 0 _ (s1.trans (Ek.same_new hp2)) (s1.free hp2) (Int.le_refl 0) (Int.emod_nonneg _ (by decide)) (Int.emod_lt_of_pos _ (by decide)) upd_same⟩⟩
      · refine ⟨_, rfl, m, 53, rfl, rfl, .inr ⟨by decide, by decide⟩, _, rfl, _, k, rfl, rfl, ?_⟩
        refine ⟨_, rfl, (m * 53 + k), 0, rfl, rfl, _, rfl, ?_⟩
        refine ite2 (fun hn => ?_) fun hn => ?_
        · refine iteT ⟨_, rfl, (m * 53 + k), rfl, ?_⟩
          have hd : 0 ≤ (if (m * 53 + k) < 0 then -(m * 53 + k) else (m * 53 + k)) := by split <;> omega
          exact ⟨_, rfl, _, rfl, (m * 53 + k), 3301, rfl, rfl, .inr ⟨by decide, by decide⟩, _, rfl, m, 7, rfl, rfl, .inr ⟨by decide, by decide⟩, _, _, rfl, rfl, _, 271, rfl, rfl, .inl ⟨_, rfl, _, 998244353, rfl, rfl, (show (0 : Int) < 998244353 by decide),
            (show 3 ≤ sizeLine by decide), fun p2 hp2 => hq _ p2 _ _ (s1.trans (Ek.same_new hp2)) (s1.free hp2) hd (Int.emod_nonneg _ (by decide)) (Int.emod_lt_of_pos _ (by decide)) upd_same⟩⟩
        · refine ⟨_, rfl, 10, 18, rfl, rfl, ⟨by decide, by decide, by decide⟩, (m * 53 + k), _, rfl, rfl, _, rfl, ?_⟩
          refine ite2 (fun hb => ?_) fun hb => ?_
          · refine ⟨_, rfl, (m * 53 + k), rfl, ?_⟩
            have hd : 0 ≤ (if (m * 53 + k) < 0 then -(m * 53 + k) else (m * 53 + k)) := by split <;> omega
            exact ⟨_, rfl, _, rfl, (m * 53 + k), 3301, rfl, rfl, .inr ⟨by decide, by decide⟩, _, rfl, m, 7, rfl, rfl, .inr ⟨by decide, by decide⟩, _, _, rfl, rfl, _, 271, rfl, rfl, .inl ⟨_, rfl, _, 998244353, rfl, rfl, (show (0 : Int) < 998244353 by decide),
              (show 3 ≤ sizeLine by decide), fun p2 hp2 => hq _ p2 _ _ (s1.trans (Ek.same_new hp2)) (s1.free hp2) hd (Int.emod_nonneg _ (by decide)) (Int.emod_lt_of_pos _ (by decide)) upd_same⟩⟩
          · exact ⟨_, rfl, _, rfl, (m * 53 + k), 3301, rfl, rfl, .inr ⟨by decide, by decide⟩, _, rfl, m, 7, rfl, rfl, .inr ⟨by decide, by decide⟩, _, _, rfl, rfl, _, 271, rfl, rfl, .inl ⟨_, rfl, _, 998244353, rfl, rfl, (show (0 : Int) < 998244353 by decide),
              (show 3 ≤ sizeLine by decide), fun p2 hp2 => hq _ p2 0 _ (s1.trans (Ek.same_new hp2)) (s1.free hp2) (Int.le_refl 0) (Int.emod_nonneg _ (by decide)) (Int.emod_lt_of_pos _ (by decide)) upd_same⟩⟩
end
end E01

set_option Elab.async false
set_option linter.all false
set_option maxRecDepth 100000
set_option maxHeartbeats 4000000
namespace Ek
open PySem PySem.Spec PyProof.Rows L2
theorem strOk_of (s : String) : PyData.strOk (Str.ofString s) = true := by
  rw [Str.ofString_eq_toList]
  unfold PyData.strOk
  rw [← Array.all_toList, List.all_eq_true]
  intro n hn
  obtain ⟨c, _, rfl⟩ := List.mem_map.mp hn
  refine decide_eq_true ?_
  have h := c.valid
  show c.val.toNat < 1114112
  rcases h with h | h
  · exact Nat.lt_trans h (by decide)
  · exact h.2
theorem strOk_cat {x y : Str} (hx : PyData.strOk x = true) (hy : PyData.strOk y = true) : PyData.strOk (x ++ y) = true := by
  show ((x.cps ++ y.cps).all _) = true
  rw [Array.all_append]
  exact Bool.and_eq_true_iff.mpr ⟨hx, hy⟩
end Ek
namespace E01
open PySem PySem.Spec PyProof.Rows L2
theorem log_small {n : Int} (h : n.natAbs ≤ 10 ^ 40) : n.natAbs.log2 < 1920 := by
  by_cases z : n.natAbs = 0
  · rw [z]; decide
  · exact (Nat.log2_lt z).mpr (Nat.lt_of_le_of_lt h (by decide +kernel))
/-- the text of the tuple -/
theorem tup_shown {n : Int} (h : n.natAbs.log2 < 1920) : (PyData.tuple [.int n, .str "x"]).shown.length ≤ sizeLine ∧ PyData.strOk (PyData.tuple [.int n, .str "x"]).shown = true := by
  have e : (PyData.tuple [.int n, .str "x"]).shown = (("(" : Str) ++ ((Str.ofString (toString n)) ++ (", " : Str) ++ reprText "x") ++ (")" : Str)) := rfl
  rw [e]
  refine ⟨?_, Ek.strOk_cat (Ek.strOk_cat (Ek.strOk_of _) (Ek.strOk_cat (Ek.strOk_cat (Ek.strOk_of _) (Ek.strOk_of _)) (by decide +kernel))) (Ek.strOk_of _)⟩
  have hl := int_text_len_1921 h
  rw [strLen_append, strLen_append, strLen_append, strLen_append, sizeLine_eq]
  have h1 : ("(" : Str).length = 1 := rfl
  have h2 : (", " : Str).length = 2 := rfl
  have h3 : (")" : Str).length = 1 := rfl
  have h4 : (reprText "x").length ≤ 10 := by decide +kernel
  omega
theorem bd_all : (List.range 89).all (fun n => decide ((reprText (("b" : Str) ++ Str.ofString (toString (n : Int)))).length ≤ sizeLine) && PyData.strOk (reprText (("b" : Str) ++ Str.ofString (toString (n : Int))))) = true := by decide +kernel
theorem bd {d : Int} (h0 : 0 ≤ d) (h1 : d < 89) : (reprText (("b" : Str) ++ Str.ofString (toString d))).length ≤ sizeLine ∧ PyData.strOk (reprText (("b" : Str) ++ Str.ofString (toString d))) = true := by
  have h := List.all_eq_true.mp bd_all d.toNat (List.mem_range.mpr (by omega))
  rw [Int.toNat_of_nonneg h0] at h
  obtain ⟨a, b⟩ := Bool.and_eq_true_iff.mp h
  exact ⟨of_decide_eq_true a, b⟩
/-- the ten things -/
def ten (n d : Int) (pt pl pd : Addr) : List V := [.int n, .str (("b" : Str) ++ Str.ofString (toString d)), .non, .bl true, .bl false, .ref pt, .ref pl, .ref pd, .int 0, .int 1]
theorem ten_ok {K : PySem.W.Frag} {H : Hp} {n d : Int} {pt pl pd : Addr} (hn : n.natAbs ≤ 10 ^ 40) (d0 : 0 ≤ d) (d1 : d < 89) (ht : H pt = some (.tup [.int n, .str "x"])) (hl : H pl = some (.lst [.int 3])) (hd : H pd = some (.dK [])) :
    ∀ x ∈ ten n d pt pl pd, ∃ z, Ek.Shown K H x z ∧ PyData.strOk z = true := by
  have hb := bd d0 d1
  have hlog := log_small hn
  have ts := tup_shown hlog
  refine Ek.all_cons ⟨_, ⟨hlog, rfl⟩, Ek.strOk_of _⟩ (Ek.all_cons ⟨_, ⟨hb.1, rfl⟩, hb.2⟩ (Ek.all_cons ⟨_, rfl, Ek.strOk_of _⟩ (Ek.all_cons ⟨_, rfl, Ek.strOk_of _⟩ (Ek.all_cons ⟨_, rfl, Ek.strOk_of _⟩
    (Ek.all_cons ⟨_, .inl ⟨.tuple [.int n, .str "x"], .tup (SqT.of ht) (.cons (.int _) (.cons (.str _) .nil)), ?_, rfl, (show 1 ≤ 20 by decide), ts.1, rfl⟩, ts.2⟩
    (Ek.all_cons ⟨_, .inl ⟨.list [.int 3], .lst (SqL.of hl) (.cons (.int _) .nil), rfl, rfl, (show 1 ≤ 20 by decide), by decide +kernel, rfl⟩, by decide +kernel⟩
    (Ek.all_cons ⟨_, .inr ⟨hd, rfl⟩, by decide +kernel⟩ (Ek.all_cons ⟨_, ⟨by decide, rfl⟩, Ek.strOk_of _⟩ (Ek.all_cons ⟨_, ⟨by decide, rfl⟩, Ek.strOk_of _⟩ Ek.all_nil)))))))))
  show (decide (n.natAbs.log2 < 1920) && (true && true)) = true
  rw [decide_eq_true hlog]; rfl
end E01

set_option Elab.async false
set_option linter.all false
set_option maxRecDepth 100000
set_option maxHeartbeats 4000000
namespace E01
open PySem PySem.Spec PyProof.Rows L2
def spLaw (K : PySem.W.Frag) : Sp := fun vs H Q _ => ∃ (a : Addr) (ns : List Int), vs = [.ref a] ∧ SqL K H a (ns.map V.int) ∧ ∀ H', Q (.bl true) H'
abbrev nLaw : List Str := ["_law_script", "_law_told", "_law_spot", "_law_well_here", "_law_number", "_law_things", "_law_thing"]
theorem scLaw : FnScope nLaw ["_law_script"] (defScope (top 44)) := ⟨rfl, rfl, rfl, by decide +kernel, rfl, by decide +kernel, by decide +kernel⟩
section
variable {P : Program} {w : World} {K : PySem.W.Frag} {mg : Str → Option Value} {base h : Heap} {f : Addr} {fd fdW fdD fdA fdT fdO : FuncData}
theorem ok_law (F : FunD K "law" "law" (defArgs (top 44)) (defBody (top 44)) (defScope (top 44)) [] [] f fd) (c : He.SaysD fa fn K) (X : K.In h) (G : h.Ns mainGlobals mg)
    (GW : FnOk P w K mg base CX0 1 (He.ga K "_law_well") fdW ["_law_script", "_law_spot"] (spWell K)) (kW : PySem.W.keepIn K (.ref (He.ga K "_law_well")) = true) (bW : L2.Binds K fdW ["_law_script", "_law_spot"] [])
    (GD : FnOk P w K mg base CX0 1 (He.ga K "_law_dip") fdD ["_law_well_here", "_law_many"] spDip) (kD : PySem.W.keepIn K (.ref (He.ga K "_law_dip")) = true) (bD : L2.Binds K fdD ["_law_well_here", "_law_many"] [])
    (GA : FnOk P w K mg base CX0 2 (He.ga K "_law_any") fdA ["_law_well_here", "_law_things"] (spAny K)) (kA : PySem.W.keepIn K (.ref (He.ga K "_law_any")) = true) (bA : L2.Binds K fdA ["_law_well_here", "_law_things"] [])
    (GT : Ek.FnG P w K mg base 4 (He.ga K "_law_texts_right") fdT ["_law_thing"] (spTx K)) (kT : PySem.W.keepIn K (.ref (He.ga K "_law_texts_right")) = true) (bT : L2.Binds K fdT ["_law_thing"] [])
    (GO : Ek.FnG P w K mg base 4 (He.ga K "_law_others_right") fdO ["_law_thing", "_law_other"] (spOx K)) (kO : PySem.W.keepIn K (.ref (He.ga K "_law_others_right")) = true) (bO : L2.Binds K fdO ["_law_thing", "_law_other"] []) :
    Ek.FnG P w K mg base 6 f fd ["_law_script"] (spLaw K) := by
  obtain ⟨t1, c1⟩ := c_MOST_PLACES c X G
  obtain ⟨t2, c2⟩ := c_MOST_STATEMENTS c X G
  obtain ⟨t3, c3⟩ := c_MOST_DRAWS c X G
  obtain ⟨t4, c4⟩ := c_MOST_NESTED c X G
  obtain ⟨t5, c5⟩ := c_MOST_ON_A_WAY c X G
  obtain ⟨t6, c6⟩ := c_MOST_LENGTH c X G
  obtain ⟨t7, c7⟩ := c_SETTLED c X G
  have fl := f_len c X G
  have frg := f_range c X G
  have fmx := f_max c X G
  have fmn := f_min c X G
  have fst := f_str c X G
  have gW := g_law_well c X G
  have gD := g_law_dip c X G
  have gA := g_law_any c X G
  have gT := g_law_texts_right c X G
  have gO := g_law_others_right c X G
  refine Ek.fnG F scLaw (fun vs H Q E h => ?_) (fun cdv A outer s H vs Q E hr hgd h => ?_)
  · obtain ⟨a, ns, rfl, _⟩ := h
    rfl
  have hr4 : Room 4 _ := hr.mono (by decide)
  have hr2 : Room 2 _ := hr.mono (by decide)
  have hr1 : Room 1 _ := hr.mono (by decide)
  refine' ⟨_, pss_cons (ps_set (i := 1) scLaw.nd rfl (Or.inl rfl) ?e1) (pss_cons (ps_if ?t2 (pss_one (ps_ret pe_bl)) pss_nil)
    (pss_cons (ps_for PassesOwn.never rfl (pi_range1 (by rfl) frg (pa_cons ?e3 pa_nil)) (pg_name (i := 2) scLaw.nd rfl (Or.inl rfl))
      (pss_cons (ps_set (i := 3) scLaw.nd rfl (Or.inl rfl) ?e4) (pss_cons (ps_set (i := 4) scLaw.nd rfl (Or.inl rfl) ?e5) (pss_cons (ps_set (i := 5) scLaw.nd rfl (Or.inl rfl) ?e6)
        (pss_one (ps_for PassesOwn.never rfl (pi_list (pv 5)) (pg_name (i := 6) scLaw.nd rfl (Or.inl rfl)) (pss_one (ps_if ?t7 (pss_one (ps_ret pe_bl)) pss_nil))))))))
      (pss_one (ps_ret pe_bl)))), ?rd⟩
  case e1 => exact pe_lst (pa_cons (pe_glob (v := .int 3) rfl c1 ⟨_, rfl⟩) (pa_cons (pe_glob (v := .int 24) rfl c2 ⟨_, rfl⟩) (pa_cons (pe_glob (v := .int 6) rfl c3 ⟨_, rfl⟩) (pa_cons (pe_glob (v := .int 4) rfl c4 ⟨_, rfl⟩)
    (pa_cons (pe_glob (v := .int 3) rfl c5 ⟨_, rfl⟩) (pa_cons (pe_glob (v := .int 60) rfl c6 ⟨_, rfl⟩) (pa_cons (pe_glob (v := .int 19) rfl c7 ⟨_, rfl⟩) pa_nil)))))))
  case t2 => exact pt_cmpR (by exact op_neD hr1.units) (pv 1) (pe_lst (pa_cons pe_int (pa_cons pe_int (pa_cons pe_int (pa_cons pe_int (pa_cons pe_int (pa_cons pe_int (pa_cons pe_int pa_nil)))))))) (nomark _)
  case e3 => exact pe_callB (call_max2 rfl) (by rfl) fmx (by decide +kernel) (pa_cons pe_int (pa_cons (pe_callB (call_min2 rfl) (by rfl) fmn (by decide +kernel) (pa_cons (pe_callB call_len_seq (by rfl) fl boot_len (pa_cons (pv 0) pa_nil)) (pa_cons pe_int pa_nil))) pa_nil))
  case e4 => exact pe_call GW hr1 rfl gW kW bW .nil pass0 (pa_cons (pv 0) (pa_cons (pv 2) pa_nil))
  case e5 => exact pe_op op_mul (pe_call GD hr1 rfl gD kD bD .nil pass0 (pa_cons (pv 3) (pa_cons (pe_op op_pow pe_int pe_int) pa_nil))) (pe_call GA hr2 rfl gA kA bA .nil pass0 (pa_cons (pv 3) (pa_cons (pe_lst (pa_cons pe_int (pa_cons (pe_un un_neg pe_int) pa_nil))) pa_nil)))
  case e6 => exact pe_lst (pa_cons (pv 4) (pa_cons (pe_op op_add_str pe_str (pe_callTy call_str_int (by rfl) fst (by decide +kernel) (pa_cons (pe_call GD hr1 rfl gD kD bD .nil pass0 (pa_cons (pv 3) (pa_cons pe_int pa_nil))) pa_nil))) (pa_cons pe_non (pa_cons pe_bl (pa_cons pe_bl
    (pa_cons (pe_tup (pa_cons (pv 4) (pa_cons pe_str pa_nil))) (pa_cons (pe_lst (pa_cons pe_int pa_nil)) (pa_cons pe_dnewK (pa_cons pe_int (pa_cons pe_int pa_nil))))))))))
  case t7 => exact PW.pt (pw_or (pt_not (pt_val (Ek.pe_callG GT hr4 hgd rfl gT kT bT (pa_cons (pv 6) pa_nil)))) (pw_or1 (pt_not (pt_val (Ek.pe_callG GO hr4 hgd rfl gO kO bO (pa_cons (pv 6) (pa_cons (pe_call GA hr2 rfl gA kA bA .nil pass0 (pa_cons (pv 3) (pa_cons (pv 5) pa_nil))) pa_nil)))))))
  obtain ⟨a, ns, rfl, ha, hq⟩ := h
  -- the constants
  refine ⟨(show 7 ≤ sizeLine by decide), fun p1 h1 => ?_⟩
  have s1 : Same H (upd H p1 (.lst [.int 3, .int 24, .int 6, .int 4, .int 3, .int 60, .int 19])) := Ek.same_new h1
  refine ⟨_, rfl, (show 7 ≤ sizeLine by decide), fun p2 h2 => ?_⟩
  have s2 : Same _ (upd (upd H p1 (.lst [.int 3, .int 24, .int 6, .int 4, .int 3, .int 60, .int 19])) p2 (.lst [.int 3, .int 24, .int 6, .int 4, .int 3, .int 60, .int 19])) := Ek.same_new h2
  refine ⟨.list [.int 3, .int 24, .int 6, .int 4, .int 3, .int 60, .int 19], .list [.int 3, .int 24, .int 6, .int 4, .int 3, .int 60, .int 19], .lst (SqL.of (s2 _ _ upd_same)) (.cons (.int _) (.cons (.int _) (.cons (.int _) (.cons (.int _) (.cons (.int _) (.cons (.int _) (.cons (.int _) .nil))))))),
    .lst (SqL.of upd_same) (.cons (.int _) (.cons (.int _) (.cons (.int _) (.cons (.int _) (.cons (.int _) (.cons (.int _) (.cons (.int _) .nil))))))), rfl, rfl, false, by decide +kernel, iteF ?_⟩
  have s3 := s1.trans s2
  generalize upd (upd H p1 (HO.lst [V.int 3, V.int 24, V.int 6, V.int 4, V.int 3, V.int 60, V.int 19])) p2 (HO.lst [V.int 3, V.int 24, V.int 6, V.int 4, V.int 3, V.int 60, V.int 19]) = H3 at s3
  have ha3 := s3.seq ha
  -- the spots
  refine ⟨_, rfl, a, _, rfl, .inl ha3, _, 3, rfl, 2, _, rfl, _, rfl, ?_⟩
  have lim : (if (if (3 : Int) < ((ns.map V.int).length : Int) then (3 : Int) else ((ns.map V.int).length : Int)) > 2 then (if (3 : Int) < ((ns.map V.int).length : Int) then (3 : Int) else ((ns.map V.int).length : Int)) else 2) ≤ 3 ∧
      2 ≤ (if (if (3 : Int) < ((ns.map V.int).length : Int) then (3 : Int) else ((ns.map V.int).length : Int)) > 2 then (if (3 : Int) < ((ns.map V.int).length : Int) then (3 : Int) else ((ns.map V.int).length : Int)) else 2) := by
    constructor <;> split <;> (try split) <;> omega
  generalize (if (if (3 : Int) < ((ns.map V.int).length : Int) then (3 : Int) else ((ns.map V.int).length : Int)) > 2 then (if (3 : Int) < ((ns.map V.int).length : Int) then (3 : Int) else ((ns.map V.int).length : Int)) else 2) = top3 at lim
  refine ⟨by omega, by omega, for_range (lo := 0) (n := top3.toNat) (fun i σ' H' => ∃ v2 v3 v4 v5 v6 : Option V, σ' = [some (.ref a), some (.ref p1), v2, v3, v4, v5, v6] ∧ Same H3 H') ⟨none, none, none, none, none, rfl, Same.refl _⟩ ?_ ?_⟩
  · rintro i σ' H' hi ⟨v2, v3, v4, v5, v6, rfl, s4⟩
    have hi3 : i < 3 := by omega
    refine ⟨_, rfl, _, rfl, a, ns, i, by simp, s4.seq ha3, by omega, fun H5 p d st s5 fp d0 st0 st1 hp => ?_⟩
    -- number
    refine ⟨_, rfl, 10, 40, rfl, rfl, ⟨by decide, by decide, by decide⟩, p, _, d, st, 0, rfl, hp, d0, st0, st1, (show (0 : Int) < 10 ^ 40 by decide), (show ((10 : Int) ^ 40).natAbs.log2 < 9000 by decide +kernel), fun r d' st' c' r0 r1 d0' st0' st1' => ?_⟩
    refine ⟨_, rfl, 1, rfl, (show 2 ≤ sizeLine by decide), fun l hl => ?_⟩
    have lp : l ≠ p := fun e => by rw [e, upd_same] at hl; cases hl
    rw [upd_ne lp] at hl
    refine ⟨p, l, _, d', st', c', rfl, by rw [upd_ne (Ne.symm lp), upd_same], d0', st0', st1', upd_same, lp, (show 0 < 2 by decide), (show 2 < 1000 by decide), fun x d2 st2 c2 hx d02 st02 st12 => ?_⟩
    obtain ⟨j, hj, rfl⟩ : ∃ j : Int, (j = 1 ∨ j = -1) ∧ x = .int j := by
      rcases List.mem_cons.mp hx with e | hx
      · exact ⟨1, .inl rfl, e⟩
      · exact ⟨-1, .inr rfl, List.mem_singleton.mp hx⟩
    refine ⟨r, j, rfl, rfl, .inr ⟨by omega, by omega⟩, ?_⟩
    have hN : (r * j).natAbs ≤ 10 ^ 40 := by
      have r1' : r < 10 ^ 40 := r1
      rcases hj with e | e <;> subst e <;> omega
    have hp6 : upd (upd (upd H5 p (wl d' st' c')) l (HO.lst [V.int 1, V.int (-1)])) p (wl d2 st2 c2) p = some (wl d2 st2 c2) := upd_same
    have s6 : Same H' (upd (upd (upd H5 p (wl d' st' c')) l (HO.lst [V.int 1, V.int (-1)])) p (wl d2 st2 c2)) := fun b o e => by
      rw [upd_ne (ne_of_none e fp), upd_ne (ne_of_none (s5 b o e) hl), upd_ne (ne_of_none e fp)]
      exact s5 b o e
    generalize upd (upd (upd H5 p (wl d' st' c')) l (HO.lst [V.int 1, V.int (-1)])) p (wl d2 st2 c2) = H6 at hp6 s6
    -- things
    refine ⟨_, rfl, _, rfl, p, 89, d2, st2, c2, rfl, hp6, d02, st02, st12, by decide, by decide +kernel, fun b d3 st3 c3 b0 b1 d03 st03 st13 => ?_⟩
    have hb10 : (Str.ofString (toString b)).length ≤ 10 := toString_length_le b0 (by decide) (by omega)
    refine ⟨b, rfl, log_small (by omega), "b", _, rfl, rfl, ?_, ?_⟩
    · rw [sizeLine_eq]
      have h1 : ("b" : Str).length = 1 := rfl
      omega
    refine ⟨_, rfl, (show 2 ≤ sizeLine by decide), fun pt hpt => ⟨(show 1 ≤ sizeLine by decide), fun pl hpl pd hpd => ⟨(show 10 ≤ sizeLine by decide), fun pz hpz => ?_⟩⟩⟩
    have q0 : upd H6 p (wl d3 st3 c3) p = some (wl d3 st3 c3) := upd_same
    have e1 := Ek.same_new (o := .tup [.int (r * j), .str "x"]) hpt
    have e2 := Ek.same_new (o := .lst [.int 3]) hpl
    have e3 := Ek.same_new (o := .dK []) hpd
    have e4 := Ek.same_new (o := .lst (ten (r * j) b pt pl pd)) hpz
    have n1 : pt ≠ p := Ne.symm (ne_of_none q0 hpt)
    have n2 : pl ≠ p := Ne.symm (ne_of_none (e1 _ _ q0) hpl)
    have n3 : pd ≠ p := Ne.symm (ne_of_none (e2 _ _ (e1 _ _ q0)) hpd)
    have n4 : pz ≠ p := Ne.symm (ne_of_none (e3 _ _ (e2 _ _ (e1 _ _ q0))) hpz)
    have ht7 := e4 _ _ (e3 _ _ (e2 _ _ (upd_same (H := upd H6 p (wl d3 st3 c3)) (a := pt) (o := .tup [.int (r * j), .str "x"]))))
    have hl7 := e4 _ _ (e3 _ _ (upd_same (H := upd (upd H6 p (wl d3 st3 c3)) pt (.tup [.int (r * j), .str "x"])) (a := pl) (o := .lst [.int 3])))
    have hd7 := e4 _ _ (upd_same (H := upd (upd (upd H6 p (wl d3 st3 c3)) pt (.tup [.int (r * j), .str "x"])) pl (.lst [.int 3])) (a := pd) (o := .dK []))
    have hz7 := upd_same (H := upd (upd (upd (upd H6 p (wl d3 st3 c3)) pt (.tup [.int (r * j), .str "x"])) pl (.lst [.int 3])) pd (.dK [])) (a := pz) (o := .lst (ten (r * j) b pt pl pd))
    have hp7 := e4 _ _ (e3 _ _ (e2 _ _ (e1 _ _ q0)))
    have s7 : Same H' (upd (upd (upd (upd (upd H6 p (wl d3 st3 c3)) pt (.tup [.int (r * j), .str "x"])) pl (.lst [.int 3])) pd (.dK [])) pz (.lst (ten (r * j) b pt pl pd))) := fun z o e =>
      e4 _ _ (e3 _ _ (e2 _ _ (e1 _ _ (by rw [upd_ne (ne_of_none e fp)]; exact s6 _ _ e))))
    obtain ⟨H7, e7⟩ : ∃ H7 : Hp, H7 = upd (upd (upd (upd (upd H6 p (wl d3 st3 c3)) pt (.tup [.int (r * j), .str "x"])) pl (.lst [.int 3])) pd (.dK [])) pz (.lst (ten (r * j) b pt pl pd)) := ⟨_, rfl⟩
    have kz7 := hz7
    have kp7 := hp7
    rw [← e7] at ht7 hl7 hd7 hz7 s7
    refine ⟨_, rfl, pz, rfl, ⟨ten (r * j) b pt pl pd, SqL.of ?_⟩, for_list (K := K) (a := pz) (xs := ten (r * j) b pt pl pd)
      (fun i2 σ2 H2 => ∃ (v : Option V) (dd ss cc : Int), σ2 = [some (.ref a), some (.ref p1), some (.int (0 + i)), some (.ref p), some (.int (r * j)), some (.ref pz), v] ∧ H2 p = some (wl dd ss cc) ∧ 0 ≤ dd ∧ 0 ≤ ss ∧ ss < big ∧ ∀ z o, z ≠ p → H7 z = some o → H2 z = some o)
      ⟨v6, d3, st3, c3, rfl, ?_, d03, st03, st13, ?_⟩ (fun i2 σ2 H2 _ ⟨_, _, _, _, _, _, _, _, _, k⟩ => SqL.of (k _ _ n4 hz7)) ?_ ?_⟩
    · exact kz7
    · exact kp7
    · exact fun z o _ e => by rw [e7] at e; exact e
    · rintro i2 x σ2 H2 hx ⟨v, dd, ss, cc, rfl, hp2, dd0, ss0, ss1, k2⟩
      have good := fun {H : Hp} (k : ∀ z o, z ≠ p → H7 z = some o → H z = some o) => ten_ok (K := K) hN b0 b1 (k _ _ n1 ht7) (k _ _ n2 hl7) (k _ _ n3 hd7)
      have mx := List.mem_of_getElem? hx
      obtain ⟨z, hz, oz⟩ := good k2 x mx
      refine ⟨_, rfl, x, z, rfl, hz, fun H8 s8 => ⟨true, rfl, iteF ?_⟩⟩
      refine ⟨_, rfl, _, rfl, _, rfl, p, pz, _, dd, ss, cc, rfl, s8 _ _ hp2, dd0, ss0, ss1, s8 _ _ (k2 _ _ n4 hz7), n4, (show 0 < 10 by decide), (show 10 < 1000 by decide), fun y dd' ss' cc' my dd0' ss0' ss1' => ?_⟩
      have k9 : ∀ z o, z ≠ p → H7 z = some o → upd H8 p (wl dd' ss' cc') z = some o := fun z o ne e => by rw [upd_ne ne]; exact s8 _ _ (k2 z o ne e)
      obtain ⟨z1, hz1, oz1⟩ := good k9 x mx
      obtain ⟨z2, hz2, oz2⟩ := good k9 y my
      refine ⟨x, y, z1, z2, rfl, hz1, hz2, oz1, oz2, fun H9 s9 => ⟨true, rfl, iteF ?_⟩⟩
      exact ⟨some x, dd', ss', cc', rfl, s9 _ _ upd_same, dd0', ss0', ss1', fun z o ne e => s9 _ _ (k9 z o ne e)⟩
    · rintro σ2 H2 ⟨v, dd, ss, cc, rfl, hp2, dd0, ss0, ss1, k2⟩
      exact ⟨_, _, _, _, _, rfl, s4.trans fun z o e => k2 z o (ne_of_none e fp) (s7 z o e)⟩
  · rintro σ' H' ⟨v2, v3, v4, v5, v6, rfl, s4⟩
    exact hq _
end
end E01

set_option Elab.async false
set_option linter.all false
set_option maxRecDepth 100000
set_option maxHeartbeats 4000000
namespace Ek
open PySem PySem.Spec PyProof.Rows L2
/-- the law's call, behind the top -/
theorem law_go {P : Program} {w : World} {K : PySem.W.Frag} {mg mb : Str → Option Value} {k : Nat} {fa a : Addr} {fd : FuncData} {x : Str} {sp : Sp} {s : Shared} {vs : List Value} {ns : List Int} (KX : K.In s.heap) (hns : s.heap.Ns mainGlobals mg)
    (hb : s.heap.Ns builtinsNs mb) (hbb : ∀ x : Str, x ≠ "__name__" → mb x = bootBuiltins x) (hlim : s.heap.NoLimit) (hg : s.gens = #[]) (ha : s.heap.get? a = some { cls := .type "list", data := .seq vs.toArray }) (hi : IntsAre vs ns) (hl : ns.length ≤ sizeLine) (hr : Room k callerA)
    (F : ∀ base : Heap, K.In base → base.Ns mainGlobals mg → FnG P w K mg base k fa fd [x] sp) (hbind : ∀ (s : Shared) (u : Value), BindsTo s fd ⟨[u], []⟩ [(x, u)])
    (hsp : ∀ H : Hp, Only H → SqL K H a (ns.map V.int) → sp [.ref a] H (fun v _ => v = .bl true) E0) :
    codeAny (model P w) callerA (.call (.ref fa) ⟨[.ref a], []⟩) (fun r s' => r = .ok (.ret (.bool true)) ∧ OldK s.heap s'.heap ∧ s'.os = s.os ∧ AllBare s'.gens) s := by
  have rv := vals_ints hi
  have core : ∀ H : Hp, Only H → SqL K H a (ns.map V.int) → HOk P w H s.heap → (∀ b, H b ≠ none → b = a) → (H a ≠ none → K.lookup a = none) →
      codeAny (model P w) callerA (.call (.ref fa) ⟨[.ref a], []⟩) (fun r s' => r = .ok (.ret (.bool true)) ∧ OldK s.heap s'.heap ∧ s'.os = s.os ∧ AllBare s'.gens) s := by
    intro H only sq hok tracked notK
    have at_a : ∀ {b : Addr} {u : HO}, H b = some u → b = a := fun {b u} q => tracked b (by rw [q]; simp)
    have keepB : ∀ {b : Addr} {o : Obj}, s.heap.get? b = some o → H b = none → (hidT s.heap H).get? b = some o := fun e n => hidT_get e n
    have nsB : ∀ {b : Addr} {m : Str → Option Value}, s.heap.Ns b m → (hidT s.heap H).Ns b m := fun {b m} ⟨o, es, ep, e, dt, r⟩ => by
      refine ⟨o, es, ep, keepB e ?_, dt, r⟩
      cases q : H b with
      | none => rfl
      | some u =>
        have z := at_a q
        subst z
        rw [ha] at e
        cases e
        cases dt
    have KB : K.In (hidT s.heap H) := fun b o e => keepB (KX b o e) (by
      cases q : H b with
      | none => rfl
      | some u =>
        have z := at_a q
        subst z
        rw [notK (by rw [q]; simp)] at e
        cases e)
    have md : Mod K mg (hidT s.heap H) := ⟨KB, nsB hns, ⟨mb, nsB hb, hbb⟩, hlim.elim fun mc z => ⟨mc, nsB z.1, z.2⟩⟩
    have env : Env0 P w K mg (hidT s.heap H) callerA [] s H := ⟨rfl, md, fun b o e => of_hidT e, Nat.le_of_eq (hidT_size _ _), trivial, fun b hb => absurd (show b ∈ ([] : List Addr) from hb) (by simp), hok, .of_eq hg⟩
    refine codeAny_mono ((F _ KB (nsB hns)).go (us := [.ref a]) (vs := [.ref a]) hr rfl env (hbind s (.ref a)) (.cons rfl .nil) (hsp H only sq)) fun r s' hh => ?_
    cases r with
    | error e => exact hh.elim
    | ok fl =>
      cases fl with
      | ret u =>
        obtain ⟨v, H', os, bare, un, hok', r', q⟩ := hh
        cases (show v = .bl true from q)
        cases (show u = Value.bool true from r')
        refine ⟨rfl, OldK.of_keep fun b o e => ?_, os, bare⟩
        rcases only b with z | ⟨ob, xs, z⟩
        · exact un.keep b o e z (fun y => absurd (show b ∈ ([] : List Addr) from y) (by simp)) (by simp)
        · have e1 := (hok b _ z).1
          have e2 := (hok' b _ (un.frzs b ob _ z)).1
          rw [e] at e1
          cases e1
          exact e2
      | next => exact hh.elim
      | brk => exact hh.elim
      | cont => exact hh.elim
  cases hk : K.lookup a with
  | some o =>
    have e := KX a o hk
    rw [ha] at e
    cases e
    exact core (fun _ => none) (fun _ => .inl rfl) (.inr ⟨_, vs.toArray, _, hk, rfl, rfl, rfl, by rw [List.size_toArray, hi.length]; exact hl, by simpa using rv⟩) (fun b u z => by cases (show (none : Option HO) = some u from z)) (fun b z => absurd rfl z) fun z => absurd rfl z
  | none =>
    have one : ∀ b, (fun b => if b = a then some (HO.frz { cls := .type "list", data := .seq vs.toArray } (.lst (ns.map V.int))) else none) b = if b = a then some (HO.frz { cls := .type "list", data := .seq vs.toArray } (.lst (ns.map V.int))) else none := fun _ => rfl
    refine core (fun b => if b = a then some (.frz { cls := .type "list", data := .seq vs.toArray } (.lst (ns.map V.int))) else none) (fun b => ?_) (.inl (.inr ⟨{ cls := .type "list", data := .seq vs.toArray }, if_pos rfl⟩)) (fun b u z => ?_) (fun b z => ?_) fun _ => hk
    · rcases Decidable.em (b = a) with e | e
      · exact .inr ⟨_, _, if_pos e⟩
      · exact .inl (if_neg e)
    · rcases Decidable.em (b = a) with e | e
      · have z' := (if_pos e).symm.trans z
        cases z'
        subst e
        exact ⟨ha, by rw [List.length_map]; exact hl, vs, _, rv, ha⟩
      · cases (if_neg e).symm.trans z
    · exact Decidable.byContradiction fun e => z (if_neg e)
theorem walk_go {l : PySem.W.OpenLaw} {n k : Nat} {q : Program} {loose : List Str} {XP : (Str → Option Value) → Heap → Prop} {YP : World → Heap → Prop} {d : DefRec} {x : Str} (hn : l.most = some n) (hn2 : n ≤ sizeLine) (hdf : d.params.defaults = []) (hr : Room k callerA)
    (F : ∀ (w : World) (mg : Str → Option Value) (fa : Addr) (h : Heap), YP w h → h.Ns mainGlobals mg → mg d.name = some (.ref fa) → ∃ (K : PySem.W.Frag) (fd : FuncData) (sp : Sp), K.In h ∧ (∀ (s : Shared) (u : Value), BindsTo s fd ⟨[u], []⟩ [(x, u)]) ∧
        (∀ (H : Hp) (a : Addr) (ns : List Int), ns.length ≤ n → Only H → SqL K H a (ns.map V.int) → sp [.ref a] H (fun v _ => v = .bl true) E0) ∧ ∀ base : Heap, K.In base → base.Ns mainGlobals mg → FnG l.prog w K mg base k fa fd [x] sp) :
    PySem.W.WalkO q loose XP YP l.row.toRowW d [] (fun f vs => PySem.call f vs) := by
  refine Att.attach_call hn hdf fun w s₀ s₁ mg mb fa o pm cd doc a vs ns G Y ho hd hcd hmg hobj hints hlen hg => ?_
  obtain ⟨K, fd, sp, KX, hb, hsp, hF⟩ := F w mg fa _ Y G.T.g hmg
  exact law_go KX G.T.g G.T.b G.T.builtins G.T.nolimit hg hobj hints (Nat.le_trans hlen hn2) hr hF hb fun H hO hS => hsp H a ns hlen hO hS
end Ek
namespace E01
open PySem PySem.Spec PyProof.Rows L2
theorem facts {P : Program} {w : World} {K : PySem.W.Frag} {h : Heap} {mg : Str → Option Value} {f : Addr} (X : K.In h) (G : h.Ns mainGlobals mg) (hfa : mg ("law" : Str) = some (.ref f)) (c : He.SaysD fa fn K) (m : ex K = true) :
    ∃ fd : FuncData, (∀ (s : Shared) (v : Value), BindsTo s fd ⟨[v], []⟩ [("_law_script", v)]) ∧ ∀ base : Heap, K.In base → base.Ns mainGlobals mg → Ek.FnG P w K mg base 6 f fd ["_law_script"] (spLaw K) := by
  obtain ⟨fdW, FW⟩ := c.def_ 21 (d := d_law_well) rfl
  obtain ⟨fdD, FD⟩ := c.def_ 22 (d := d_law_dip) rfl
  obtain ⟨fdA, FA⟩ := c.def_ 23 (d := d_law_any) rfl
  obtain ⟨fdF, FF⟩ := c.def_ 24 (d := d_law_families) rfl
  obtain ⟨fdU, FU⟩ := c.def_ 25 (d := d_law_due) rfl
  obtain ⟨fdT, FT⟩ := c.def_ 26 (d := d_law_texts_right) rfl
  obtain ⟨fdO, FO⟩ := c.def_ 27 (d := d_law_others_right) rfl
  obtain ⟨fd, F⟩ := c.def_ 28 (d := d_law) rfl
  cases hfa.symm.trans (g_law c X G)
  have b := FunD.bindsA (ps := ["_law_script"]) F fun _ _ _ _ _ _ us hl => match us, hl with | [_], _ => rfl
  refine ⟨fd, fun s v => b s [v] rfl, fun base KB GB => ?_⟩
  have bW : L2.Binds K fdW ["_law_script", "_law_spot"] [] := FW.bindsN fun _ _ _ _ _ _ us hl => match us, hl with | [_, _], _ => rfl
  have bD : L2.Binds K fdD ["_law_well_here", "_law_many"] [] := FD.bindsN fun _ _ _ _ _ _ us hl => match us, hl with | [_, _], _ => rfl
  have bA : L2.Binds K fdA ["_law_well_here", "_law_things"] [] := FA.bindsN fun _ _ _ _ _ _ us hl => match us, hl with | [_, _], _ => rfl
  have bF : L2.Binds K fdF ["_law_e"] [] := FF.bindsN fun _ _ _ _ _ _ us hl => match us, hl with | [_], _ => rfl
  have bU : L2.Binds K fdU ["_law_family"] [] := FU.bindsN fun _ _ _ _ _ _ us hl => match us, hl with | [_], _ => rfl
  have bT : L2.Binds K fdT ["_law_thing"] [] := FT.bindsN fun _ _ _ _ _ _ us hl => match us, hl with | [_], _ => rfl
  have bO : L2.Binds K fdO ["_law_thing", "_law_other"] [] := FO.bindsN fun _ _ _ _ _ _ us hl => match us, hl with | [_, _], _ => rfl
  have GW := ok_well (P := P) (w := w) (base := base) FW (f_int c X G) (f_len c X G) (f_abs c X G)
  have GD := ok_dip (P := P) (w := w) (base := base) FD (f_int c X G)
  have GA := ok_any (P := P) (w := w) (base := base) FA (f_len c X G) (g_law_dip c X G) GD FD.kp bD
  have GF := ok_fam (P := P) (w := w) (base := base) FF c X G
  have GU := ok_due (P := P) (w := w) (base := base) FU (f_range c X G)
  have GT := ok_tx (P := P) (w := w) (base := base) FT c m X G GF FF.kp bF GU FU.kp bU
  have GO := ok_ox (P := P) (w := w) (base := base) FO c m X G GF FF.kp bF GU FU.kp bU
  exact ok_law F c X G GW FW.kp bW GD FD.kp bD GA FA.kp bA GT FT.kp bT GO FO.kp bO
end E01
open PySem PySem.W PySem.Calls PyProof.Rows
set_option maxHeartbeats 0 in
theorem PySem.Challenge.cw_evenkeeps_k01_errors_and_limits_holds : PySem.Challenge.rw_evenkeeps_k01_errors_and_limits.Holds := by
  w_on; o_law
  refine HandSHeadRun.head_any (r := OpenLaw.row PySem.Challenge.rw_evenkeeps_k01_errors_and_limits) (q := view (OpenLaw.row PySem.Challenge.rw_evenkeeps_k01_errors_and_limits).prog [44]) (H := E01.hk) (ob := E01.ob) (M := 8000) (loose := E01.nms)
    (d := HandSHeadRun.topDef (OpenLaw.row PySem.Challenge.rw_evenkeeps_k01_errors_and_limits).prog 44) (kwd := []) E01.ob_eq
    (by kernel_rfl) (fun s => by kernel_rfl) E01.run (by kernel_rfl) (by kernel_rfl) (by kernel_rfl) (by rfl) (by first | assumption | decide +kernel) (by decide +kernel) ⟨rfl, rfl, rfl, rfl, rfl, by decide +kernel⟩ ?hw ?hc
  case hw => w_witness2
  case hc =>
    refine Ek.walk_go (l := PySem.Challenge.rw_evenkeeps_k01_errors_and_limits) (n := 63) (k := 6) (x := "_law_script") rfl (by decide) (by kernel_rfl) ⟨rfl, by decide, by decide⟩ ?F
    intro w mg fa h Y G hmg0
    obtain ⟨K, KX, c, m⟩ := Y
    have hmg : mg ("law" : PySem.Str) = some (.ref fa) := by
      have e : (HandSHeadRun.topDef (OpenLaw.row PySem.Challenge.rw_evenkeeps_k01_errors_and_limits).prog 44).name = ("law" : PySem.Str) := by kernel_rfl
      rw [← e]
      exact hmg0
    obtain ⟨fd, hb, hF⟩ := E01.facts (P := (PySem.Challenge.rw_evenkeeps_k01_errors_and_limits).prog) (w := w) KX G hmg c m
    exact ⟨K, fd, E01.spLaw K, KX, hb, fun H a ns hl _ hS => ⟨a, ns, rfl, hS, fun _ => rfl⟩, hF⟩
