import PyProof.Rows.All
import Wide.All
import OpenK.AllK
import Wide.FinOn
import KE.KExcIs
import HandS.ForMost
import HandS.Exc
import HandS.TryOnly
import HandS.ExcOwn
import HandS.WordsExc
import HandS.ExcInit
import HandS.ExcField
import HandS.IsInst
import HandS.Defaults
import HandS.Flow
import HandS.Wide
import HandS.HeadHook2
import HandS.Head2
import HandS.HeadEnd
import HandS.MakeKw
import PyProof.ReprRoads
import HandS.Deep
import HandS.DictEq
import HandS.List
import HandS.LawCells
import HandS.ExcValue
import HandS.WideBits
import HandS.Text
import HandS.Iter
import HandS.TupLe
import PyProof.ReprLen
import HandS.Strs
import PyProof.FactsAll.dict_1
import HandS.TupMul
import HandS.TupAny
import HandS.Star
import HandS.OwnEq
import HandS.StrMore
import HandS.Zip
import PyProof.FactsAll.NoneType_1
import PyProof.FactsAll.bool_1
import PySem.Challenge.RW_tickcounts_k20_rules_made
set_option Elab.async false
set_option linter.all false
set_option maxRecDepth 100000
set_option maxHeartbeats 8000000
/-! exceptions of own classes as tracked objects -/
namespace L2.Fw
open PySem PySem.Spec PyProof.Rows

/-- at a stands an exception of the class at C whose own dict is d -/
def exv (a C : Addr) (d : Option Addr) : HO := .ext fun h => ∃ (o : Obj) (vs : Array Value), h.get? a = some o ∧ Zc (.ref C) d o ∧ o.data = .fields vs
theorem exv_ok {P : Program} {w : World} {H : Hp} {h : Heap} {a C : Addr} {d : Option Addr} {o : Obj} {vs : Array Value} (e : h.get? a = some o) (z : Zc (.ref C) d o) (hd : o.data = .fields vs) : ObjOk P w H h a (exv a C d) :=
  ⟨⟨o, vs, e, z, hd⟩, ⟨o, e⟩, fun _ _ ⟨o, v, q, r⟩ k => ⟨o, v, k o q, r⟩⟩
theorem exv_at {P : Program} {w : World} {H : Hp} {h : Heap} {a C : Addr} {d : Option Addr} (hok : HOk P w H h) (he : H a = some (exv a C d)) : ∃ (o : Obj) (vs : Array Value), h.get? a = some o ∧ Zc (.ref C) d o ∧ o.data = .fields vs := by
  have x : ObjOk P w H h a (.ext fun h => ∃ (o : Obj) (vs : Array Value), h.get? a = some o ∧ Zc (.ref C) d o ∧ o.data = .fields vs) := hok a _ he
  exact x.1

/-- what the class at C of an own exception must say: its instances' fields may be read, isinstance may ask them -/
structure EC (K : PySem.W.Frag) (C : Addr) : Prop where
  cl : (PySem.W.clsIn K C).isSome = true
  ga : PySem.W.findIn K (.ref C) "__getattribute__" = some (some (.builtin "BaseException.__getattribute__"))
  gg : PySem.W.findIn K (.ref C) "__getattr__" = some none
  sub : PySem.W.subIn K (.ref C) (.type "BaseException") = some true
  hd : PySem.W.hasDictIn K C = true
  ha : PySem.W.findIn K (.ref C) "__class__" = some (some (.builtin "object.__class__"))
  hn : PySem.W.specialIn K (.builtin "object.__class__") "__get__" = some (some (.builtin "getset_descriptor.__get__"))
  ht : PySem.W.takesIn K (.builtin "object.__class__") = some true
  hm : PySem.W.mroIn K C (.type "object") = some true
def ecB (K : PySem.W.Frag) (C : Addr) : Bool := (PySem.W.clsIn K C).isSome && decide (PySem.W.findIn K (.ref C) "__getattribute__" = some (some (.builtin "BaseException.__getattribute__"))) && decide (PySem.W.findIn K (.ref C) "__getattr__" = some none) &&
  decide (PySem.W.subIn K (.ref C) (.type "BaseException") = some true) && PySem.W.hasDictIn K C && decide (PySem.W.findIn K (.ref C) "__class__" = some (some (.builtin "object.__class__"))) &&
  decide (PySem.W.specialIn K (.builtin "object.__class__") "__get__" = some (some (.builtin "getset_descriptor.__get__"))) && decide (PySem.W.takesIn K (.builtin "object.__class__") = some true) && decide (PySem.W.mroIn K C (.type "object") = some true)
theorem ecB_ok {K : PySem.W.Frag} {C : Addr} (h : ecB K C = true) : EC K C := by
  unfold ecB at h
  simp only [Bool.and_eq_true, decide_eq_true_eq] at h
  obtain ⟨⟨⟨⟨⟨⟨⟨⟨h1, h2⟩, h3⟩, h4⟩, h5⟩, h6⟩, h7⟩, h8⟩, h9⟩ := h
  exact ⟨h1, h2, h3, h4, h5, h6, h7, h8, h9⟩

section
variable {X : Cx} {pins : List (Addr × Obj)} {σ : St} {H : Hp} {s : Shared} {a C : Addr} {d : Option Addr}
theorem Zc.inst {o : Obj} {vs : Array Value} {h : Heap} {od : Option Obj} (e : h.get? a = some o) (z : Zc (.ref C) d o) (hd : o.data = .fields vs) (ho : match d, od with | none, none => True | some dd, some ob => h.get? dd = some ob | _, _ => False) : PySem.W.InstAt h a o C od := by
  obtain ⟨oc, odd, oda, osl⟩ := o
  obtain ⟨h1, h2⟩ := z
  dsimp only at h1 h2 hd
  subst h1 h2 hd
  cases odd with
  | none => cases od with
    | none => exact ⟨e, rfl, rfl, trivial⟩
    | some _ => exact ho.elim
  | some dd => cases od with
    | none => exact ho.elim
    | some ob => exact ⟨e, rfl, rfl, ho⟩
/-- e.f, e a tracked exception whose own dict is at dd -/
def tXfv (K : PySem.W.Frag) (f : Str) (te : TE) : TE := fun σ H Q => te σ H fun x H1 => ∃ (a C dd : Addr) (fs : List (Str × V)) (v : V), x = .ref a ∧ EC K C ∧ PySem.W.findIn K (.ref C) f = some none ∧ H1 a = some (exv a C (some dd)) ∧ H1 dd = some (.xd fs) ∧ fs.lookup f = some v ∧ Q v H1
theorem pe_xfv {e : Expr} {te : TE} {pos : Pos} {n : Str} (he : PE X e te) (hb : attributeBase e n X.env (eval e X.env) = eval e X.env := by rfl) : PE X (.Attribute e n pos) (tXfv X.K n te) := by
  refine ⟨fun pins s σ H Q I h => ?_⟩
  refine attr_of hb (thn (he.run pins s σ H _ I h) fun u s1 hh => ?_)
  obtain ⟨x, H1, I1, rx, a, C, dd, fs, v, ex, T, hno, ea, ed, l, q⟩ := hh
  subst ex
  obtain rfl : u = Value.ref a := rx
  obtain ⟨oe, vs, ho, hz, hd⟩ := exv_at I1.hok ea
  have hx : ObjOk X.prog X.w H1 s1.heap dd (.xd fs) := I1.hok dd _ ed
  obtain ⟨mA, hns, hr⟩ := hx
  obtain ⟨od, hod, hl⟩ := lookIn_ns hns
  obtain ⟨u, hu, ru⟩ := RelO.some_of (v := v) (o := mA n) (by rw [← l]; exact hr n)
  have J : PySem.W.InstAt s1.heap a oe C (some od) := Zc.inst (d := some dd) ho hz hd hod
  exact HandSPX.exc_get I1.kIn J T.ga T.gg T.sub (PySem.W.findObj_own T.hd hno rfl (by rw [hl, hu])) (handed_of ru) ⟨v, H1, I1.tok _, ru, q⟩
/-- isinstance(e, c), e a tracked exception -/
def rIsX (K : PySem.W.Frag) : List V → Hp → VK → Prop := fun xs H Q => ∃ (a C : Addr) (d : Option Addr) (c : V) (u : Value) (b : Bool), xs = [.ref a, c] ∧ ClsV c u ∧ EC K C ∧ H a = some (exv a C d) ∧ (∀ dd, d = some dd → ∃ fs, H dd = some (.xd fs)) ∧ PySem.W.kitOne K (.ref C) u = some b ∧ Q (.bl b) H
theorem call_isX : CallR X (.builtin "isinstance") (rIsX X.K) := by
  intro pins s σ H xs us Q I r h
  obtain ⟨a, C, d, c, u, b, rfl, hcv, T, ea, hdd, e, q⟩ := h
  cases r with
  | cons rx rr =>
    cases rr with
    | cons rt rr =>
      cases rr
      cases rx
      have ec := hcv.eq rt
      subst ec
      obtain ⟨oe, vs, ho, hz, hd⟩ := exv_at I.hok ea
      have fin : ∀ od, PySem.W.InstAt s.heap a oe C od → wpAny (model X.prog X.w) X.A (call (.builtin "isinstance") [.ref a, _]) (EP X pins σ Q) X.xe s := fun od J =>
        PySem.W.kia_one (PySem.W.kitx_exc (od := od) T.cl T.ga T.gg T.sub T.ha T.hn T.ht T.hm) I.kIn J e (fun z => nomatch z) fun tk => ⟨.bl b, H, I.kept (t' := tk) fun _ _ z => z, rfl, q⟩
      cases d with
      | none => exact fin none (Zc.inst (d := none) ho hz hd trivial)
      | some dd =>
        obtain ⟨fs, ed⟩ := hdd dd rfl
        have hx : ObjOk X.prog X.w H s.heap dd (.xd fs) := I.hok dd _ ed
        obtain ⟨mA, ⟨ob, es, ep, hob, _⟩, _⟩ := hx
        exact fin (some ob) (Zc.inst (d := some dd) ho hz hd hob)
end
end L2.Fw
/-! an own exception class called, with keywords too: the new exception as a value -/
namespace L2.Fw
open PySem PySem.Spec PySem.Calls PyProof.Rows PySem.HandSPX
section
variable {prog : Program} {w : World} {A : Around} {E : Value → Shared → Prop} {R : Result → Shared → Prop} {h : Heap} {g : Array GenState} {d : Drawn} {t : Nat} {os : OsState}
variable {nm q : Str} {C N : Addr} {bs bm : List Value} {sn : List Str} {sub : List Value} {ab : Bool} {col : Option Bool} {dd : Option Addr} {k0 k1 k2 k3 k5 : Option Value} {rest : List Value} {kw : List (Str × Value)}
/-- the class object at C: an own class over ValueError -/
abbrev VC (h : Heap) (C : Addr) (nm q : Str) (N : Addr) (bs bm : List Value) (sn : List Str) (sub : List Value) (ab : Bool) (col : Option Bool) (dd : Option Addr) (k0 k1 k2 k3 k5 : Option Value) : Prop :=
  h.get? C = some (excClassObj nm q C N bs bm true sn sub ab col dd k0 k1 k2 k3 k5 "ValueError.__new__")
theorem kwNew (hb : refsVE bm = true) {Q : Unit → Shared → Prop} (hC : VC h C nm q N bs bm sn sub ab col dd k0 k1 k2 k3 k5) (hq : Q () ⟨h, g, d, t, os⟩) :
    wpAny (model prog w) A (checkBuiltinCall "ValueError.__new__" ⟨.ref C :: rest, kw⟩) Q E ⟨h, g, d, t, os⟩ := by
  have F := F.excBase_ValueError
  have c1 : (Value.ref C :: bm).contains (.type "ValueError") = true := by rw [List.contains_cons, refsVE_contains _ bm hb]; rfl
  have c2 := F.noStar
  simp only [checkBuiltinCall, F.newKind, F.newSplit, F.newRow]
  repeat (first | refine wpAny_loadPart_at hC ?_ | (refine wpAny_isSubtype_exc hC ?_; rw [c1]) | refine wpAny_staticBase_exc hC ?_ | refine wpAny_madeBy_exc hC ?_ | simp only [bne_self_eq_false, Bool.false_eq_true, if_false] | wp_step)
  exact hq
theorem kwBase (hb : refsVE bm = true) (hC : VC h C nm q N bs bm sn sub ab col dd k0 k1 k2 k3 k5) (hl : rest.length ≤ sizeLine)
    (hq : R (.ok (.ret (.ref (h.objs.size + 1)))) ⟨(h.push (W.kdv_tup rest)).push (excO C h.objs.size), g, d, t, os⟩) :
    codeAny (model prog w) A (.builtin "ValueError.__new__" ⟨.ref C :: rest, kw⟩) R ⟨h, g, d, t, os⟩ := by
  have F := F.excBase_ValueError
  have F1 := F.ends
  have c1 : (Value.ref C :: bm).contains (.type "ValueError") = true := by rw [List.contains_cons, refsVE_contains _ bm hb]; rfl
  have c2 : (Value.ref C :: bm).contains (.type "AttributeError") = false := by rw [List.contains_cons, refsVE_contains _ bm hb]; rfl
  have c3 : (Value.ref C :: bm).contains (.type "NameError") = false := by rw [List.contains_cons, refsVE_contains _ bm hb]; rfl
  refine codeAny_builtinAt F.entry ?_
  unfold Builtin.«BaseException.__new__»
  refine PySem.wpAt_bind ?_
  show PySem.wpAt _ _ _ (stack >>= _) _ _ _
  refine PySem.wpAt_bind (PySem.wpAt_stack fun p below => PySem.wpAt_of_wpAny ?_)
  wp_walk
  refine PySem.wpAt_of_wpAny ?_
  rw [F.owner]
  repeat (first | with_reducible refine wpAny_madeHere_exc F.canon hC ?_ | with_reducible refine wpAny_loadPart_at hC ?_ | (with_reducible refine wpAny_isSubtype_exc hC ?_; first | rw [c1] | rw [c2] | rw [c3]) | wp_step)
  show R _ _
  rw [Heap.size_push]
  exact hq
theorem kwTypeCall (hb : refsVE bm = true) {fI : Addr} {Q : Fin → Shared → Prop} (hC : VC h C nm q N bs bm sn sub ab col dd k0 k1 k2 k3 k5)
    (hi : W.Looks (model prog w) h (typeLookup (.ref C) "__init__") (some (.ref fI))) (hs : ∀ self, W.Looks (model prog w) h (bindSpecial (.ref fI) self) (.ref fI, [self])) (hl : rest.length ≤ sizeLine)
    (hq : codeAny (model prog w) A (.call (.ref fI) ⟨.ref (h.objs.size + 1) :: rest, kw⟩)
      (fun r s' => match r with | .ok (.ret v) => v = .none ∧ Q (.done (.ret (.ref (h.objs.size + 1)))) s' | .ok _ => False | .error e => E e s') ⟨(h.push (W.kdv_tup rest)).push (excO C h.objs.size), g, d, t, os⟩) :
    wpAny (model prog w) A (Builtin.«type.__call__» ⟨.ref C :: rest, kw⟩) Q E ⟨h, g, d, t, os⟩ := by
  repeat (first | with_reducible refine wpAny_loadPart_at hC ?_ | with_reducible refine wpAny_madeBy_exc hC ?_ | wp_step)
  refine codeAny_call_builtin_code (Code.quiet_builtin _ F.excBase_ValueError.quiet) (kwNew hb hC ?_)
  refine kwBase hb hC hl ?_
  show wpAny _ _ _ _ _ _
  have k : ∀ b o, h.get? b = some o → ((h.push (W.kdv_tup rest)).push (excO C h.objs.size)).get? b = some o := fun b o e => Heap.get?_push_of_some _ (Heap.get?_push_of_some _ e)
  have hC2 := k _ _ hC
  have hnew : ((h.push (W.kdv_tup rest)).push (excO C h.objs.size)).get? (h.objs.size + 1) = some (excO C h.objs.size) := by heap_get
  have c4 : (Value.ref C :: bm).contains (.ref C) = true := by simp
  have l1 := hi.keeps k
  have l2 := (hs (.ref (h.objs.size + 1))).keeps k
  unfold isInstance
  repeat (first | with_reducible refine wpAny_loadPart_at hnew ?_ | (with_reducible refine wpAny_isSubtype_exc hC2 ?_; rw [c4]) | wp_step)
  show wpAny _ _ (typeLookup (.ref C) _) _ _ _
  refine l1.at ?_
  refine wpAny_holding (wpAny_bind (l2.at ?_))
  refine wpAny_bind (wpAny_call (codeAny_mono hq fun r s' z => ?_))
  rcases r with e | (v | _ | _ | _) <;> first | exact z | exact z.elim | skip
  obtain ⟨rfl, z⟩ := z
  first
    | exact wpAny_pure (wpAny_pure z)
    | (wp_walk; exact z)
theorem kwCheck {Q : Unit → Shared → Prop} (hC : VC h C nm q N bs bm sn sub ab col dd k0 k1 k2 k3 k5) (hq : Q () ⟨h, g, d, t, os⟩) : wpAny (model prog w) A (checkBuiltinCall "type.__call__" ⟨.ref C :: rest, kw⟩) Q E ⟨h, g, d, t, os⟩ := by
  have f3 := tc_sub
  have hT : (⟨h, g, d, t, os⟩ : Shared).TypeIs (.ref C) "type" := ⟨_, hC, rfl⟩
  simp only [checkBuiltinCall, tc_kind, tc_split]
  repeat (any_goals (first | assumption | with_reducible refine wpAny_loadPart_at hC ?_ | with_reducible refine wpAny_onRaise ?_ | with_reducible refine wpAny_map ?_ | wp_step))
theorem kwCall (hb : refsVE bm = true) {fI : Addr} (hC : VC h C nm q N bs bm sn sub ab col dd k0 k1 k2 k3 k5)
    (hi : W.Looks (model prog w) h (typeLookup (.ref C) "__init__") (some (.ref fI))) (hs : ∀ self, W.Looks (model prog w) h (bindSpecial (.ref fI) self) (.ref fI, [self])) (hl : rest.length ≤ sizeLine)
    (hq : codeAny (model prog w) (A.under (.builtin "type.__call__" ⟨.ref C :: rest, kw⟩)) (.call (.ref fI) ⟨.ref (h.objs.size + 1) :: rest, kw⟩) (W.InitBack (h.objs.size + 1) R)
      ⟨(h.push (W.kdv_tup rest)).push (excO C h.objs.size), g, d, t, os⟩) :
    codeAny (model prog w) A (.call (.ref C) ⟨rest, kw⟩) R ⟨h, g, d, t, os⟩ := by
  have f1 := tc_lookup
  have f2 := tc_bind (.ref C)
  have hTy : (⟨h, g, d, t, os⟩ : Shared).TypeIs (.ref C) "type" := ⟨_, hC, rfl⟩
  refine codeAny_of_tree ?_
  show wpAny _ _ (callAny (.ref C) _) _ _ _
  repeat (any_goals (first | assumption | with_reducible refine wpAny_loadPart_at hC ?_ | wp_step))
  refine ⟨rfl, ?_⟩
  refine codeAny_call_builtin_at (Code.quiet_builtin _ (by decide +kernel)) entry_typeCall (kwCheck hC (kwTypeCall hb hC hi hs hl ?_))
  refine codeAny_mono hq fun r s' z => ?_
  rcases r with e | (v | _ | _ | _) <;> exact z
end
end L2.Fw
/-! own exceptions as values: C(v), C(f=v), C() -/
namespace L2.Fw
open PySem PySem.Spec PyProof.Rows
section
variable {X : Cx} {pins : List (Addr × Obj)} {σ : St} {H : Hp} {s : Shared}
/-- another description of the same object -/
theorem Inv.retype {a : Addr} {o o' : HO} (I : Inv X pins σ H s) (e : H a = some o) (mu : Mut (some o)) (new : ObjOk X.prog X.w (upd H a o') s.heap a o') : Inv X pins σ (upd H a o') s := by
  obtain ⟨u, hu⟩ : ∃ u, s.heap.get? a = some u := by
    have l := I.hok.lt e
    cases q : s.heap.get? a with
    | some u => exact ⟨u, rfl⟩
    | none =>
      have z := I.hok a o e
      exfalso
      cases o with
      | lst xs => obtain ⟨_, _, _, _, r⟩ := z; rw [q] at r; cases r
      | dK kvs => obtain ⟨_, _, _, _, _, _, _, r, _⟩ := z; rw [q] at r; cases r
      | dT kvs => obtain ⟨_, _, _, _, _, _, _, r, _⟩ := z; rw [q] at r; cases r
      | set S n => obtain ⟨_, _, _, _, r, _⟩ := z; rw [q] at r; cases r
      | ins C dx fs => obtain ⟨_, _, _, r, _⟩ := z; rw [q] at r; cases r
      | ext φ => obtain ⟨_, ⟨_, r⟩, _⟩ := z; rw [q] at r; cases r
      | tup xs => exact mu
      | own y => exact mu
      | xd fs => exact mu
      | rng lo hi => exact mu
      | frz ob v => exact mu
      | tbl ps => exact mu
      | met f y => exact mu
  have J := I.write (t' := s.toks) (h' := s.heap) (x := a) (e := a) (o := o') (by rw [e]; exact mu) (.inl rfl) (fun b u _ q => q) ⟨u, hu⟩ new
  exact J
end
/-- __init__(self, f): self.f = f -/
def spXI (K : PySem.W.Frag) (f : Str) : Sp := fun vs H Q _ => ∃ (a C : Addr) (v : V), vs = [.ref a, v] ∧ OexC K C ∧ PySem.W.findIn K (.ref C) f = some none ∧ H a = some (exo a C none) ∧
  ∀ d, H d = none → d ≠ a → Q .non (upd (upd H d (exd d [(f, v)])) a (exo a C (some d)))
/-- what the text says of an own exception class of one field: its __init__ keeps spXI, whatever way it is called -/
structure XC (P : Program) (w : World) (K : PySem.W.Frag) (mg : Str → Option Value) (base : Heap) (x f : Str) (C : Addr) (k : Nat) : Prop where
  gl : mg x = some (.ref C)
  oex : OexC K C
  ec : EC K C
  no : PySem.W.findIn K (.ref C) f = some none
  ini : ∃ fI fd, PySem.W.findIn K (.ref C) "__init__" = some (some (.ref fI)) ∧ PySem.W.typeIn K (.ref fI) = some (.type "function") ∧ FnOk P w K mg base (L2.CX P w) k fI fd ["self", f] (spXI K f) ∧
    (∃ g, KBn K fd ["self", f] 2 [] g fun vs _ => vs) ∧ (∃ g, KBn K fd ["self", f] 1 [f] g fun vs zs => vs ++ zs) ∧ (∃ g, KBn K fd ["self", f] 1 [] g fun vs _ => vs ++ [.non]) ∧ Binds K fd ["self", f] []
/-- the new exception -/
def rMkv (C : Addr) (f : Str) (v : V) : Hp → VK → Prop := fun H Q => ∀ a d, H a = none → H d = none → d ≠ a → Q (.ref a) (upd (upd H d (.xd [(f, v)])) a (exv a C (some d)))
section
variable {X : Cx} {pins : List (Addr × Obj)} {σ : St} {H : Hp} {s : Shared} {x f : Str} {C : Addr} {k : Nat}
theorem run_mkv {fI : Addr} {fd : FuncData} {n : Nat} {ks : List Str} {g : List Value → List Value → List Value} {gV : List V → List V → List V} {us ws : List Value} {vs zs : List V} {v : V} {Q : VK}
    (T : OexC X.K C) (no : PySem.W.findIn X.K (.ref C) f = some none) (hi : PySem.W.findIn X.K (.ref C) "__init__" = some (some (.ref fI))) (ht : PySem.W.typeIn X.K (.ref fI) = some (.type "function"))
    (F : FnOk X.prog X.w X.K X.mg X.base (L2.CX X.prog X.w) k fI fd ["self", f] (spXI X.K f)) (b : KBn X.K fd ["self", f] (n + 1) ks g gV) (hr : Room (k + 1) X.A)
    (I : Inv X pins σ H s) (r : Vals vs us) (rz : Vals zs ws) (l1 : vs.length = n) (l2 : zs.length = ks.length) (hl : n ≤ 1000) (hv : ∀ y : V, gV (y :: vs) zs = [y, v]) (q : rMkv C f v H Q) :
    wpAny (model X.prog X.w) X.A (call (.ref C) us (ks.zip ws)) (EP X pins σ Q) X.xe s := by
  obtain ⟨nm, qn, N, bs, bm, sn, sub, ab, col, dd, k0, k1, k2, k3, k5, hC, hbm⟩ := T.cls
  obtain ⟨hp, gg, dr, tk, os⟩ := s
  have hsz : hp.objs.size ≤ hp.objs.size + 1 := Nat.le_succ _
  have hn : H (hp.objs.size + 1) = none := I.hok.fresh hsz
  have kk : ∀ b o, hp.get? b = some o → ((hp.push (PySem.W.kdv_tup us)).push (PySem.HandSPX.excO C hp.objs.size)).get? b = some o := fun b o e => Heap.get?_push_of_some _ (Heap.get?_push_of_some _ e)
  have hget : ((hp.push (PySem.W.kdv_tup us)).push (PySem.HandSPX.excO C hp.objs.size)).get? (hp.objs.size + 1) = some (PySem.HandSPX.excO C hp.objs.size) := by heap_get
  have I2 : Inv X pins σ (upd H (hp.objs.size + 1) (exo (hp.objs.size + 1) C none)) ⟨(hp.push (PySem.W.kdv_tup us)).push (PySem.HandSPX.excO C hp.objs.size), gg, dr, tk, os⟩ :=
    I.laid (t' := tk) (a := hp.objs.size + 1) (o := exo (hp.objs.size + 1) C none) kk hsz (exo_ok hget)
  have r1 : Vals (V.ref (hp.objs.size + 1) :: vs) (Value.ref (hp.objs.size + 1) :: us) := .cons rfl r
  have r2 := b.rel r1 rz
  have e1 : (Value.ref (hp.objs.size + 1) :: us).length = n + 1 := r1.length.symm.trans (congrArg Nat.succ l1)
  have e2 : ws.length = ks.length := rz.length.symm.trans l2
  have hus : us.length ≤ sizeLine := by
    rw [← Paired.length r, l1, sizeLine_eq]
    omega
  have sp : spXI X.K f (gV (V.ref (hp.objs.size + 1) :: vs) zs) (upd H (hp.objs.size + 1) (exo (hp.objs.size + 1) C none))
      (fun y H2 => y = .non ∧ ∃ d, H d = none ∧ d ≠ hp.objs.size + 1 ∧ H2 = upd (upd (upd H (hp.objs.size + 1) (exo (hp.objs.size + 1) C none)) d (exd d [(f, v)])) (hp.objs.size + 1) (exo (hp.objs.size + 1) C (some d))) (fun _ _ _ => False) := by
    refine ⟨hp.objs.size + 1, C, v, hv _, T, no, upd_same, fun d h1 h2 => ⟨rfl, d, ?_, h2, rfl⟩⟩
    rw [upd_ne h2] at h1
    exact h1
  refine wpAny_call (kwCall hbm (I.kIn _ _ hC) (PySem.W.looks_findIn I.kIn hi) (fun self => PySem.W.bind_fn I.kIn self ht) hus
    (codeAny_mono (F.run _ X.stack _ _ ⟨Value.ref (hp.objs.size + 1) :: us, ks.zip ws⟩ (g (Value.ref (hp.objs.size + 1) :: us) ws) _ _ (fun _ _ _ => False) (hr.make C us (ks.zip ws)) (I2.env0.make C us (ks.zip ws))
      (b.to _ (Value.ref (hp.objs.size + 1) :: us) ws I2.kIn e1 e2) r2 sp) fun r s' hq' => ?_))
  cases r with
  | error er => exact passL (X := X) pins σ _ _ er s' I2 hq'
  | ok fl =>
    cases fl with
    | ret u =>
      obtain ⟨y, H2, I3, rv, ey, d, hd, dne, eH⟩ := I2.after hq'
      subst ey eH
      refine ⟨rv, ?_⟩
      have z1 : upd (upd (upd H (hp.objs.size + 1) (exo (hp.objs.size + 1) C none)) d (exd d [(f, v)])) (hp.objs.size + 1) (exo (hp.objs.size + 1) C (some d)) (hp.objs.size + 1) = some (exo (hp.objs.size + 1) C (some d)) := upd_same
      have z2 : upd (upd (upd H (hp.objs.size + 1) (exo (hp.objs.size + 1) C none)) d (exd d [(f, v)])) (hp.objs.size + 1) (exo (hp.objs.size + 1) C (some d)) d = some (exd d [(f, v)]) := by rw [upd_ne dne, upd_same]
      obtain ⟨t1, ho⟩ := exo_at I3.hok z1
      have J := Inv.retype I3 z1 (o' := exv (hp.objs.size + 1) C (some d)) True.intro (exv_ok ho ⟨rfl, rfl⟩ rfl)
      have z3 : upd (upd (upd (upd H (hp.objs.size + 1) (exo (hp.objs.size + 1) C none)) d (exd d [(f, v)])) (hp.objs.size + 1) (exo (hp.objs.size + 1) C (some d))) (hp.objs.size + 1) (exv (hp.objs.size + 1) C (some d)) d = some (exd d [(f, v)]) := by rw [upd_ne dne]; exact z2
      obtain ⟨mA, hns, rel⟩ := exd_at J.hok z3
      have J2 := Inv.retype J z3 (o' := .xd [(f, v)]) True.intro ⟨mA, hns, rel⟩
      have eH : upd (upd (upd (upd (upd H (hp.objs.size + 1) (exo (hp.objs.size + 1) C none)) d (exd d [(f, v)])) (hp.objs.size + 1) (exo (hp.objs.size + 1) C (some d))) (hp.objs.size + 1) (exv (hp.objs.size + 1) C (some d))) d (.xd [(f, v)]) =
          upd (upd H d (.xd [(f, v)])) (hp.objs.size + 1) (exv (hp.objs.size + 1) C (some d)) := by
        funext z
        unfold upd
        by_cases q1 : z = d
        · subst q1
          rw [if_pos rfl, if_neg dne, if_pos rfl]
        · rw [if_neg q1]
          by_cases q2 : z = hp.objs.size + 1
          · rw [if_pos q2, if_pos q2]
          · simp only [if_neg q1, if_neg q2]
      rw [eH] at J2
      exact ⟨.ref (hp.objs.size + 1), _, J2, rfl, q _ d hn hd dne⟩
    | next => exact False.elim hq'
    | brk => exact False.elim hq'
    | cont => exact False.elim hq'
/-- C(e) -/
def tMkv (C : Addr) (f : Str) (t : TA) : TE := fun σ H Q => t σ H fun vs H1 => ∃ v, vs = [v] ∧ rMkv C f v H1 Q
theorem pe_mkv {e : Expr} {t : TA} {p pos : Pos} (T : XC X.prog X.w X.K X.mg X.base x f C k) (hr : Room (k + 1) X.A) (hg : Gl X x) (ha : PA X [e] t)
    (hdb : (x == ("__debug__" : Str)) = false := by decide) (hs : starEach [e] X.env = (false, eval e X.env) :: starEach [] X.env := by rfl) (hpl : (backTo pos (starEach [] X.env)).any (·.1) = false := by rfl) :
    PE X (.Call (.Name x p) [e] [] pos) (tMkv C f t) := by
  refine ⟨fun pins s σ H Q I h => ?_⟩
  obtain ⟨fI, fd, hi, ht, F, ⟨g, b⟩, _⟩ := T.ini
  refine wpAny_Call_Name_kw (ld_glob I hg T.gl ?_ hdb)
  refine PySem.W.callWith_K (h₀ := X.base) I.ok.mod.kin T.oex.kC (thn (ha.run pos pins s σ H _ I h) fun us s1 ⟨vs, H1, I1, r1, v, ev, q1⟩ => ⟨I1.kIn, ?_⟩) hs hpl
  subst ev
  exact run_mkv (ks := []) (ws := []) (zs := []) (n := 1) T.oex T.no hi ht F b hr I1 r1 .nil rfl rfl (by decide) (fun y => rfl) q1
/-- C(f=e) -/
theorem pe_mkvk {e : Expr} {t : TA} {p pos kp : Pos} (T : XC X.prog X.w X.K X.mg X.base x f C k) (hr : Room (k + 1) X.A) (hg : Gl X x) (hk : PK X [⟨some f, e, kp⟩] t)
    (hdb : (x == ("__debug__" : Str)) = false := by decide) (hall : (backToKw pos (keywordEach [⟨some f, e, kp⟩] X.env)).all (·.1.isSome) = true := by rfl) (hks : (backToKw pos (keywordEach [⟨some f, e, kp⟩] X.env)).filterMap (·.1) = [f] := by rfl)
    (hpl : ((backTo pos (starEach [] X.env)).any (·.1) || (backToKw pos (keywordEach [⟨some f, e, kp⟩] X.env)).any (·.1.isNone)) = false := by rfl) :
    PE X (.Call (.Name x p) [] [⟨some f, e, kp⟩] pos) (tMkv C f t) := by
  refine ⟨fun pins s σ H Q I h => ?_⟩
  obtain ⟨fI, fd, hi, ht, F, _, ⟨g, b⟩, _⟩ := T.ini
  refine wpAny_Call_Name_kw (ld_glob I hg T.gl ?_ hdb)
  refine PySem.W.callWith_KW0 (h₀ := X.base) I.ok.mod.kin T.oex.kC hall (thn (hk.run pos pins s σ H _ I h) fun us s1 ⟨vs, H1, I1, r1, v, ev, q1⟩ => ⟨I1.kIn, ?_⟩) hpl
  subst ev
  rw [hks]
  exact run_mkv (ks := [f]) (us := []) (vs := []) (n := 0) T.oex T.no hi ht F b hr I1 .nil r1 rfl rfl (by decide) (fun y => rfl) q1
/-- C() -/
theorem pe_mkv0 {p pos : Pos} (T : XC X.prog X.w X.K X.mg X.base x f C k) (hr : Room (k + 1) X.A) (hg : Gl X x) (hdb : (x == ("__debug__" : Str)) = false := by decide) :
    PE X (.Call (.Name x p) [] [] pos) (fun _ H Q => rMkv C f .non H Q) := by
  refine ⟨fun pins s σ H Q I h => ?_⟩
  obtain ⟨fI, fd, hi, ht, F, _, _, ⟨g, b⟩, _⟩ := T.ini
  refine wpAny_Call_Name_kw (ld_glob I hg T.gl ?_ hdb)
  refine PySem.W.callWith_K0 I.kIn T.oex.kC ?_
  exact run_mkv (ks := []) (us := []) (vs := []) (ws := []) (zs := []) (n := 0) T.oex T.no hi ht F b hr I .nil .nil rfl rfl (by decide) (fun y => rfl) h
end
end L2.Fw
/-! promises of defs that ask repr (nothing that guards may be under way), calls by name -/
namespace L2.Fw
open PySem PySem.Spec PyProof.Rows
structure FnG (P : Program) (w : World) (K : PySem.W.Frag) (mg : Str → Option Value) (base : Heap) (k : Nat) (f : Addr) (fd : FuncData) (ps : List Str) (sp : Sp) : Prop where
  len : ∀ vs H Q E, sp vs H Q E → vs.length = ps.length
  run : ∀ {A : Around} {outer : List Env} {s : Shared} {H : Hp} {args : Args} {us : List Value} {vs : List V} {Q : VK} {E : XK}, A.guards = some [] → Room k A → Env0 P w K mg base A outer s H → BindsTo s fd args (ps.zip us) → Vals vs us → sp vs H Q E →
    codeAny (model P w) A (.call (.ref f) args) (CR (L2.CX P w) outer P w H s Q E) s
theorem FnG.ofOk {P : Program} {w : World} {K : PySem.W.Frag} {mg : Str → Option Value} {base : Heap} {k : Nat} {f : Addr} {fd : FuncData} {ps : List Str} {sp : Sp} (F : FnOk P w K mg base (L2.CX P w) k f fd ps sp) : FnG P w K mg base k f fd ps sp :=
  ⟨F.len, fun _ hr e b r h => F.run _ _ _ _ _ _ _ _ _ hr e b r h⟩
theorem guards_deeper {A : Around} {env : Env} (h : A.guards = some []) : (A.deeper env).guards = some [] := by
  exact h
theorem fnG_of {P : Program} {w : World} {K : PySem.W.Frag} {mg : Str → Option Value} {base : Heap} {k : Nat} {f : Addr} {name qual : Str} {params : Arguments} {body : List Stmt} {scope : Scope} {dV kV doc pm cdv ct oc : Value} {an od : Option Addr}
    {osl : Array (Option Value)} {N ps : List Str} {sp : Sp} (lk : K.lookup f = some ⟨oc, od, .func (PySem.W.fnOf name qual params body scope dV kV doc pm an cdv ct), osl⟩) (hcd : PySem.W.codeIn K cdv qual = true) (S : FnScope N ps scope)
    (len : ∀ vs H Q E, sp vs H Q E → vs.length = ps.length)
    (hbody : ∀ (A : Around) (outer : List Env) (s : Shared) (H : Hp) (vs : List V) (Q : VK) (E : XK), (A.deeper (envOfC qual scope s.heap.objs.size f cdv)).guards = some [] → Room k (A.deeper (envOfC qual scope s.heap.objs.size f cdv)) → sp vs H Q E →
      ∃ t, PSs (cxOf (L2.CX P w) P w K mg base N qual scope f cdv A outer s H E) body t ∧ t { nx := fun _ H' => Q .non H', rt := Q } (start N vs) H) :
    FnG P w K mg base (k + 1) f (PySem.W.fnOf name qual params body scope dV kV doc pm an cdv ct) ps sp := by
  refine ⟨len, fun {A outer s H args us vs Q E} hgd hr e0 hb r hsp => ?_⟩
  have KX : K.In s.heap := e0.mod.kin.keeps fun b o e => (e0.bs b o e).1
  have lim : s.heap.NoLimit := e0.mod.nolimit.keeps fun b o e => (e0.bs b o e).1
  have kinds : ∀ y ∈ ps.zip us, scope.names.lookup y.1 = some .local ∨ (scope.names.lookup y.1 = some .cell ∧ ((cellsFrom (s.heap.objs.size + 1) scope.names []).lookup y.1).isSome = true) := fun y hy => by
    rcases S.par y.1 (List.of_mem_zip (a := y.1) (b := y.2) hy).1 with q | q
    · exact .inl q
    · exact .inr ⟨q, PySem.W.cellsFrom_some _ _ _ (.inl q)⟩
  refine codeAny_call_function hr.depth (KX _ _ lk) rfl S.co S.gen rfl (PySem.W.codeRec_of KX hcd) (hb _ _ _ _ ?_)
  refine wpAny_newFunctionEnv_cells S.kind kinds fun env he s1 x => ?_
  subst he
  refine ⟨lim.keeps x.toInCall.keep, codeAny_func ?_⟩
  obtain ⟨t, ht, hq⟩ := hbody A outer s H vs Q E (guards_deeper hgd) (hr.deeper _) hsp
  have I : Inv (cxOf (L2.CX P w) P w K mg base N qual scope f cdv A outer s H E) [] (start N vs) H s1 := inv_start S hr.hd e0 (len _ _ _ _ hsp) r x
  refine wpAny_mono (ht.run [] s1 (start N vs) H _ I hq) (fun fl s' hs => ?_) fun e s' hs => hs
  cases fl with
  | ret u =>
    obtain ⟨v, σ', H', J, rv, q⟩ := hs
    exact ⟨v, H', J.os, J.bare, J.base, J.hok, rv, q⟩
  | next =>
    obtain ⟨σ', H', J, q⟩ := hs
    exact ⟨.non, H', J.os, J.bare, J.base, J.hok, rfl, q⟩
  | brk =>
    obtain ⟨_, _, _, q⟩ := hs
    exact q.elim
  | cont =>
    obtain ⟨_, _, _, q⟩ := hs
    exact q.elim
section
variable {P : Program} {w : World} {K : PySem.W.Frag} {mg : Str → Option Value} {base : Heap} {x qual : Str} {params : Arguments} {body : List Stmt} {scope : Scope} {dvs : List V} {kws : List (Str × V)} {f : Addr} {fd : FuncData}
theorem okG {N ps : List Str} {k : Nat} {sp : Sp} (F : FunD K x qual params body scope dvs kws f fd) (S : FnScope N ps scope) (len : ∀ vs H Q E, sp vs H Q E → vs.length = ps.length)
    (hbody : ∀ (cdv : Value) (A : Around) (outer : List Env) (s : Shared) (H : Hp) (vs : List V) (Q : VK) (E : XK), (A.deeper (envOfC qual scope s.heap.objs.size f cdv)).guards = some [] → Room k (A.deeper (envOfC qual scope s.heap.objs.size f cdv)) → sp vs H Q E →
      ∃ t, PSs (cxOf (L2.CX P w) P w K mg base N qual scope f cdv A outer s H E) body t ∧ t { nx := fun _ H' => Q .non H', rt := Q } (start N vs) H) : FnG P w K mg base (k + 1) f fd ps sp := by
  obtain ⟨oc, od, dV, kV, doc, pm, an, cdv, ct, osl, rfl, lk, hcd, _, _⟩ := F.ex
  exact fnG_of lk hcd S len fun A outer s H vs Q E g hr hsp => hbody cdv A outer s H vs Q E g hr hsp
/-- what may be called by the name x: a def that keeps sp -/
structure CalO (P : Program) (w : World) (K : PySem.W.Frag) (mg : Str → Option Value) (base : Heap) (k : Nat) (x : Str) (ps : List Str) (sp : Sp) : Prop where
  ex : ∃ f fd, FnOk P w K mg base (L2.CX P w) k f fd ps sp ∧ mg x = some (.ref f) ∧ PySem.W.keepIn K (.ref f) = true ∧ Binds K fd ps []
structure CalG (P : Program) (w : World) (K : PySem.W.Frag) (mg : Str → Option Value) (base : Heap) (k : Nat) (x : Str) (ps : List Str) (sp : Sp) : Prop where
  ex : ∃ f fd, FnG P w K mg base k f fd ps sp ∧ mg x = some (.ref f) ∧ PySem.W.keepIn K (.ref f) = true ∧ Binds K fd ps []
theorem CalO.g {k : Nat} {x : Str} {ps : List Str} {sp : Sp} (C : CalO P w K mg base k x ps sp) : CalG P w K mg base k x ps sp := by
  obtain ⟨f, fd, F, r⟩ := C.ex
  exact ⟨f, fd, .ofOk F, r⟩
end
/-- f(..), what it lets out wished for at the caller's slots -/
def tCallX (sp : Sp) (E : St → XK) (t : TA) : TE := fun σ H Q => t σ H fun vs H1 => sp vs H1 Q (E σ)
section
variable {X : Cx} {k j : Nat} {f : Addr} {fd : FuncData} {ps : List Str} {sp : Sp} {E : St → XK} {x : Str} {p pos : Pos} {e : Expr} {es : List Expr} {t : TA}
theorem run_G {pins : List (Addr × Obj)} {σ : St} {H : Hp} {s : Shared} {Q : VK} {us : List Value} {vs : List V} (F : FnG X.prog X.w X.K X.mg X.base k f fd ps sp) (hgd : X.A.guards = some []) (hr : Room k X.A) (hb : Binds X.K fd ps []) (hx : PassesAt (L2.CX X.prog X.w) X σ (E σ))
    (I : Inv X pins σ H s) (r : Vals vs us) (h : sp vs H Q (E σ)) : wpAny (model X.prog X.w) X.A (call (.ref f) us) (EP X pins σ Q) X.xe s := by
  have hl : us.length = ps.length := by rw [← r.length]; exact F.len _ _ _ _ h
  have b := hb s us I.kIn (by rw [List.append_nil]; exact hl)
  rw [List.append_nil] at b
  refine wpAny_call (codeAny_mono (F.run hgd hr I.env0 b r h) fun z s' hq => ?_)
  cases z with
  | error er => exact hx pins H s er s' I hq
  | ok fl => cases fl with
    | ret u => exact I.after hq
    | _ => exact False.elim hq
theorem pe_callG (C : CalG X.prog X.w X.K X.mg X.base k x ps sp) (hgd : X.A.guards = some []) (hr : Room j X.A) (hg : Gl X x) (hx : ∀ σ, PassesAt (L2.CX X.prog X.w) X σ (E σ)) (ha : PA X (e :: es) t) (hkj : k ≤ j := by decide)
    (hdb : (x == ("__debug__" : Str)) = false := by decide) (he : starEach (e :: es) X.env = (false, eval e X.env) :: starEach es X.env := by rfl) (hpl : (backTo pos (starEach es X.env)).any (·.1) = false := by rfl) :
    PE X (.Call (.Name x p) (e :: es) [] pos) (tCallX sp E t) := by
  obtain ⟨f, fd, F, hm, hk, hb⟩ := C.ex
  refine ⟨fun pins s σ H Q I h => ?_⟩
  refine wpAny_Call_Name_kw (ld_glob I hg hm ?_ hdb)
  refine PySem.W.callWith_K (h₀ := X.base) I.ok.mod.kin hk (thn (ha.run pos pins s σ H _ I h) fun us s1 ⟨vs, H1, I1, r, q⟩ => ⟨I1.kIn, ?_⟩) he hpl
  exact run_G F hgd (hr.mono hkj) hb (hx σ) I1 r q
theorem pe_callG0 (C : CalG X.prog X.w X.K X.mg X.base k x ps sp) (hgd : X.A.guards = some []) (hr : Room j X.A) (hg : Gl X x) (hx : ∀ σ, PassesAt (L2.CX X.prog X.w) X σ (E σ)) (hkj : k ≤ j := by decide)
    (hdb : (x == ("__debug__" : Str)) = false := by decide) : PE X (.Call (.Name x p) [] [] pos) (tCallX sp E tNil) := by
  obtain ⟨f, fd, F, hm, hk, hb⟩ := C.ex
  refine ⟨fun pins s σ H Q I h => ?_⟩
  refine wpAny_Call_Name_kw (ld_glob I hg hm ?_ hdb)
  exact PySem.W.callWith_K0 I.kIn hk (run_G (us := []) F hgd (hr.mono hkj) hb (hx σ) I .nil h)
theorem pe_callO (C : CalO X.prog X.w X.K X.mg X.base k x ps sp) (hr : Room j X.A) (hg : Gl X x) (hx : ∀ σ, PassesAt (L2.CX X.prog X.w) X σ (E σ)) (ha : PA X (e :: es) t) (hkj : k ≤ j := by decide)
    (hdb : (x == ("__debug__" : Str)) = false := by decide) (he : starEach (e :: es) X.env = (false, eval e X.env) :: starEach es X.env := by rfl) (hpl : (backTo pos (starEach es X.env)).any (·.1) = false := by rfl) :
    PE X (.Call (.Name x p) (e :: es) [] pos) (tCallX sp E t) := by
  obtain ⟨f, fd, F, hm, hk, hb⟩ := C.ex
  exact pe_callS F (hr.mono hkj) hg hm hk hb hx ha hdb he hpl
theorem pe_callO0 (C : CalO X.prog X.w X.K X.mg X.base k x ps sp) (hr : Room j X.A) (hg : Gl X x) (hx : ∀ σ, PassesAt (L2.CX X.prog X.w) X σ (E σ)) (hkj : k ≤ j := by decide)
    (hdb : (x == ("__debug__" : Str)) = false := by decide) : PE X (.Call (.Name x p) [] [] pos) (tCallX sp E tNil) := by
  obtain ⟨f, fd, F, hm, hk, hb⟩ := C.ex
  refine ⟨fun pins s σ H Q I h => ?_⟩
  refine wpAny_Call_Name_kw (ld_glob I hg hm ?_ hdb)
  exact PySem.W.callWith_K0 I.kIn hk (run_fnS (us := []) F (hr.mono hkj) hb (hx σ) I .nil h)
/-- nothing is let out -/
theorem passZ {X : Cx} (σ : St) : PassesAt (L2.CX X.prog X.w) X σ E0 := fun pins H s e s' I h => passL (X := X) pins σ H s e s' I h
abbrev Z0 : St → XK := fun _ => E0
end
end L2.Fw
/-! data of any depth, dicts too; repr; a law's end where nothing that guards is under way -/
namespace L2.Fw
open PySem PySem.Spec PyProof.Rows
def keyD : Key → PyData
  | .inl i => .int i
  | .inr x => .str x
/-- v is the data d, every object of it at an address of N -/
inductive Dn (N : Addr → Prop) (K : PySem.W.Frag) (H : Hp) : V → PyData → Prop
  | non : Dn N K H .non .none
  | bl (b : Bool) : Dn N K H (.bl b) (.bool b)
  | int (i : Int) : Dn N K H (.int i) (.int i)
  | str (x : Str) : Dn N K H (.str x) (.str x)
  | lst {a : Addr} {xs : List V} {ds : List PyData} : N a → SqL K H a xs → xs.length = ds.length → (∀ (i : Nat) (x : V) (d : PyData), xs[i]? = some x → ds[i]? = some d → Dn N K H x d) → Dn N K H (.ref a) (.list ds)
  | tup {a : Addr} {xs : List V} {ds : List PyData} : N a → SqT K H a xs → xs.length = ds.length → (∀ (i : Nat) (x : V) (d : PyData), xs[i]? = some x → ds[i]? = some d → Dn N K H x d) → Dn N K H (.ref a) (.tuple ds)
  | dct {a : Addr} {kvs : List (Key × V)} {es : List (PyData × PyData)} : N a → H a = some (.dK kvs) → kvs.map (fun p => keyD p.1) = es.map (·.1) → (∀ (i : Nat) (p : Key × V) (e : PyData × PyData), kvs[i]? = some p → es[i]? = some e → Dn N K H p.2 e.2) → Dn N K H (.ref a) (.dict es)
def DnAll (N : Addr → Prop) (K : PySem.W.Frag) (H : Hp) (xs : List V) (ds : List PyData) : Prop := xs.length = ds.length ∧ ∀ (i : Nat) (x : V) (d : PyData), xs[i]? = some x → ds[i]? = some d → Dn N K H x d
abbrev Dd (K : PySem.W.Frag) (H : Hp) : V → PyData → Prop := Dn (fun _ => True) K H
abbrev DdAll (K : PySem.W.Frag) (H : Hp) : List V → List PyData → Prop := DnAll (fun _ => True) K H
section
variable {N N' : Addr → Prop} {K : PySem.W.Frag} {H H' : Hp}
theorem SqL.fr {a : Addr} {xs : List V} (h : ∀ o, H a = some o → H' a = some o) (q : SqL K H a xs) : SqL K H' a xs := by
  rcases q with (q | ⟨o, q⟩) | q
  · exact .inl (.inl (h _ q))
  · exact .inl (.inr ⟨o, h _ q⟩)
  · exact .inr q
theorem SqT.fr {a : Addr} {xs : List V} (h : ∀ o, H a = some o → H' a = some o) (q : SqT K H a xs) : SqT K H' a xs := by
  rcases q with (q | ⟨o, q⟩) | q
  · exact .inl (.inl (h _ q))
  · exact .inl (.inr ⟨o, h _ q⟩)
  · exact .inr q
/-- another heap that agrees on N; a wider N -/
theorem Dn.fr (h : ∀ a o, N a → H a = some o → H' a = some o) (n : ∀ a, N a → N' a) {v : V} {d : PyData} (q : Dn N K H v d) : Dn N' K H' v d := by
  induction q with
  | non => exact .non
  | bl b => exact .bl b
  | int i => exact .int i
  | str x => exact .str x
  | lst na hs hl _ ih => exact .lst (n _ na) (SqL.fr (fun o => h _ o na) hs) hl ih
  | tup na hs hl _ ih => exact .tup (n _ na) (SqT.fr (fun o => h _ o na) hs) hl ih
  | dct na hs hl _ ih => exact .dct (n _ na) (h _ _ na hs) hl ih
theorem DnAll.fr (h : ∀ a o, N a → H a = some o → H' a = some o) (n : ∀ a, N a → N' a) {vs : List V} {ds : List PyData} (q : DnAll N K H vs ds) : DnAll N' K H' vs ds := ⟨q.1, fun i x d e1 e2 => (q.2 i x d e1 e2).fr h n⟩
theorem Dn.same (h : Same H H') {v : V} {d : PyData} (q : Dn N K H v d) : Dn N K H' v d := q.fr (fun a o _ e => h a o e) fun _ n => n
theorem DnAll.same (h : Same H H') {vs : List V} {ds : List PyData} (q : DnAll N K H vs ds) : DnAll N K H' vs ds := q.fr (fun a o _ e => h a o e) fun _ n => n
theorem Dn.any {v : V} {d : PyData} (q : Dn N K H v d) : Dd K H v d := q.fr (fun _ _ _ e => e) fun _ _ => trivial
theorem DnAll.any {vs : List V} {ds : List PyData} (q : DnAll N K H vs ds) : DdAll K H vs ds := q.fr (fun _ _ _ e => e) fun _ _ => trivial
theorem DnAll.nil : DnAll N K H [] [] := ⟨rfl, fun _ _ _ e => by simp at e⟩
theorem DnAll.cons {v : V} {vs : List V} {d : PyData} {ds : List PyData} (h : Dn N K H v d) (t : DnAll N K H vs ds) : DnAll N K H (v :: vs) (d :: ds) := ⟨by simp [t.1], fun i x e q1 q2 => by
  cases i with
  | zero =>
    simp at q1 q2
    subst q1 q2
    exact h
  | succ i => exact t.2 i x e (by simpa using q1) (by simpa using q2)⟩
theorem DnAll.head {v : V} {vs : List V} {d : PyData} {ds : List PyData} (h : DnAll N K H (v :: vs) (d :: ds)) : Dn N K H v d := h.2 0 v d rfl rfl
theorem DnAll.tail {v : V} {vs : List V} {d : PyData} {ds : List PyData} (h : DnAll N K H (v :: vs) (d :: ds)) : DnAll N K H vs ds := ⟨by have := h.1; simpa using this, fun i x e q1 q2 => h.2 (i + 1) x e (by simpa using q1) (by simpa using q2)⟩
theorem DnAll.append {vs us : List V} {ds es : List PyData} (h : DnAll N K H vs ds) (t : DnAll N K H us es) : DnAll N K H (vs ++ us) (ds ++ es) := by
  induction vs generalizing ds with
  | nil => cases ds with
    | nil => exact t
    | cons _ _ => exact absurd h.1 (by simp)
  | cons v vs ih => cases ds with
    | nil => exact absurd h.1 (by simp)
    | cons d ds => exact .cons h.head (ih h.tail)
theorem dpAll_of : ∀ {ds : List PyData} {xs : List V}, xs.length = ds.length → (∀ (i : Nat) (x : V) (d : PyData), xs[i]? = some x → ds[i]? = some d → d.hasDict = false → Dp K H x d) → PyData.hasDictAll ds = false → DpAll K H xs ds
  | [], [], _, _, _ => .nil
  | [], _ :: _, hl, _, _ => absurd hl (by simp)
  | _ :: _, [], hl, _, _ => absurd hl (by simp)
  | e :: es, x :: xs, hl, ih, hd => by
    have h2 : e.hasDict = false ∧ PyData.hasDictAll es = false := by simpa only [PyData.hasDictAll, Bool.or_eq_false_iff] using hd
    exact .cons (ih 0 x e rfl rfl h2.1) (dpAll_of (by simpa using hl) (fun i x e q1 q2 => ih (i + 1) x e (by simpa using q1) (by simpa using q2)) h2.2)
/-- the library's predicate, where no dict stands -/
theorem Dn.dp {v : V} {d : PyData} (q : Dn N K H v d) : d.hasDict = false → Dp K H v d := by
  induction q with
  | non => exact fun _ => .non
  | bl b => exact fun _ => .bl b
  | int i => exact fun _ => .int i
  | str x => exact fun _ => .str x
  | lst na hs hl _ ih => exact fun hd => .lst hs (dpAll_of hl ih (by simpa only [PyData.hasDict] using hd))
  | tup na hs hl _ ih => exact fun hd => .tup hs (dpAll_of hl ih (by simpa only [PyData.hasDict] using hd))
  | dct _ _ _ _ _ => exact fun hd => absurd hd (by simp [PyData.hasDict])
end
/-- the module table is a dict -/
def SM (K : PySem.W.Frag) : Prop := ∃ o, K.lookup sysModules = some o ∧ o.cls = .type "dict"
section
variable {X : Cx} {pins : List (Addr × Obj)} {σ : St} {H : Hp} {s : Shared} {N : Addr → Prop}
theorem not_sm (I : Inv X pins σ H s) (h : SM X.K) {a : Addr} {o : Obj} (e : s.heap.get? a = some o) (c : o.cls = .type "list") : a ≠ sysModules := fun z => by
  obtain ⟨om, e2, c2⟩ := h
  have e3 := I.kIn _ _ e2
  rw [← z, e] at e3
  cases e3
  rw [c] at c2
  exact absurd (Value.type.inj c2) (by decide)
theorem readsAll_of {h : Heap} {G : List Addr → Prop} (g0 : G []) (ga : ∀ as bs, G as → G bs → G (as ++ bs)) : ∀ {ds : List PyData} {us : List Value}, us.length = ds.length → (∀ (i : Nat) (u : Value) (d : PyData), us[i]? = some u → ds[i]? = some d → ∃ as, Reads h u d as ∧ G as) →
    ∃ as, ReadsAll h us ds as ∧ G as
  | [], [], _, _ => ⟨[], .nil, g0⟩
  | [], _ :: _, hl, _ => absurd hl (by simp)
  | _ :: _, [], hl, _ => absurd hl (by simp)
  | d :: ds, u :: us, hl, ih => by
    obtain ⟨as, r1, g1⟩ := ih 0 u d rfl rfl
    obtain ⟨bs, r2, g2⟩ := readsAll_of g0 ga (ds := ds) (us := us) (by simpa using hl) fun i u e q1 q2 => ih (i + 1) u e (by simpa using q1) (by simpa using q2)
    exact ⟨as ++ bs, .cons r1 r2, ga _ _ g1 g2⟩
theorem pairs_get {P : Program} {w : World} : ∀ {es : List DictEntry} {vs : List (Key × Value)}, Pairs (mixKind P w) es vs → es.length = vs.length ∧ ∀ (i : Nat) (e : DictEntry) (p : Key × Value), es[i]? = some e → vs[i]? = some p → keyIs p.1 e.key = true ∧ e.val = p.2
  | _, _, .nil => ⟨rfl, fun i e p h => by simp at h⟩
  | _, _, .cons h1 h2 t => ⟨by simp [(pairs_get t).1], fun i e p q1 q2 => by
      cases i with
      | zero =>
        simp at q1 q2
        subst q1 q2
        exact ⟨h1, h2⟩
      | succ i => exact (pairs_get t).2 i e p (by simpa using q1) (by simpa using q2)⟩
theorem KV.get {kvs : List (Key × V)} {vs : List (Key × Value)} (r : KV kvs vs) : ∀ (i : Nat) (p : Key × V) (q : Key × Value), kvs[i]? = some p → vs[i]? = some q → p.1 = q.1 ∧ RelV p.2 q.2 := by
  unfold KV at r
  induction r with
  | nil => intro i p q h; simp at h
  | cons h _ ih =>
    intro i p q e1 e2
    cases i with
    | zero =>
      simp at e1 e2
      subst e1 e2
      exact h
    | succ i => exact ih i p q (by simpa using e1) (by simpa using e2)
theorem Dn.reads (I : Inv X pins σ H s) {v : V} {d : PyData} (q : Dn N X.K H v d) : ∀ u : Value, RelV v u → ∃ as, Reads s.heap u d as ∧ (SM X.K → sysModules ∉ as) := by
  have g0 : SM X.K → sysModules ∉ ([] : List Addr) := fun _ => by simp
  have ga : ∀ as bs : List Addr, (SM X.K → sysModules ∉ as) → (SM X.K → sysModules ∉ bs) → SM X.K → sysModules ∉ as ++ bs := fun as bs h1 h2 sm => by
    rw [List.mem_append]
    exact fun z => z.elim (h1 sm) (h2 sm)
  induction q with
  | non =>
    intro u r
    cases r
    exact ⟨_, .none, g0⟩
  | bl b =>
    intro u r
    cases r
    exact ⟨_, .bool b, g0⟩
  | int i =>
    intro u r
    obtain ⟨t, rfl⟩ := r
    exact ⟨_, .int i t, g0⟩
  | str x =>
    intro u r
    obtain ⟨t, rfl⟩ := r
    exact ⟨_, .str x t, g0⟩
  | @lst a xs ds _ hs hl _ ih =>
    intro u r
    cases r
    obtain ⟨its, rv, ⟨o, n, ho, hc, _, hd⟩, _⟩ := I.list hs
    obtain ⟨as, h1, h2⟩ := readsAll_of (h := s.heap) (G := fun as => SM X.K → sysModules ∉ as) g0 ga (ds := ds) (us := its) (by rw [← rv.length]; exact hl) fun i u d e1 e2 => by
      obtain ⟨x, ex⟩ : ∃ x, xs[i]? = some x := ⟨xs[i]'(by rw [rv.length]; exact (List.getElem?_eq_some_iff.mp e1).1), by simp⟩
      obtain ⟨u', e3, rx⟩ := rv.get ex
      rw [e1] at e3
      cases e3
      exact ih i x d ex e2 u rx
    refine ⟨_, .list ho hc hd h1, fun sm z => ?_⟩
    rcases List.mem_cons.mp z with z | z
    · exact not_sm I sm ho hc z.symm
    · exact h2 sm z
  | @tup a xs ds _ hs hl _ ih =>
    intro u r
    cases r
    obtain ⟨its, rv, ⟨o, ho, hc, n, hd⟩, _⟩ := I.tuple hs
    obtain ⟨as, h1, h2⟩ := readsAll_of (h := s.heap) (G := fun as => SM X.K → sysModules ∉ as) g0 ga (ds := ds) (us := its) (by rw [← rv.length]; exact hl) fun i u d e1 e2 => by
      obtain ⟨x, ex⟩ : ∃ x, xs[i]? = some x := ⟨xs[i]'(by rw [rv.length]; exact (List.getElem?_eq_some_iff.mp e1).1), by simp⟩
      obtain ⟨u', e3, rx⟩ := rv.get ex
      rw [e1] at e3
      cases e3
      exact ih i x d ex e2 u rx
    exact ⟨_, .tuple ho hc hd h1, h2⟩
  | @dct a kvs es _ hs hk _ ih =>
    intro u r
    cases r
    have z : ObjOk X.prog X.w H s.heap a (.dK kvs) := I.hok a _ hs
    obtain ⟨_, hsm, vs, rv, o, dd, ep, ho, hc, hd, _, hp, _⟩ := z
    obtain ⟨l1, get⟩ := pairs_get hp
    have l2 : kvs.length = vs.length := Paired.length rv
    have l3 : kvs.length = es.length := by simpa using congrArg List.length hk
    obtain ⟨as, h1, h2⟩ := readsAll_of (h := s.heap) (G := fun as => SM X.K → sysModules ∉ as) g0 ga (ds := es.map (·.1)) (us := dd.toList.map (·.key)) (by simp only [List.length_map]; omega) fun i u d e1 e2 => by
      have i1 : i < dd.toList.length := by simpa using (List.getElem?_eq_some_iff.mp e1).1
      have i2 : i < vs.length := by omega
      have i3 : i < kvs.length := by omega
      obtain ⟨k1, _⟩ := get i dd.toList[i] vs[i] (by simp) (by simp)
      have k2 := (KV.get rv i kvs[i] vs[i] (by simp) (by simp)).1
      have e3 : u = dd.toList[i].key := by
        rw [List.getElem?_map, List.getElem?_eq_getElem i1] at e1
        exact (Option.some.inj e1).symm
      have e4 : d = keyD kvs[i].1 := by
        have z := congrArg (fun l => l[i]?) hk
        simp only [e2, List.getElem?_map, List.getElem?_eq_getElem i3, Option.map_some] at z
        exact (Option.some.inj z).symm
      rw [e3, e4, k2]
      rcases keyIs_shape k1 with ⟨j, t, q1, q2⟩ | ⟨y, t, q1, q2⟩
      · rw [q1, q2]
        exact ⟨_, .int j t, g0⟩
      · rw [q1, q2]
        exact ⟨_, .str y t, g0⟩
    obtain ⟨bs, h3, h4⟩ := readsAll_of (h := s.heap) (G := fun as => SM X.K → sysModules ∉ as) g0 ga (ds := es.map (·.2)) (us := dd.toList.map (·.val)) (by simp only [List.length_map]; omega) fun i u d e1 e2 => by
      have i1 : i < dd.toList.length := by simpa using (List.getElem?_eq_some_iff.mp e1).1
      have i2 : i < vs.length := by omega
      have i3 : i < kvs.length := by omega
      have i4 : i < es.length := by omega
      obtain ⟨_, k1⟩ := get i dd.toList[i] vs[i] (by simp) (by simp)
      have k2 := (KV.get rv i kvs[i] vs[i] (by simp) (by simp)).2
      have e3 : u = dd.toList[i].val := by
        rw [List.getElem?_map, List.getElem?_eq_getElem i1] at e1
        exact (Option.some.inj e1).symm
      have e4 : d = es[i].2 := by simpa [i4] using e2.symm
      rw [e3, e4, k1]
      exact ih i kvs[i] es[i] (by simp) (by simp) _ k2
    refine ⟨_, .dict ho hc.1 hd h1 h3, fun sm z => ?_⟩
    rw [List.cons_append] at z
    rcases List.mem_cons.mp z with z | z
    · rw [← z] at hsm
      exact absurd hsm (by decide)
    · rcases List.mem_append.mp z with z | z
      · exact h2 sm z
      · exact h4 sm z
/-- repr(x) -/
def rRepr (K : PySem.W.Frag) : List V → Hp → VK → Prop := fun xs H Q => ∃ x d, xs = [x] ∧ Dd K H x d ∧ SM K ∧ d.showable = true ∧ d.depth ≤ 60 ∧ d.shown.length ≤ sizeLine ∧ Q (.str d.shown) H
theorem call_repr (hgd : X.A.guards = some []) (hu : X.A.units + 64 < cLine) : CallR X (.builtin "repr") (rRepr X.K) := by
  intro pins s σ H xs us Q I r h
  obtain ⟨x, d, rfl, hd, sm, hs, hdp, hz, q⟩ := h
  cases r with
  | @cons _ u _ us' rx rr =>
    cases rr
    obtain ⟨as, hr, hsm⟩ := hd.reads I u rx
    cases hd with
    | non =>
      cases rx
      exact PySem.P.repr_of_none ⟨.str _, H, I.tok _, ⟨_, rfl⟩, by simpa only [PyData.shown] using q⟩
    | bl b =>
      cases rx
      exact PySem.P.repr_of_bool ⟨.str _, H, I.tok _, ⟨_, rfl⟩, by simpa only [PyData.shown] using q⟩
    | int i =>
      obtain ⟨t, rfl⟩ := rx
      exact PySem.P.repr_of_int (by simpa only [PyData.showable, decide_eq_true_eq] using hs) ⟨.str _, H, I.tok _, ⟨_, rfl⟩, by simpa only [PyData.shown] using q⟩
    | str y =>
      obtain ⟨t, rfl⟩ := rx
      exact PySem.P.repr_of_str (hsz := by simpa only [PyData.shown] using hz) ⟨.str _, H, I.tok _, ⟨_, rfl⟩, by simpa only [PyData.shown] using q⟩
    | lst _ _ _ _ =>
      cases rx
      exact PySem.repr_of_reads' hr hs (fun _ => hsm sm) hgd (by omega) (fun _ _ e => e) (fun h' v tk hk => ⟨.str _, H, I.kept hk, ⟨_, rfl⟩, q⟩) hz
    | tup _ _ _ _ =>
      cases rx
      exact PySem.repr_of_reads' hr hs (fun _ => hsm sm) hgd (by omega) (fun _ _ e => e) (fun h' v tk hk => ⟨.str _, H, I.kept hk, ⟨_, rfl⟩, q⟩) hz
    | dct _ _ _ _ =>
      cases rx
      exact PySem.repr_of_reads' hr hs (fun _ => hsm sm) hgd (by omega) (fun _ _ e => e) (fun h' v tk hk => ⟨.str _, H, I.kept hk, ⟨_, rfl⟩, q⟩) hz
end
end L2.Fw
/-! the law's end for a promise under known guards; the head's facts by one Bool -/
namespace L2.Fw
open PySem PySem.Spec PyProof.Rows
/-- the abstract heap at the law's entry: the script alone, if it is none of the module's own -/
def scr (a : Addr) (o : Obj) (ns : List Int) : Hp := fun b => if b = a then some (.frz o (.lst (ns.map V.int))) else none
theorem scr_ne {a b : Addr} {o : Obj} {ns : List Int} (h : scr a o ns b ≠ none) : b = a := by
  unfold scr at h
  by_cases e : b = a
  · exact e
  · rw [if_neg e] at h
    exact absurd rfl h
section
variable {P : Program} {w : World} {K : PySem.W.Frag} {mg mb : Str → Option Value} {k : Nat} {fa a : Addr} {fd : FuncData} {x : Str} {sp : Sp} {s : Shared} {vs : List Value} {ns : List Int}
theorem law_from {H : Hp} (KX : K.In s.heap) (hns : s.heap.Ns mainGlobals mg) (hb : s.heap.Ns builtinsNs mb) (hbb : ∀ x : Str, x ≠ "__name__" → mb x = bootBuiltins x) (hlim : s.heap.NoLimit) (hg : s.gens = #[])
    (hO : Only H) (hok : HOk P w H s.heap) (hK : ∀ b, H b ≠ none → K.lookup b = none) (hD : ∀ b o es ep, H b ≠ none → s.heap.get? b = some o → o.data ≠ .dict es ep) (hr : Room k callerA)
    (F : ∀ base : Heap, K.In base → base.Ns mainGlobals mg → FnG P w K mg base k fa fd [x] sp) (hbind : ∀ (s : Shared) (u : Value), BindsTo s fd ⟨[u], []⟩ [(x, u)]) (hsp : sp [.ref a] H (fun v _ => v = .bl true) E0) :
    codeAny (model P w) callerA (.call (.ref fa) ⟨[.ref a], []⟩) (fun r s' => r = .ok (.ret (.bool true)) ∧ OldK s.heap s'.heap ∧ s'.os = s.os ∧ AllBare s'.gens) s := by
  have inB : ∀ {b : Addr} {o : Obj}, s.heap.get? b = some o → H b = none → (hidT s.heap H).get? b = some o := fun e n => hidT_get e n
  have free : ∀ {b : Addr} {o : Obj} {es : Array DictEntry} {ep : Nat}, s.heap.get? b = some o → o.data = .dict es ep → H b = none := fun {b o es ep} e d => by
    cases q : H b with
    | none => rfl
    | some u => exact absurd d (hD b o es ep (by rw [q]; simp) e)
  have nsB : ∀ {b : Addr} {m : Str → Option Value}, s.heap.Ns b m → (hidT s.heap H).Ns b m := fun {b m} ⟨o, es, ep, e, d, r⟩ => ⟨o, es, ep, inB e (free e d), d, r⟩
  have KB : K.In (hidT s.heap H) := fun b o e => inB (KX b o e) (by
    cases q : H b with
    | none => rfl
    | some u =>
      rw [hK b (by rw [q]; simp)] at e
      cases e)
  have M : Mod K mg (hidT s.heap H) := ⟨KB, nsB hns, ⟨mb, nsB hb, hbb⟩, let ⟨mc, h1, h2⟩ := hlim; ⟨mc, nsB h1, h2⟩⟩
  have e0 : Env0 P w K mg (hidT s.heap H) callerA [] s H := ⟨rfl, M, fun b o e => of_hidT e, Nat.le_of_eq (hidT_size _ _), trivial, fun b hb => absurd (show b ∈ ([] : List Addr) from hb) (by simp), hok, .of_eq hg⟩
  refine codeAny_mono ((F _ KB (nsB hns)).run (us := [.ref a]) (vs := [.ref a]) rfl hr e0 (hbind s (.ref a)) (.cons rfl .nil) hsp) fun r s' h => ?_
  cases r with
  | error e => exact (show False by obtain ⟨_, _, _, _, _, _, _, _, _, _, _, _, z⟩ := h; exact z.elim).elim
  | ok fl => cases fl with
    | ret u =>
      obtain ⟨v, H', os, bare, un, hok', r', q⟩ := h
      obtain rfl : v = .bl true := q
      obtain rfl : u = Value.bool true := r'
      refine ⟨rfl, OldK.of_keep fun b o e => ?_, os, bare⟩
      rcases hO b with q | ⟨ob, xs, q⟩
      · exact un.keep b o e q (fun z => absurd (show b ∈ ([] : List Addr) from z) (by simp)) (by simp)
      · obtain ⟨e1, _⟩ := hok b _ q
        obtain ⟨e2, _⟩ := hok' b _ (un.frzs b ob _ q)
        rw [e] at e1
        cases e1
        exact e2
    | _ => exact False.elim h
theorem law_callG (KX : K.In s.heap) (hns : s.heap.Ns mainGlobals mg) (hb : s.heap.Ns builtinsNs mb) (hbb : ∀ x : Str, x ≠ "__name__" → mb x = bootBuiltins x) (hlim : s.heap.NoLimit) (hg : s.gens = #[])
    (ha : s.heap.get? a = some { cls := .type "list", data := .seq vs.toArray }) (hi : IntsAre vs ns) (hl : ns.length ≤ sizeLine) (hr : Room k callerA)
    (F : ∀ base : Heap, K.In base → base.Ns mainGlobals mg → FnG P w K mg base k fa fd [x] sp) (hbind : ∀ (s : Shared) (u : Value), BindsTo s fd ⟨[u], []⟩ [(x, u)])
    (hsp : ∀ H : Hp, Only H → SqL K H a (ns.map V.int) → sp [.ref a] H (fun v _ => v = .bl true) E0) :
    codeAny (model P w) callerA (.call (.ref fa) ⟨[.ref a], []⟩) (fun r s' => r = .ok (.ret (.bool true)) ∧ OldK s.heap s'.heap ∧ s'.os = s.os ∧ AllBare s'.gens) s := by
  have rv := vals_ints hi
  cases hk : K.lookup a with
  | some o =>
    have e := KX a o hk
    rw [ha] at e
    cases e
    have O : Only fun _ => none := fun _ => .inl rfl
    exact law_from (H := fun _ => none) KX hns hb hbb hlim hg O (fun b u z => nomatch z) (fun b z => absurd rfl z) (fun b _ _ _ z => absurd rfl z) hr F hbind
      (hsp _ O (.inr ⟨_, vs.toArray, _, hk, rfl, rfl, rfl, by rw [List.size_toArray, hi.length]; exact hl, by simpa using rv⟩))
  | none =>
    have at_ : scr a { cls := .type "list", data := .seq vs.toArray } ns a = some (.frz { cls := .type "list", data := .seq vs.toArray } (.lst (ns.map V.int))) := if_pos rfl
    have O : Only (scr a { cls := .type "list", data := .seq vs.toArray } ns) := fun b => by
      by_cases e : b = a
      · exact .inr ⟨_, _, by rw [e]; exact at_⟩
      · exact .inl (if_neg e)
    refine law_from KX hns hb hbb hlim hg O (fun b u z => ?_) (fun b z => by rw [scr_ne z]; exact hk) (fun b o es ep z e => ?_) hr F hbind (hsp _ O (.inl (.inr ⟨_, at_⟩)))
    · have e : b = a := scr_ne (by rw [z]; simp)
      subst e
      rw [at_] at z
      cases z
      exact ⟨ha, by rw [List.length_map]; exact hl, vs, _, rv, ha⟩
    · rw [scr_ne z, ha] at e
      cases e
      simp
end
/-- a law whose def keeps sp: the goal that the head leaves -/
theorem walk_ofG {l : PySem.W.OpenLaw} {n k : Nat} {q : Program} {loose : List Str} {XP : (Str → Option Value) → Heap → Prop} {YP : World → Heap → Prop} {d : DefRec} {x : Str}
    (hn : l.most = some n) (hn2 : n ≤ sizeLine) (hdf : d.params.defaults = []) (hr : Room k callerA)
    (F : ∀ (w : World) (mg : Str → Option Value) (fa : Addr) (h : Heap), YP w h → h.Ns mainGlobals mg → mg d.name = some (.ref fa) →
      ∃ (K : PySem.W.Frag) (fd : FuncData) (sp : Sp), K.In h ∧ (∀ (s : Shared) (u : Value), BindsTo s fd ⟨[u], []⟩ [(x, u)]) ∧
        (∀ (H : Hp) (a : Addr) (ns : List Int), ns.length ≤ n → Only H → SqL K H a (ns.map V.int) → sp [.ref a] H (fun v _ => v = .bl true) E0) ∧
        ∀ base : Heap, K.In base → base.Ns mainGlobals mg → FnG l.prog w K mg base k fa fd [x] sp) :
    PySem.W.WalkO q loose XP YP l.row.toRowW d [] (fun f vs => PySem.call f vs) := by
  refine Att.attach_call hn hdf fun w s₀ s₁ mg mb fa o pm cd doc a vs ns G Y ho hd hcd hmg hobj hints hlen hg => ?_
  obtain ⟨K, fd, sp, KX, hb, hsp, hF⟩ := F w mg fa _ Y G.T.g hmg
  exact law_callG KX G.T.g G.T.b G.T.builtins G.T.nolimit hg hobj hints (Nat.le_trans hlen hn2) hr hF hb fun H hO hS => hsp H a ns hlen hO hS

/-! ### the head: defs by names, and one Bool of the written part -/
def obK (chk : PySem.W.Frag → Bool) (fn : List He.DefD) (K : PySem.W.Frag) : He.AlD := (chk K && fn.all fun d => d.ok K, fn.map fun d => He.fnW K d.at_)
def SayK (chk : PySem.W.Frag → Bool) (fn : List He.DefD) (K : PySem.W.Frag) : Prop := obK chk fn K = He.valD fn
/-- the addresses that are looked at: what the module's names reach in n steps, and the module table -/
def adK (g : Addr → Option Obj) (n : Nat) : List Addr := sysModules :: He.asD g n
def obG (n : Nat) (chk : PySem.W.Frag → Bool) (fn : List He.DefD) (g : Addr → Option Obj) : He.AlD := obK chk fn (He.frG g (adK g n))
def hookK (n : Nat) (chk : PySem.W.Frag → Bool) (fn : List He.DefD) : PySem.W.Hook where
  α := He.AlD
  obs := fun s => obG n chk fn s.heap.get?
  val := fun _ => He.valD fn
  says := fun _ h => ∃ K : PySem.W.Frag, K.In h ∧ SayK chk fn K
  of := fun _ _ e => ⟨_, He.frG_in, e⟩
  keeps := fun _ _ _ ⟨K, hK, c⟩ k => ⟨K, PySem.W.Frag.In.keeps hK k, c⟩
theorem obG_eq {n : Nat} {chk : PySem.W.Frag → Bool} {fn : List He.DefD} {g : Addr → Option Obj} {s : Shared} (h : ∀ a, g a = s.heap.get? a) : obG n chk fn g = (hookK n chk fn).obs s := by
  have e : g = s.heap.get? := funext h
  rw [e] <;> rfl
section
variable {chk : PySem.W.Frag → Bool} {fn : List He.DefD} {K : PySem.W.Frag}
theorem SayK.ok (c : SayK chk fn K) : chk K = true := (Bool.and_eq_true_iff.mp (show (chk K && fn.all fun d => d.ok K) = true from congrArg (fun z : He.AlD => z.1) c)).1
theorem SayK.fd (c : SayK chk fn K) (i : Nat) {d : He.DefD} (h : fn[i]? = some d := by rfl) : ∃ fd, FunD K d.name d.qual d.params d.body d.scope (d.dvs K) (d.kws K) (He.fAd K d.at_) fd := by
  have c2 := (Bool.and_eq_true_iff.mp (show (chk K && fn.all fun d => d.ok K) = true from congrArg (fun z : He.AlD => z.1) c)).2
  have e : fn.map (fun d => He.fnW K d.at_) = fn.map He.DefD.val := congrArg (fun z : He.AlD => z.2) c
  have e2 : (fn.map fun d => He.fnW K d.at_)[i]? = (fn.map He.DefD.val)[i]? := by rw [e]
  rw [List.getElem?_map, List.getElem?_map, h] at e2
  exact He.DefD.funD (Option.some.inj e2) (List.all_eq_true.mp c2 d (List.mem_of_getElem? h))
end
end L2.Fw
/-! own exception classes: their facts by one Bool, their __init__ -/
namespace L2.Fw
open PySem PySem.Spec PyProof.Rows
def oexB (K : PySem.W.Frag) (C : Addr) : Bool := (match K.lookup C with
  | some ⟨.type "type", _, .cls cd, sl⟩ => (match cd.mro, sl.toList with
    | .ref C' :: bm, [_, _, _, _, some (.builtin n), _] => C' == C && n == "ValueError.__new__" && !cd.hasDel && cd.hasDict && PySem.HandSPX.refsVE bm
    | _, _ => false)
  | _ => false) && decide (PySem.W.findIn K (.ref C) "__setattr__" = some (some (.builtin "object.__setattr__"))) && decide (PySem.W.subIn K (.ref C) (.type "BaseException") = some true) &&
  decide (PySem.W.typeIn K (.ref C) = some (.type "type")) && PySem.W.keepIn K (.ref C)
theorem oexB_ok {K : PySem.W.Frag} {C : Addr} (h : oexB K C = true) : OexC K C := by
  unfold oexB at h
  simp only [Bool.and_eq_true, decide_eq_true_eq] at h
  obtain ⟨⟨⟨⟨q, h1⟩, h2⟩, h3⟩, h4⟩ := h
  refine ⟨?_, h1, h2, h3, h4⟩
  split at q
  · rename_i dd cd sl ho
    split at q
    · rename_i C' bm k0 k1 k2 k3 n k5 hm hs
      simp only [Bool.and_eq_true, beq_iff_eq, Bool.not_eq_true'] at q
      obtain ⟨⟨⟨⟨rfl, rfl⟩, hdel⟩, hd⟩, hb⟩ := q
      obtain ⟨nm, bs, mro, ns, qn, hdct, sn, sub, ab, col, del⟩ := cd
      dsimp only at hm hdel hd
      subst hm hdel hd
      have hsl : sl = #[k0, k1, k2, k3, some (.builtin "ValueError.__new__"), k5] := by
        obtain ⟨l⟩ := sl
        simp only at hs
        rw [hs]
      subst hsl
      exact ⟨nm, qn, ns, bs, bm, sn, sub, ab, col, dd, k0, k1, k2, k3, k5, ho, hb⟩
    · cases q
  · cases q
section
variable {P : Program} {w : World} {K : PySem.W.Frag} {mg : Str → Option Value} {base : Heap} {fI : Addr} {fd : FuncData} {f qual : Str} {p1 p2 p3 p4 p5 p6 : Pos} {e : Expr} {sc : Scope}
abbrev iniArgs (f : Str) (p5 p6 : Pos) (e : Expr) : Arguments := { posonlyargs := [], args := [{ arg := "self", annotation := none, pos := p5 }, { arg := f, annotation := none, pos := p6 }], vararg := none, kwonlyargs := [], kw_defaults := [], kwarg := none, defaults := [e] }
abbrev iniBody (f : Str) (p1 p2 p3 p4 : Pos) : List Stmt := [.Assign [.Attribute (.Name "self" p1) f p2] (.Name f p3) p4]
theorem ini_ok {pa : Arguments} {dvs : List V} {kws : List (Str × V)} (F : FunD K "__init__" qual pa (iniBody f p1 p2 p3 p4) sc dvs kws fI fd) (S : FnScope ["self", f] ["self", f] sc) (hd : (f == ("__debug__" : Str)) = false) (hcd : (f == ("__classdict__" : Str)) = false) :
    FnOk P w K mg base (L2.CX P w) 1 fI fd ["self", f] (spXI K f) := by
  refine F.ok S (fun vs H Q E h => ?_) (fun cdv A outer s H vs Q E hr h => ⟨_, pss_one (ps_ost (pe_var (i := 0) rfl (vis_par S List.mem_cons_self)) (pe_var (i := 1) rfl (vis_par S (List.mem_cons_of_mem _ List.mem_cons_self)) hd hcd)), ?_⟩)
  · obtain ⟨a, C, v, rfl, _⟩ := h
    rfl
  · obtain ⟨a, C, v, rfl, T, no, ea, q⟩ := h
    exact ⟨v, rfl, .ref a, rfl, a, C, rfl, T, no, .inl ⟨ea, q⟩⟩
theorem ini_b2_value (F : FunD K "__init__" qual (iniArgs "value" p5 p6 e) (iniBody "value" p1 p2 p3 p4) sc [.non] [] fI fd) : ∃ g, KBn K fd ["self", "value"] 2 [] g fun vs _ => vs := by
  obtain ⟨its, b⟩ := F.kbindsD (ps := ["self", "value"]) 2 [] (fun vs _ _ => vs) (by simp) (fun r _ _ => r) fun T kV doc pm an cdv ct us its ws h1 h2 h3 => by
    match us, its, ws, h1, h2, h3 with
    | [u, v], [d], [], _, _, _ => exact ⟨_, rfl, rfl⟩
  exact ⟨_, b⟩
theorem ini_b1_value (F : FunD K "__init__" qual (iniArgs "value" p5 p6 e) (iniBody "value" p1 p2 p3 p4) sc [.non] [] fI fd) : ∃ g, KBn K fd ["self", "value"] 1 [] g fun vs _ => vs ++ [.non] := by
  obtain ⟨its, b⟩ := F.kbindsD (ps := ["self", "value"]) 1 [] (fun vs ds _ => vs ++ ds) (by simp) (fun r q _ => r.append q) fun T kV doc pm an cdv ct us its ws h1 h2 h3 => by
    match us, its, ws, h1, h2, h3 with
    | [u], [d], [], _, _, _ => exact ⟨_, rfl, rfl⟩
  exact ⟨_, b⟩
theorem ini_bk_value (F : FunD K "__init__" qual (iniArgs "value" p5 p6 e) (iniBody "value" p1 p2 p3 p4) sc [.non] [] fI fd) : ∃ g, KBn K fd ["self", "value"] 1 ["value"] g fun vs zs => vs ++ zs := by
  obtain ⟨its, b⟩ := F.kbindsD (ps := ["self", "value"]) 1 ["value"] (fun vs _ zs => vs ++ zs) (by simp) (fun r _ z => r.append z) fun T kV doc pm an cdv ct us its ws h1 h2 h3 => by
    match us, its, ws, h1, h2, h3 with
    | [u], [d], [z], _, _, _ => exact ⟨_, rfl, rfl⟩
  exact ⟨_, b⟩
theorem ini_b2_name (F : FunD K "__init__" qual (iniArgs "name" p5 p6 e) (iniBody "name" p1 p2 p3 p4) sc [.non] [] fI fd) : ∃ g, KBn K fd ["self", "name"] 2 [] g fun vs _ => vs := by
  obtain ⟨its, b⟩ := F.kbindsD (ps := ["self", "name"]) 2 [] (fun vs _ _ => vs) (by simp) (fun r _ _ => r) fun T kV doc pm an cdv ct us its ws h1 h2 h3 => by
    match us, its, ws, h1, h2, h3 with
    | [u, v], [d], [], _, _, _ => exact ⟨_, rfl, rfl⟩
  exact ⟨_, b⟩
theorem ini_b1_name (F : FunD K "__init__" qual (iniArgs "name" p5 p6 e) (iniBody "name" p1 p2 p3 p4) sc [.non] [] fI fd) : ∃ g, KBn K fd ["self", "name"] 1 [] g fun vs _ => vs ++ [.non] := by
  obtain ⟨its, b⟩ := F.kbindsD (ps := ["self", "name"]) 1 [] (fun vs ds _ => vs ++ ds) (by simp) (fun r q _ => r.append q) fun T kV doc pm an cdv ct us its ws h1 h2 h3 => by
    match us, its, ws, h1, h2, h3 with
    | [u], [d], [], _, _, _ => exact ⟨_, rfl, rfl⟩
  exact ⟨_, b⟩
theorem ini_bk_name (F : FunD K "__init__" qual (iniArgs "name" p5 p6 e) (iniBody "name" p1 p2 p3 p4) sc [.non] [] fI fd) : ∃ g, KBn K fd ["self", "name"] 1 ["name"] g fun vs zs => vs ++ zs := by
  obtain ⟨its, b⟩ := F.kbindsD (ps := ["self", "name"]) 1 ["name"] (fun vs _ zs => vs ++ zs) (by simp) (fun r _ z => r.append z) fun T kV doc pm an cdv ct us its ws h1 h2 h3 => by
    match us, its, ws, h1, h2, h3 with
    | [u], [d], [z], _, _, _ => exact ⟨_, rfl, rfl⟩
  exact ⟨_, b⟩
theorem ini_bn_value (F : FunD K "__init__" qual (iniArgs "value" p5 p6 e) (iniBody "value" p1 p2 p3 p4) sc [.non] [] fI fd) : Binds K fd ["self", "value"] [] := by
  obtain ⟨ds, h, b⟩ := F.binds1 (ps := ["self", "value"]) 2 1 (by simp) rfl fun T kV doc pm an cdv ct us its h1 h2 => by
    match us, its, h1, h2 with
    | [u, v], [d], _, _ => exact ⟨_, rfl, rfl⟩
  cases h
  exact b
theorem ini_bn_name (F : FunD K "__init__" qual (iniArgs "name" p5 p6 e) (iniBody "name" p1 p2 p3 p4) sc [.non] [] fI fd) : Binds K fd ["self", "name"] [] := by
  obtain ⟨ds, h, b⟩ := F.binds1 (ps := ["self", "name"]) 2 1 (by simp) rfl fun T kV doc pm an cdv ct us its h1 h2 => by
    match us, its, h1, h2 with
    | [u, v], [d], _, _ => exact ⟨_, rfl, rfl⟩
  cases h
  exact b
end
end L2.Fw
/-! own exception classes by name; C() without an own __init__; try .. except that keeps the exception -/
namespace L2.Fw
open PySem PySem.Spec PyProof.Rows
def xcB (f : Str) (K : PySem.W.Frag) (x : Str) : Bool := decide (PySem.W.nsIn K mainGlobals x = some (some (.ref (He.ga K x)))) && oexB K (He.ga K x) && ecB K (He.ga K x) && decide (PySem.W.findIn K (.ref (He.ga K x)) f = some none) &&
  decide (PySem.W.findIn K (.ref (He.ga K x)) "__init__" = some (some (.ref (He.ma K (He.ga K x) "__init__")))) && decide (PySem.W.typeIn K (.ref (He.ma K (He.ga K x) "__init__")) = some (.type "function"))
section
variable {P : Program} {w : World} {K : PySem.W.Frag} {h : Heap} {mg : Str → Option Value} {base : Heap} {x qual : Str} {fd : FuncData} {p1 p2 p3 p4 p5 p6 : Pos} {e : Expr} {sc : Scope}
theorem xc_value (X : K.In h) (G : h.Ns mainGlobals mg) (c : xcB "value" K x = true) (F : FunD K "__init__" qual (iniArgs "value" p5 p6 e) (iniBody "value" p1 p2 p3 p4) sc [.non] [] (He.fAd K (x, some "__init__")) fd) (S : FnScope ["self", "value"] ["self", "value"] sc) :
    XC P w K mg base x "value" (He.ga K x) 1 := by
  unfold xcB at c
  simp only [Bool.and_eq_true, decide_eq_true_eq] at c
  obtain ⟨⟨⟨⟨⟨c1, c2⟩, c3⟩, c4⟩, c5⟩, c6⟩ := c
  exact ⟨PySem.W.mg_of X G c1, oexB_ok c2, ecB_ok c3, c4, _, fd, c5, c6, ini_ok F S (by decide) (by decide), ini_b2_value F, ini_bk_value F, ini_b1_value F, ini_bn_value F⟩
theorem xc_name (X : K.In h) (G : h.Ns mainGlobals mg) (c : xcB "name" K x = true) (F : FunD K "__init__" qual (iniArgs "name" p5 p6 e) (iniBody "name" p1 p2 p3 p4) sc [.non] [] (He.fAd K (x, some "__init__")) fd) (S : FnScope ["self", "name"] ["self", "name"] sc) :
    XC P w K mg base x "name" (He.ga K x) 1 := by
  unfold xcB at c
  simp only [Bool.and_eq_true, decide_eq_true_eq] at c
  obtain ⟨⟨⟨⟨⟨c1, c2⟩, c3⟩, c4⟩, c5⟩, c6⟩ := c
  exact ⟨PySem.W.mg_of X G c1, oexB_ok c2, ecB_ok c3, c4, _, fd, c5, c6, ini_ok F S (by decide) (by decide), ini_b2_name F, ini_bk_name F, ini_b1_name F, ini_bn_name F⟩
end
section
variable {X : Cx} {C : Addr} {bmB : List Value} {B newId initId : String} {x : Str} {p pos : Pos}
/-- C(), a class without own __init__ -/
def tMkn (C : Addr) : TE := fun _ H Q => ∀ a, H a = none → Q (.ref a) (upd H a (exv a C none))
theorem pe_mkn (F : ExcBaseFacts B newId initId bmB) (q : PySem.W.excIn X.K C bmB newId = true) (gC : X.mg x = some (.ref C)) (kC : PySem.W.keepIn X.K (.ref C) = true) (hg : Gl X x) (hdb : (x == ("__debug__" : Str)) = false := by decide) :
    PE X (.Call (.Name x p) [] [] pos) (tMkn C) := by
  refine ⟨fun pins s σ H Q I h => ?_⟩
  refine wpAny_Call_Name_kw (ld_glob I hg gC ?_ hdb)
  refine PySem.W.callWith_K0 I.kIn kC ?_
  obtain ⟨bm, N, nm, qn, bs, hdct, sn, sub, ab, col, dd, k0, k1, k2, k3, k5, mN, hC, hN, hni, T⟩ := exc_obj I.kIn q
  refine wpAny_call_exc_subT F T hC hN hni (fun h' a hm => ?_) (by show 0 ≤ sizeLine; exact Nat.zero_le _)
  have hn : H a = none := I.hok.gone hm.new
  obtain ⟨t, ht, _, _⟩ := hm.there
  exact ⟨.ref a, upd H a (exv a C none), I.laidN hm.keeps hm.new hn (exv_ok ht ⟨rfl, rfl⟩ rfl), rfl, h a hn⟩
end
/-! ### an untracked thing of the body's own is tracked from here on -/
section
variable {X : Cx} {pins : List (Addr × Obj)} {σ : St} {H : Hp} {s : Shared}
theorem HOk.track {P : Program} {w : World} {h : Heap} {a : Addr} {o : HO} (x : HOk P w H h) (n : H a = none) (new : ObjOk P w (upd H a o) h a o) : HOk P w (upd H a o) h := fun b u e => by
  by_cases hb : b = a
  · subst hb
    rw [upd_same] at e
    cases e
    exact new
  · rw [upd_ne hb] at e
    exact (x b u e).stay (fun _ _ _ q => q) (fun c q => by rw [upd_ne (ne_of_none q n)]; exact q) fun c xs q => by rw [upd_ne (ne_of_none q n)]; exact q
theorem Inv.track {a : Addr} {o : HO} (I : Inv X pins σ H s) (n : H a = none) (n0 : X.s_0.heap.get? a = none) (nl : a ≠ X.env.locals) (nc : ∀ x c, X.env.cells.lookup x = some c → c ≠ a) (np : ∀ p ∈ X.pn ++ pins, p.1 ≠ a) (new : ObjOk X.prog X.w (upd H a o) s.heap a o) :
    Inv X pins σ (upd H a o) s := by
  have ne0 : ∀ b u, X.s_0.heap.get? b = some u → b ≠ a := fun b u e z => by
    rw [z, n0] at e
    cases e
  have up : ∀ {b u}, H b = some u → upd H a o b = some u := fun {b u} e => by rw [upd_ne (ne_of_none e n)]; exact e
  refine ⟨I.ok, I.os, I.bare, ⟨I.base.keep, I.base.slot, fun b u e m hx => ?_, I.base.there, fun b xs e => up (I.base.tups b xs e), fun b ob u e => up (I.base.frzs b ob u e), fun b ps e => ?_⟩, I.loc, I.cell, ?_, fun x c e => ?_, fun q hq => ?_, HOk.track I.hok n new, I.len⟩
  · rw [upd_ne (ne0 b u e)]
    exact I.base.free b u e m hx
  · obtain ⟨m, q⟩ := I.base.tbls b ps e
    exact ⟨m, up q⟩
  · rw [upd_ne (Ne.symm nl)]
    exact I.free
  · rw [upd_ne (nc x c e)]
    exact I.freeC x c e
  · obtain ⟨e1, e2, e3⟩ := I.pin q hq
    exact ⟨e1, by rw [upd_ne (np q hq)]; exact e2, e3⟩
end
/-- what «except x as n» wishes where the exception stays: it is tracked, at a; slot i is n's -/
def wKeep (K : PySem.W.Frag) (c : Value) (i : Nat) (ts : TS) (Wout : WX) (D : Ends) : WX := fun cls d σ H =>
  ∃ b, PySem.W.exmOne K cls c = some b ∧ (b = true → ∃ C, cls = .ref C ∧ ∀ a, H a = none → ts { nx := fun σ' H' => D.nx (σ'.set i none) H', rt := D.rt, bk := fun σ' H' => D.bk (σ'.set i none) H', ct := fun σ' H' => D.ct (σ'.set i none) H' } (σ.set i (some (.ref a))) (upd H a (exv a C d))) ∧
    (b = false → Wout cls d σ H)
section
variable {X : Cx} {x n : Str} {c : Value} {i : Nat} {body suite : List Stmt} {b₀ : Stmt} {np pos pos' : Pos} {tb : WX → TS} {ts : TS} {Wout : WX}
theorem ps_try_keep (hs : X.stack = X.env :: X.outer) (hf : X.env.frame = some X.env.locals) (hx : X.ex = []) (hN : X.N.Nodup) (hi : X.N[i]? = some n) (hln : X.env.kindOf n = some .local) (hc : Names X x c) (tk : Takes X Wout)
    (hb : ∀ (W : WX) (pn : List (Addr × Obj)) (xe : Value → Shared → Prop), Takes (X.tr pn xe) W → PassesOwn (model X.prog X.w) X.A X.env xe → PSs (X.tr pn xe) body (tb W))
    (hsu : ∀ (a : Addr) (pn : List (Addr × Obj)), PSs (X.suite a pn) (b₀ :: suite) ts) :
    PS X (.Try body [.ExceptHandler (some (.Name x np)) (some n) (b₀ :: suite) pos'] [] [] pos) (fun D σ H => tb (wKeep X.K c i ts Wout D) D σ H) := by
  refine ⟨fun pins s σ H D I h => ?_⟩
  have ok := I.ok
  have hfr : X.A.frames = some (X.env :: X.outer) := by rw [ok.frames, hs]
  refine wpAny_Try_except ?_
  refine wpAny_mono ((hb (wKeep X.K c i ts Wout D) (X.pn ++ pins) (fun e s₁ => wpAny (model X.prog X.w) X.A (noteFrame e X.env) (fun _ s₂ => wpAny (model X.prog X.w) X.A (setFlight e none) (fun _ s₃ =>
    wpAny (model X.prog X.w) X.A (handleBy e X.env [.ExceptHandler (some (.Name x np)) (some n) (b₀ :: suite) pos']) (SP X pins D) X.xe s₃) X.xe s₂) X.xe s₁) (fun u s' xx => ?_) PassesOwn.looking).run [] s σ H D (I.toTry _) h) (fun f s1 hsp => ?_) (fun e s1 he => he)
  · obtain ⟨a, B, sI, pins', σ', H', cls, d, rfl, J', nb, up, sky, na, os, ag, b, hb1, hyes, hno⟩ := xx
    have J : Inv X pins σ' H' sI := J'.ofTry ok
    have sky' : Sky B (X.env :: X.outer) a (Zc cls d) X.env.locals s'.heap := by rw [← hs]; exact sky
    show wpAny (model X.prog X.w) X.A (noteFrame (.ref a) X.env) _ _ _
    refine Sky.land Zc.steady hfr hf sky' fun h3 fl3 up3 => ?_
    have J3 : Inv X pins σ' H' { s' with heap := h3 } := J.landed nb fl3.1 (up.trans up3) os ag
    obtain ⟨oe3, vs3, he3, hz3, hd3⟩ := fl3.there
    have notFr : ∀ {h : Heap} {o : Obj} {vs : Array Value}, h.FunFrames B (X.env :: X.outer) → h.get? a = some o → o.data = .fields vs → a ∉ frs (X.env :: X.outer) := fun {h o vs} ff e dd hm => by
      obtain ⟨_, o', e', hnf⟩ := ff.mem hm
      rw [e] at e'
      cases e'
      exact hnf _ dd
    have nfr := notFr fl3.2.2.1 he3 hd3
    have nL : a ≠ X.env.locals := fun z => nfr (List.mem_filterMap.mpr ⟨X.env, List.mem_cons_self, by rw [hf, z]⟩)
    have nF : a ∉ X.fs := fun hm => by
      obtain ⟨e, he, q⟩ := List.mem_filterMap.mp hm
      exact nfr (List.mem_filterMap.mpr ⟨e, List.mem_cons_of_mem _ he, q⟩)
    -- it is none of what stood at the entry
    have n0 : X.s_0.heap.get? a = none := by
      cases q : X.s_0.heap.get? a with
      | none => rfl
      | some o =>
        obtain ⟨o1, q1⟩ := J.base.there a o q (by rw [hx]; exact fun z => nomatch z)
        have q2 := nb a o1 q1 (by rw [hs]; exact nfr)
        rw [fl3.2.1] at q2
        cases q2
    have nC : ∀ {h : Heap}, Inv X pins σ' H' { s' with heap := h } → ∀ {o : Obj} {vs : Array Value}, h.get? a = some o → o.data = .fields vs → ∀ y c', X.env.cells.lookup y = some c' → c' ≠ a := fun {h} JJ {o vs} e dd y c' ec z => by
      obtain ⟨v, o', e', dd'⟩ := JJ.cell y c' ec
      rw [z] at e'
      have e2 : h.get? a = some o' := e'
      rw [e] at e2
      cases e2
      rw [dd] at dd'
      cases dd'
    have nP : ∀ p ∈ X.pn ++ pins, p.1 ≠ a := fun p hp z => by
      obtain ⟨e1, _⟩ := J.pin p hp
      rw [z] at e1
      have q2 := nb a _ e1 (by rw [hs]; exact nfr)
      rw [fl3.2.1] at q2
      cases q2
    have S3 := J3.suite he3 hd3 na nL nF
    refine wpAny_handleBy_cons (codeAny_handlers_test ?_) (by intro q; cases q)
    have LT : PySem.W.Looks (model X.prog X.w) h3 (typeOf (.ref a)) cls := fun A Q E s k q => wpAny_typeOf_ref (k _ _ he3) (by rw [hz3.1]; exact q)
    have LM := PySem.W.exm_one (M := model X.prog X.w) (J3.kIn) LT hb1
    have test : ∀ {Q : Value → Shared → Prop} {E : Value → Shared → Prop}, Q c { s' with heap := h3 } → wpAny (model X.prog X.w) (X.A.mark (some (.ref a))) (eval (.Name x np) X.env) Q E { s' with heap := h3 } := fun {Q E} q => by
      obtain ⟨hg, hdbg, hm | ⟨hm, hv, hnn⟩⟩ := hc
      · exact ld_glob (X := X.suite a ((a, oe3) :: (X.pn ++ pins))) S3 hg hm q hdbg
      · exact ld_blt (X := X.suite a ((a, oe3) :: (X.pn ++ pins))) S3 hg hm hv q hnn hdbg
    refine test (LM.here ?_)
    cases b with
    | true =>
      refine codeAny_handlers_suite_as ?_
      refine HandSPX.lands_againZ fl3 fun h4 fl4 up4 => ?_
      have J4 : Inv X pins σ' H' { s' with heap := h4 } := J.landed nb fl4.1 ((up.trans up3).trans up4) os ag
      obtain ⟨oe4, vs4, he4, hz4, hd4⟩ := fl4.there
      obtain ⟨C, rfl, hyq⟩ := hyes rfl
      have J5 : Inv X pins σ' (upd H' a (exv a C d)) { s' with heap := h4 } := Inv.track J4 na n0 nL (nC J4 he4 hd4) nP (exv_ok he4 hz4 hd4)
      have S5 : Inv (X.suite a (X.pn ++ pins)) [] σ' (upd H' a (exv a C d)) { s' with heap := h4 } :=
        ⟨J5.ok.suite _ _, J5.os, J5.bare, J5.base, J5.loc, J5.cell, J5.free, J5.freeC, fun p hp => J5.pin p (by rw [List.append_nil] at hp; exact hp), J5.hok, J5.len⟩
      refine store_ok (X := X.suite a (X.pn ++ pins)) (v := .ref a) S5 hN hi (.inl hln) rfl (fun s6 S6 => ?_) (.inr hln)
      refine wpAny_mono ((hsu a (X.pn ++ pins)).run [] s6 _ _ _ S6 (hyq a na)) (fun f s7 hsp => ?_) (fun _ _ z => False.elim z)
      have back : ∀ {σ7 : St} {H7 : Hp}, Inv (X.suite a (X.pn ++ pins)) [] σ7 H7 s7 → Inv X pins σ7 H7 s7 := fun {σ7 H7} S7 =>
        ⟨ok, S7.os, S7.bare, S7.base, S7.loc, S7.cell, S7.free, S7.freeC, fun p hp => S7.pin p (List.mem_append_left _ hp), S7.hok, S7.len⟩
      cases f with
      | next =>
        obtain ⟨σ7, H7, S7, q7⟩ := hsp
        exact gone_ok (back S7) hN hi hln fun s8 J8 => ⟨_, _, J8, q7⟩
      | brk =>
        obtain ⟨σ7, H7, S7, q7⟩ := hsp
        exact gone_ok (back S7) hN hi hln fun s8 J8 => ⟨_, _, J8, q7⟩
      | cont =>
        obtain ⟨σ7, H7, S7, q7⟩ := hsp
        exact gone_ok (back S7) hN hi hln fun s8 J8 => ⟨_, _, J8, q7⟩
      | ret u =>
        obtain ⟨v7, σ7, H7, S7, r7, q7⟩ := hsp
        exact gone_ok (back S7) hN hi hln fun s8 J8 => ⟨_, _, _, J8, r7, q7⟩
    | false =>
      show wpAny _ X.A (handleBy (.ref a) X.env []) _ _ _
      refine wpAny_handleBy_nil ?_
      obtain ⟨k1, k2, k3, oe, vs, T, oT, ts', he, hz, hd, h1, hr⟩ := id fl3
      unfold PySem.passOn
      refine wpAny_bind (wpAny_field he hd h1 ?_)
      rw [if_neg (show ¬ ((Value.ref T == Value.none) = true) from by simp)]
      have fin : wpAny (model X.prog X.w) X.A (setFlight (.ref a) X.env.frame) (fun _ s4 => wpAny (model X.prog X.w) X.A (throw (.ref a) : Sem Flow) (SP X pins D) X.xe s4) X.xe { s' with heap := h3 } := by
        rw [hf]
        refine HandSPX.setFlight_upZ fl3 fun h4 hh4 up4 => wpAny_throw (tk _ _ ?_)
        exact ⟨a, B, sI, pins, σ', H', cls, d, rfl, J, nb, (up.trans up3).trans up4, .inr (.inr (by rw [hs]; exact hh4)), na, os, ag, hno rfl⟩
      first
        | exact wpAny_bind (wpAny_pure (wpAny_bind fin))
        | exact wpAny_bind fin
  · cases f with
    | next =>
      obtain ⟨σ', H', J', q⟩ := hsp
      exact wpAny_execs_nil ⟨σ', H', J'.ofTry ok, q⟩
    | brk =>
      obtain ⟨σ', H', J', q⟩ := hsp
      exact ⟨σ', H', J'.ofTry ok, q⟩
    | cont =>
      obtain ⟨σ', H', J', q⟩ := hsp
      exact ⟨σ', H', J'.ofTry ok, q⟩
    | ret u =>
      obtain ⟨v, σ', H', J', r, q⟩ := hsp
      exact ⟨v, σ', H', J'.ofTry ok, r, q⟩
end
end L2.Fw
/-! the readings' names that the derivations use -/
namespace L2.Fw
open PySem PySem.Spec PyProof.Rows
abbrev rAddI : R2 := rI0 fun i j => .int (i + j)
abbrev rSubI : R2 := rI0 fun i j => .int (i - j)
abbrev rMulI : R2 := rI CMul fun i j => .int (i * j)
abbrev rModI : R2 := rI (fun _ j => 0 < j) fun i j => .int (i % j)
abbrev rDivI : R2 := rI CDivW fun i j => .int (i / j)
/-- a power of at most 2 ^ 27 bits -/
def CPowW (i j : Int) : Prop := 0 ≤ j ∧ (Builtin.Int.intBits i : Int) * j ≤ 2 ^ 27
abbrev rPowI : R2 := rI CPowW fun i j => .int (i ^ j.toNat)
abbrev rAddS : R2 := fun x y H Q => ∃ i j, x = .str i ∧ y = .str j ∧ i.length + j.length ≤ sizeLine ∧ Q (.str (i ++ j)) H
abbrev rNegI : V → Hp → VK → Prop := rU fun i => .int (-i)
abbrev rLtI : R2 := rI0 fun i j => .bl (decide (i < j))
abbrev rLeI : R2 := rI0 fun i j => .bl (decide (i ≤ j))
abbrev rGtI : R2 := rI0 fun i j => .bl (decide (j < i))
abbrev rGeI : R2 := rI0 fun i j => .bl (decide (j ≤ i))
abbrev rLeS : R2 := fun x y H Q => ∃ i j, x = .str i ∧ y = .str j ∧ Q (.bl (!decide (j.cps.toList < i.cps.toList))) H
abbrev rIsN : R2 := fun x y H Q => y = .non ∧ Q (.bl (decide (x = .non))) H
abbrev rNotN : R2 := fun x y H Q => y = .non ∧ Q (.bl (!decide (x = .non))) H
abbrev rIsB : R2 := fun x y H Q => ∃ a b, x = .bl a ∧ y = .bl b ∧ Q (.bl (decide (a = b))) H
abbrev rIsNotB : R2 := fun x y H Q => ∃ a b, x = .bl a ∧ y = .bl b ∧ Q (.bl (!decide (a = b))) H
abbrev rLenV (K : PySem.W.Frag) : List V → Hp → VK → Prop := fun xs H Q => ∃ x n, xs = [x] ∧ LenV K x H n ∧ Q (.int n) H
abbrev rInt1 : List V → Hp → VK → Prop := fun xs H Q => (∃ i, xs = [.int i] ∧ Q (.int i) H) ∨ ∃ k, xs = [.bl k] ∧ Q (.int (if k then 1 else 0)) H
abbrev rMax2 : List V → Hp → VK → Prop := fun xs H Q => ∃ i j, xs = [.int i, .int j] ∧ Q (.int (if j > i then j else i)) H
abbrev rListOf (K : PySem.W.Frag) : List V → Hp → VK → Prop := fun xs H Q => ∃ p ys, xs = [.ref p] ∧ (SqL K H p ys ∨ SqT K H p ys) ∧ ∀ l, H l = none → Q (.ref l) (upd H l (.lst ys))
abbrev tTru (K : PySem.W.Frag) (t : TE) : TT := fun σ H Q => t σ H fun x H' => ∃ k, TruV K x H' k ∧ Q k H'
abbrev tTryK (K : PySem.W.Frag) (c : Value) (i : Nat) (tb : WX → TS) (ts : TS) : TS := fun D σ H => tb (wKeep K c i ts (fun _ _ _ _ => False) D) D σ H
section
variable {X : Cx}
theorem op_powW : OpR X (binaryOp .Pow) rPowI := opI fun _ _ _ _ _ _ _ hc q => pow_int hc.1 hc.2 q
end
theorem units65 {A : Around} {k : Nat} (hr : Room k A) : A.units + 65 < cLine := by have := hr.un; omega

/-! ### the laws' draws -/
/-- at p the draws' state: [what is left of a great seed, a seed, a count of at most n] -/
def GenAt (H : Hp) (p : Addr) (n : Int) : Prop := ∃ a b c : Int, H p = some (.lst [.int a, .int b, .int c]) ∧ 0 ≤ a ∧ a < 10 ^ 600 ∧ 0 ≤ b ∧ b < 2147483647 ∧ 0 ≤ c ∧ c ≤ n
def sp_law_cell (K : PySem.W.Frag) : Sp := fun vs H Q _ => ∃ (l : Addr) (ns : List Int) (i : Int), vs = [.ref l, .int i] ∧ SqL K H l (ns.map V.int) ∧ 0 ≤ i ∧ i < 1000 ∧ ∀ j : Int, Q (.int j) H
def sp_law_hash (_ : PySem.W.Frag) : Sp := fun vs H Q _ => ∃ a b : Int, vs = [.int a, .int b] ∧ 0 ≤ a ∧ a < 2147483647 ∧ 0 ≤ b ∧ b < 2 ^ 50 ∧ ∀ r : Int, 0 ≤ r → r < 2147483587 → Q (.int r) H
def sp_law_generator (K : PySem.W.Frag) : Sp := fun vs H Q _ => ∃ (l : Addr) (ns : List Int) (i : Int), vs = [.ref l, .int i] ∧ SqL K H l (ns.map V.int) ∧ 0 ≤ i ∧ i < 1000 ∧
  ∀ p a b, H p = none → 0 ≤ a → a < 10 ^ 600 → 0 ≤ b → b < 2147483647 → Q (.ref p) (upd H p (.lst [.int a, .int b, .int (1000 * i)]))
def sp_law_random (_ : PySem.W.Frag) : Sp := fun vs H Q _ => ∃ (p : Addr) (a b c n : Int), vs = [.ref p, .int n] ∧ H p = some (.lst [.int a, .int b, .int c]) ∧ 0 ≤ a ∧ a < 10 ^ 600 ∧ 0 ≤ b ∧ b < 2147483647 ∧ 0 ≤ c ∧ c < 2 ^ 40 ∧ 1 ≤ n ∧ n < 2 ^ 60 ∧
  ∀ d a' c', 0 ≤ d → d < n → 0 ≤ a' → a' < 10 ^ 600 → c ≤ c' → c' ≤ c + 10 → Q (.int d) (upd H p (.lst [.int a', .int b, .int c']))
end L2.Fw
namespace L2.Fw
open PySem PySem.Spec PyProof.Rows
def t_law_cell (K : PySem.W.Frag) (E : XK) : TS :=
  (tSeq (tIfS (tTest (tOp rLtI (tVar 1) (tCB (rLenV K) (tCons (tVar 0) tNil)))) (tRet (tOp (rIx K) (tVar 0) (tVar 1))) tNext)
    (tRet (tC (.int 0))))
def t_law_hash (K : PySem.W.Frag) (E : XK) : TS :=
  (tSeq (tAsg (tOp rModI (tCB (rInt1) (tCons (tOp rAddI (tOp rAddI (tOp rAddI (tOp rMulI (tVar 0) (tC (.int 1103515245))) (tOp rMulI (tOp rMulI (tC (.int 7919)) (tVar 1)) (tVar 1))) (tVar 1)) (tC (.int 1))) tNil)) (tC (.int 2147483647))) (gName 2))
    (tSeq (tAsg (tOp rModI (tCB (rInt1) (tCons (tOp rAddI (tOp rMulI (tVar 2) (tVar 2)) (tC (.int 69621))) tNil)) (tC (.int 2147483629))) (gName 2))
    (tRet (tOp rModI (tCB (rInt1) (tCons (tOp rMulI (tVar 2) (tC (.int 48271))) tNil)) (tC (.int 2147483587))))))
def t_law_generator (K : PySem.W.Frag) (E : XK) : TS :=
  (tSeq (tAsg (tCallX (sp_law_cell K) Z0 (tCons (tVar 0) (tCons (tVar 1) tNil))) (gName 2))
    (tRet (tLst (tCons (tOp rModI (tCB (rInt1) (tCons (tCB (rMax2) (tCons (tOp rSubI (tVar 2) (tOp rPowI (tC (.int 10)) (tC (.int 18)))) (tCons (tC (.int 0)) tNil))) tNil)) (tOp rPowI (tOp rPowI (tC (.int 10)) (tC (.int 60))) (tC (.int 10)))) (tCons (tOp rModI (tCB (rInt1) (tCons (tVar 2) tNil)) (tC (.int 2147483647))) (tCons (tOp rMulI (tC (.int 1000)) (tVar 1)) tNil))))))
def t_law_random (K : PySem.W.Frag) (E : XK) : TS :=
  (tSeq (tIfS (tTest (tOp rGtI (tOp (rIx K) (tVar 0) (tC (.int 0))) (tC (.int 0)))) (tSeq (tAsg (tOp rModI (tCB (rInt1) (tCons (tOp (rIx K) (tVar 0) (tC (.int 0))) tNil)) (tVar 1)) (gName 2))
    (tSeq (tAsg (tOp rDivI (tOp (rIx K) (tVar 0) (tC (.int 0))) (tVar 1)) (gSub (tVar 0) (tC (.int 0)) rSetL))
    (tRet (tVar 2)))) tNext)
    (tSeq (tAsg (tC (.int 0)) (gName 2))
    (tSeq (tFor (iRng1 (tCons (tOp rAddI (tC (.int 1)) (tOp rDivI (tBits (tVar 1)) (tC (.int 30)))) tNil)) (gName 3) (tSeq (tAsg (tOp rAddI (tOp (rIx K) (tVar 0) (tC (.int 2))) (tC (.int 1))) (gSub (tVar 0) (tC (.int 2)) rSetL))
    (tAsg (tOp rAddI (tOp rMulI (tVar 2) (tC (.int 2147483587))) (tCallX (sp_law_hash K) Z0 (tCons (tOp (rIx K) (tVar 0) (tC (.int 1))) (tCons (tOp (rIx K) (tVar 0) (tC (.int 2))) tNil)))) (gName 2))))
    (tRet (tOp rModI (tCB (rInt1) (tCons (tVar 2) tNil)) (tVar 1))))))
theorem len_law_cell {K : PySem.W.Frag} {vs : List V} {H : Hp} {Q : VK} {E : XK} (h : sp_law_cell K vs H Q E) : vs.length = 2 := by
  obtain ⟨_, _, _, rfl, _⟩ := h
  rfl
theorem len_law_hash {K : PySem.W.Frag} {vs : List V} {H : Hp} {Q : VK} {E : XK} (h : sp_law_hash K vs H Q E) : vs.length = 2 := by
  obtain ⟨_, _, rfl, _⟩ := h
  rfl
theorem len_law_generator {K : PySem.W.Frag} {vs : List V} {H : Hp} {Q : VK} {E : XK} (h : sp_law_generator K vs H Q E) : vs.length = 2 := by
  obtain ⟨_, _, _, rfl, _⟩ := h
  rfl
theorem len_law_random {K : PySem.W.Frag} {vs : List V} {H : Hp} {Q : VK} {E : XK} (h : sp_law_random K vs H Q E) : vs.length = 2 := by
  obtain ⟨_, _, _, _, _, rfl, _⟩ := h
  rfl
/-- what a body is asked at its entry -/
abbrev En (Q : VK) : Ends := { nx := fun _ H' => Q .non H', rt := Q }
theorem pure_law_cell {K : PySem.W.Frag} {vs : List V} {H : Hp} {Q : VK} {E : XK} (h : sp_law_cell K vs H Q E) : t_law_cell K E (En Q) (start ["script", "index"] vs) H := by
  obtain ⟨l, ns, i, rfl, hs, h0, h1, q⟩ := h
  refine ⟨_, rfl, _, rfl, _, _, rfl, .inl ⟨_, hs, rfl⟩, _, _, rfl, rfl, _, rfl, ?_⟩
  refine ite2 (fun c => ?_) (fun _ => q 0)
  have c' : i < ((ns.map V.int).length : Int) := of_decide_eq_true c
  rw [List.length_map] at c'
  obtain ⟨j, rfl⟩ := Int.eq_ofNat_of_zero_le h0
  have hj : j < ns.length := by omega
  refine ⟨_, rfl, _, rfl, .inl ⟨_, _, _, .int (ns[j]), rfl, rfl, hs, ?_, q _⟩⟩
  exact atI_nat (by simp [hj])
theorem pure_law_hash {K : PySem.W.Frag} {vs : List V} {H : Hp} {Q : VK} {E : XK} (h : sp_law_hash K vs H Q E) : t_law_hash K E (En Q) (start ["seed", "index", "mixed"] vs) H := by
  obtain ⟨a, b, rfl, a0, a1, b0, b1, q⟩ := h
  refine ⟨_, rfl, _, _, rfl, rfl, .inr (by decide), _, rfl, _, _, rfl, rfl, .inl (by decide), _, rfl, _, _, rfl, rfl, .inl (by omega), _, _, rfl, rfl, _, rfl, _, _, rfl, rfl, _, _, rfl, rfl, .inl ⟨_, rfl, _, _, rfl, rfl, (by show (0 : Int) < _; decide), ?_⟩⟩
  have m0 : 0 ≤ (a * 1103515245 + 7919 * b * b + b + 1) % 2147483647 := Int.emod_nonneg _ (by decide)
  have m1 : (a * 1103515245 + 7919 * b * b + b + 1) % 2147483647 < 2147483647 := Int.emod_lt_of_pos _ (by decide)
  refine ⟨_, rfl, _, rfl, _, _, rfl, rfl, .inl ⟨by omega, by omega⟩, _, _, rfl, rfl, .inl ⟨_, rfl, _, _, rfl, rfl, (by show (0 : Int) < _; decide), ?_⟩⟩
  refine ⟨_, rfl, _, _, rfl, rfl, .inr (by decide), .inl ⟨_, rfl, _, _, rfl, rfl, (by show (0 : Int) < _; decide), ?_⟩⟩
  exact q _ (Int.emod_nonneg _ (by decide)) (Int.emod_lt_of_pos _ (by decide))
theorem pow60 : CPowW 10 60 := ⟨by decide, by decide +kernel⟩
theorem pow600 : CPowW (10 ^ (60 : Int).toNat) 10 := ⟨by decide, by decide +kernel⟩
theorem pure_law_generator {K : PySem.W.Frag} {vs : List V} {H : Hp} {Q : VK} {E : XK} (h : sp_law_generator K vs H Q E) : t_law_generator K E (En Q) (start ["script", "index", "seed"] vs) H := by
  obtain ⟨l, ns, i, rfl, hs, h0, h1, q⟩ := h
  refine ⟨_, rfl, _, rfl, l, ns, i, rfl, hs, h0, h1, fun j => ?_⟩
  refine ⟨_, rfl, _, _, rfl, rfl, ⟨by decide, by decide +kernel⟩, _, _, rfl, rfl, _, _, rfl, .inl ⟨_, rfl, _, _, rfl, rfl, pow60, _, _, rfl, rfl, pow600, _, _, rfl, rfl, (by show (0 : Int) < _; decide +kernel), ?_⟩⟩
  refine ⟨_, rfl, .inl ⟨_, rfl, _, _, rfl, rfl, (by show (0 : Int) < _; decide), _, rfl, _, _, rfl, rfl, .inl (by decide), (by show 3 ≤ sizeLine; decide), fun p hp => ?_⟩⟩
  have e : ((10 : Int) ^ (60 : Int).toNat) ^ (10 : Int).toNat = 10 ^ 600 := by decide +kernel
  exact q p _ _ hp (Int.emod_nonneg _ (by decide +kernel)) (by rw [← e]; exact Int.emod_lt_of_pos _ (by decide +kernel)) (Int.emod_nonneg _ (by decide)) (Int.emod_lt_of_pos _ (by decide))
theorem get3 {x y z : V} : atI [x, y, z] 0 = some x ∧ atI [x, y, z] 1 = some y ∧ atI [x, y, z] 2 = some z := ⟨rfl, rfl, rfl⟩
theorem bits60 {n : Int} (h0 : 1 ≤ n) (h : n < 2 ^ 60) : (Builtin.Int.intBits n : Nat) ≤ 60 := by
  have e : n.natAbs < 2 ^ 60 := by omega
  have z := PySem.Flt.log2_lt_of (by decide : 0 < 60) e
  unfold Builtin.Int.intBits
  split <;> omega
theorem pure_law_random {K : PySem.W.Frag} {vs : List V} {H : Hp} {Q : VK} {E : XK} (h : sp_law_random K vs H Q E) : t_law_random K E (En Q) (start ["generator", "bound", "drawn", "turn"] vs) H := by
  obtain ⟨p, a, b, c, n, rfl, hp, a0, a1, b0, b1, c0, c1, n0, n1, q⟩ := h
  refine ⟨_, rfl, .inl ⟨_, _, _, _, rfl, rfl, .of hp, get3.1, _, _, rfl, rfl, _, rfl, ?_⟩⟩
  refine ite2 (fun ha => ?_) (fun _ => ?_)
  · have ha' : 0 < a := of_decide_eq_true ha
    refine ⟨_, rfl, .inl ⟨_, _, _, _, rfl, rfl, .of hp, get3.1, .inl ⟨_, rfl, _, rfl, _, _, rfl, rfl, (by show (0 : Int) < n; omega), ?_⟩⟩⟩
    have nw : CDivW a n := wide_div (b := 60) (by omega) (by omega) (by decide) (by decide)
    refine ⟨_, rfl, .inl ⟨_, _, _, _, rfl, rfl, .of hp, get3.1, _, rfl, _, _, rfl, rfl, nw, _, rfl, p, _, 0, 0, rfl, rfl, hp, rfl, ?_⟩⟩
    refine ⟨_, rfl, q _ _ _ (Int.emod_nonneg _ (by omega)) (Int.emod_lt_of_pos _ (by omega)) (Int.ediv_nonneg a0 (by omega)) ?_ (Int.le_refl c) (by omega)⟩
    exact Int.lt_of_le_of_lt (Int.ediv_le_self n a0) a1
  · refine ⟨_, rfl, _, rfl, _, _, rfl, rfl, ⟨by decide, by decide +kernel⟩, _, _, rfl, rfl, _, rfl, ?_⟩
    have z := bits60 n0 n1
    have zz : (0 : Int) ≤ (Builtin.Int.intBits n : Nat) := Int.natCast_nonneg _
    refine ⟨by show -(2 ^ 62) ≤ 1 + ((Builtin.Int.intBits n : Nat) : Int) / 30; omega, by show 1 + ((Builtin.Int.intBits n : Nat) : Int) / 30 < 2 ^ 62; omega, ?_⟩
    have hk : (1 + ((Builtin.Int.intBits n : Nat) : Int) / 30).toNat ≤ 3 := by omega
    generalize (1 + ((Builtin.Int.intBits n : Nat) : Int) / 30).toNat = k at hk
    refine for_range (fun i σ H' => ∃ (d : Int) (c' : Int) (t : Option V), σ = [some (.ref p), some (.int n), some (.int d), t] ∧ H' = upd H p (.lst [.int a, .int b, .int c']) ∧ c ≤ c' ∧ c' ≤ c + i) ?_ ?_ ?_
    · refine ⟨0, c, none, rfl, ?_, Int.le_refl c, by omega⟩
      funext x
      unfold upd
      by_cases e : x = p
      · rw [if_pos e, e, hp]
      · rw [if_neg e]
    · rintro i σ H' hi ⟨d, c', t, rfl, rfl, h1, h2⟩
      refine ⟨_, rfl, .inl ⟨_, _, _, _, rfl, rfl, .of upd_same, get3.2.2, _, _, rfl, rfl, _, rfl, p, _, 2, 2, rfl, rfl, upd_same, rfl, ?_⟩⟩
      refine ⟨_, rfl, _, _, rfl, rfl, .inr (by decide), _, rfl, .inl ⟨_, _, _, _, rfl, rfl, .of upd_same, get3.2.1, _, rfl, .inl ⟨_, _, _, _, rfl, rfl, .of upd_same, get3.2.2, b, c' + 1, rfl, b0, b1, by omega, by omega, fun r r0 r1 => ?_⟩⟩⟩
      refine ⟨_, _, rfl, rfl, _, c' + 1, some (.int (0 + i)), rfl, ?_, by omega, by omega⟩
      rw [upd_upd]
      rfl
    · rintro σ H' ⟨d, c', t, rfl, rfl, h1, h2⟩
      refine ⟨_, rfl, .inl ⟨_, rfl, _, rfl, _, _, rfl, rfl, (by show (0 : Int) < n; omega), ?_⟩⟩
      exact q _ a c' (Int.emod_nonneg _ (by omega)) (Int.emod_lt_of_pos _ (by omega)) a0 a1 h1 (by omega)
end L2.Fw
/-! tools for the readings -/
namespace L2.Fw
open PySem PySem.Spec PyProof.Rows
section
variable {K : PySem.W.Frag} {H H' H0 H1 : Hp} {a b p D : Addr} {o u : HO}
theorem kp (h : H a = some o) (n : H p = none) : upd H p u a = some o := by rw [upd_ne (ne_of_none h n)]; exact h
theorem kp2 (h : H a = some o) (ne : a ≠ p) : upd H p u a = some o := by rw [upd_ne ne]; exact h
theorem same_new (s : Same H0 H) (n : H p = none) : Same H0 (upd H p u) := fun b o e => kp (s b o e) n
theorem same_own (s : Same H0 H) (n : H0 p = none) : Same H0 (upd H p u) := fun b o e => by rw [upd_ne (ne_of_none e n)]; exact s b o e
theorem free_of (s : Same H0 H) (n : H p = none) : H0 p = none := s.free n
theorem nn (h : H a = none) (n : a ≠ p) : upd H p u a = none := by rw [upd_ne n]; exact h
/-- an address that is free behind is free ahead, and another one than what was laid -/
theorem up_none (h : upd H p u a = none) : H a = none ∧ a ≠ p := by
  by_cases e : a = p
  · rw [e, upd_same] at h
    cases h
  · rw [upd_ne e] at h
    exact ⟨h, e⟩
theorem lstLen {n : Nat} (h : n ≤ 1000) : n ≤ sizeLine := Nat.le_of_lt (small1000 h)
theorem lstLt {n : Nat} (h : n ≤ 1000) : n < sizeLine := small1000 h
end
end L2.Fw
/-! lists of data that a comprehension builds; short data -/
namespace L2.Fw
open PySem PySem.Spec PyProof.Rows
/-- the heap but for what stands at D -/
def del (H : Hp) (D : Addr) : Hp := fun a => if a = D then none else H a
section
variable {K : PySem.W.Frag} {H H' H0 H1 : Hp} {a b p D : Addr} {o u : HO} {v : V} {d : PyData}
theorem del_ne (h : a ≠ D) : del H D a = H a := if_neg h
theorem del_upd : del (upd H D u) D = del H D := by
  funext x
  unfold del
  by_cases e : x = D
  · rw [if_pos e, if_pos e]
  · rw [if_neg e, if_neg e, upd_ne e]
theorem del_le : Same (del H D) H := fun x o e => by
  unfold del at e
  by_cases q : x = D
  · rw [if_pos q] at e
    cases e
  · rw [if_neg q] at e
    exact e
theorem del_of (s : Same H0 H) (n : H0 D = none) : Same H0 (del H D) := fun x o e => by rw [del_ne (ne_of_none e n)]; exact s _ _ e
theorem del_mono (s : Same H H') : Same (del H D) (del H' D) := fun x o e => by
  unfold del at e ⊢
  by_cases q : x = D
  · rw [if_pos q] at e
    cases e
  · rw [if_neg q] at e ⊢
    exact s _ _ e
theorem del_same (s : Same H0 (del H D)) : Same H0 H := s.trans del_le
/-- a list's data -/
theorem Dd.lst {xs : List V} {ds : List PyData} (hs : SqL K H a xs) (h : DdAll K H xs ds) : Dd K H (.ref a) (.list ds) := Dn.lst trivial hs h.1 h.2
theorem Dd.tup {xs : List V} {ds : List PyData} (hs : SqT K H a xs) (h : DdAll K H xs ds) : Dd K H (.ref a) (.tuple ds) := Dn.tup trivial hs h.1 h.2
theorem DdAll.snoc {xs : List V} {ds : List PyData} (h : DdAll K H xs ds) (q : Dd K H v d) : DdAll K H (xs ++ [v]) (ds ++ [d]) := h.append (.cons q .nil)
theorem map_range_succ {α : Type} (f : Nat → α) (n : Nat) : (List.range (n + 1)).map f = (List.range n).map f ++ [f n] := by rw [List.range_succ, List.map_append]; rfl
/-- a comprehension's walk over J, its list at D -/
def LcW (J : It) (g : TG) (tt : TT) (te : TE) (vs : List Nat) (σ : St) (H0 : Hp) (D : Addr) (Qd : Hp → Prop) : Prop :=
  ∃ W : Nat → Nat → Hp → Prop,
    (∃ m, W 0 m (upd H0 D (.lst []))) ∧
    ∀ i m H, W i m H → (J.stop i H ∧ Qd H) ∨ (J.go i H ∧
      ∃ Nx : Hp → Prop, (∀ H', Nx H' → ∃ m', m' < m ∧ W (i + 1) m' H') ∧
        ∀ x H', J.yld i H x H' →
          g x (wipe σ vs) H' fun σ2 H2 =>
            wipe σ2 vs = wipe σ vs ∧
            tt σ2 H2 fun b H3 => if b = true
              then te σ2 H3 fun y H4 => ∃ acc, H4 D = some (.lst acc) ∧ acc.length < sizeLine ∧
                Nx (upd H4 D (.lst (acc ++ [y])))
              else Nx H3)
/-- [e for x in xs if c]: what e is, place by place; all are kept -/
theorem lc_deep {xs : List V} {g : TG} {te : TE} {vs : List Nat} {σ : St} {Qd : Hp → Prop} (nD : H0 D = none) (f : Nat → PyData) (hl : SqL K H0 a xs) (lx : xs.length ≤ 1000)
    (hs : ∀ (i : Nat) (x : V) (H : Hp) (R : VK), xs[i]? = some x → Same H0 H → (∃ acc, H D = some (.lst acc)) → (∀ y H4, Same H H4 → Dd K (del H4 D) y (f i) → R y H4) →
      g x (wipe σ vs) H fun σ2 H2 => wipe σ2 vs = wipe σ vs ∧ te σ2 H2 R)
    (hd : ∀ H ys, Same H0 H → H D = some (.lst ys) → DdAll K (del H D) ys ((List.range xs.length).map f) → Qd H) :
    LcW (Itl K a) g tYes te vs σ H0 D Qd := by
  refine lc_list (tt := tYes) (xs := xs) (fun i H => ∃ acc, H D = some (.lst acc) ∧ Same H0 H ∧ DdAll K (del H D) acc ((List.range i).map f)) ?_ ?_ ?_ ?_
  · exact ⟨[], upd_same, same_new (Same.refl _) nD, .nil⟩
  · rintro i H hi ⟨acc, h1, h2, h3⟩
    exact SqL.fr (fun o e => h2 _ _ e) hl
  · rintro i x H hx ⟨acc, h1, h2, h3⟩
    have hi : i < xs.length := (List.getElem?_eq_some_iff.mp hx).1
    refine hs i x H _ hx h2 ⟨acc, h1⟩ fun y H4 s4 hy => ⟨acc, s4 _ _ h1, ?_, acc ++ [y], upd_same, same_own (h2.trans s4) nD, ?_⟩
    · have e := h3.1
      rw [List.length_map, List.length_range] at e
      exact lstLt (by omega)
    · rw [del_upd, map_range_succ]
      exact DdAll.snoc (h3.same (del_mono s4)) hy
  · rintro H ⟨acc, h1, h2, h3⟩
    exact hd H acc h2 h1 h3
theorem lc_deepR {lo : Int} {n : Nat} {g : TG} {te : TE} {vs : List Nat} {σ : St} {Qd : Hp → Prop} (nD : H0 D = none) (f : Nat → PyData) (lx : n ≤ 1000)
    (hs : ∀ (i : Nat) (H : Hp) (R : VK), i < n → Same H0 H → (∃ acc, H D = some (.lst acc)) → (∀ y H4, Same H H4 → Dd K (del H4 D) y (f i) → R y H4) →
      g (.int (lo + i)) (wipe σ vs) H fun σ2 H2 => wipe σ2 vs = wipe σ vs ∧ te σ2 H2 R)
    (hd : ∀ H ys, Same H0 H → H D = some (.lst ys) → DdAll K (del H D) ys ((List.range n).map f) → Qd H) :
    LcW (Itr lo n) g tYes te vs σ H0 D Qd := by
  refine lc_range (tt := tYes) (fun i H => ∃ acc, H D = some (.lst acc) ∧ Same H0 H ∧ DdAll K (del H D) acc ((List.range i).map f)) ?_ ?_ ?_
  · exact ⟨[], upd_same, same_new (Same.refl _) nD, .nil⟩
  · rintro i H hi ⟨acc, h1, h2, h3⟩
    refine hs i H _ hi h2 ⟨acc, h1⟩ fun y H4 s4 hy => ⟨acc, s4 _ _ h1, ?_, acc ++ [y], upd_same, same_own (h2.trans s4) nD, ?_⟩
    · have e := h3.1
      rw [List.length_map, List.length_range] at e
      exact lstLt (by omega)
    · rw [del_upd, map_range_succ]
      exact DdAll.snoc (h3.same (del_mono s4)) hy
  · rintro H ⟨acc, h1, h2, h3⟩
    exact hd H acc h2 h1 h3
/-- [e for x in xs]: what e is, value by value -/
theorem lc_each {xs : List V} {g : TG} {te : TE} {vs : List Nat} {σ : St} {Qd : Hp → Prop} (nD : H0 D = none) (f : Nat → V) (hl : SqL K H0 a xs) (lx : xs.length ≤ 1000)
    (hs : ∀ (i : Nat) (x : V) (H : Hp) (R : VK), xs[i]? = some x → Same H0 H → (∀ H4, Same H H4 → R (f i) H4) →
      g x (wipe σ vs) H fun σ2 H2 => wipe σ2 vs = wipe σ vs ∧ te σ2 H2 R)
    (hd : ∀ H, Same H0 H → H D = some (.lst ((List.range xs.length).map f)) → Qd H) :
    LcW (Itl K a) g tYes te vs σ H0 D Qd := by
  refine lc_list (tt := tYes) (xs := xs) (fun i H => H D = some (.lst ((List.range i).map f)) ∧ Same H0 H) ?_ ?_ ?_ ?_
  · exact ⟨upd_same, same_new (Same.refl _) nD⟩
  · rintro i H hi ⟨h1, h2⟩
    exact SqL.fr (fun o e => h2 _ _ e) hl
  · rintro i x H hx ⟨h1, h2⟩
    have hi : i < xs.length := (List.getElem?_eq_some_iff.mp hx).1
    refine hs i x H _ hx h2 fun H4 s4 => ⟨_, s4 _ _ h1, ?_, ?_, same_own (h2.trans s4) nD⟩
    · rw [List.length_map, List.length_range]
      exact lstLt (by omega)
    · rw [upd_same, map_range_succ]
  · rintro H ⟨h1, h2⟩
    exact hd H h2 h1
end
/-- short data: its text is short, too -/
structure Fine (d : PyData) : Prop where
  lv : d.leavesShort 13 = true
  sh : d.showable = true
  dp : d.depth ≤ 10
  wt : d.weight ≤ 1000
theorem Fine.rep {d : PyData} (h : Fine d) (n : Nat) (hn : n ≤ 100) : (PyData.list (List.replicate n d)).showable = true ∧ (PyData.list (List.replicate n d)).depth ≤ 60 ∧ (PyData.list (List.replicate n d)).shown.length ≤ sizeLine := by
  have h1 : ∀ n, PyData.leavesShortAll 13 (List.replicate n d) = true := fun n => by
    induction n with
    | zero => rfl
    | succ n ih => rw [List.replicate_succ]; simp only [PyData.leavesShortAll, h.lv, ih, Bool.and_self]
  have h2 : ∀ n, PyData.showableAll (List.replicate n d) = true := fun n => by
    induction n with
    | zero => rfl
    | succ n ih => rw [List.replicate_succ]; simp only [PyData.showableAll, h.sh, ih, Bool.and_self]
  have h3 : ∀ n, PyData.depthAll (List.replicate n d) ≤ 10 := fun n => by
    induction n with
    | zero => exact Nat.zero_le _
    | succ n ih =>
      have := h.dp
      rw [List.replicate_succ]
      simp only [PyData.depthAll]
      omega
  have h4 : ∀ n, PyData.weightAll (List.replicate n d) ≤ 1001 * n := fun n => by
    induction n with
    | zero => exact Nat.le_refl _
    | succ n ih =>
      have := h.wt
      rw [List.replicate_succ]
      simp only [PyData.weightAll]
      omega
  refine ⟨by simp only [PyData.showable, h2], ?_, PyData.shown_fits (B := 13) (by decide) (by decide) (by simp only [PyData.leavesShort, h1]) ?_⟩
  · have := h3 n
    simp only [PyData.depth]
    omega
  · have := h4 n
    simp only [PyData.weight]
    omega
end L2.Fw
/-! set(xs) of texts (of any kind of keys): each once -/
namespace L2.Fw
open PySem PySem.Spec PyProof.Rows
section
variable {κ : Type} [DecidableEq κ]
def addK (acc : List κ) (k : κ) : List κ := if k ∈ acc then acc else acc ++ [k]
def uniq (l : List κ) : List κ := l.foldl addK []
theorem uniq_snoc (l : List κ) (k : κ) : uniq (l ++ [k]) = addK (uniq l) k := by unfold uniq; rw [List.foldl_append]; rfl
theorem mem_addK {acc : List κ} {k j : κ} : j ∈ addK acc k ↔ j ∈ acc ∨ j = k := by
  unfold addK
  by_cases h : k ∈ acc
  · rw [if_pos h]
    refine ⟨.inl, fun z => z.elim id fun e => by rw [e]; exact h⟩
  · rw [if_neg h]
    simp
theorem addK_length (acc : List κ) (k : κ) : (addK acc k).length = if k ∈ acc then acc.length else acc.length + 1 := by
  unfold addK
  split <;> simp
theorem snoc_ind {α : Type} {C : List α → Prop} (l : List α) (h0 : C []) (h1 : ∀ l k, C l → C (l ++ [k])) : C l := by
  rw [← List.reverse_reverse l]
  induction l.reverse with
  | nil => exact h0
  | cons a t ih =>
    rw [List.reverse_cons]
    exact h1 _ _ ih
theorem uniq_length_le (l : List κ) : (uniq l).length ≤ l.length := by
  refine snoc_ind (C := fun l => (uniq l).length ≤ l.length) l (Nat.le_refl 0) fun l k ih => ?_
  rw [uniq_snoc, addK_length, List.length_append]
  split <;> simp <;> omega
theorem mem_uniq {l : List κ} {j : κ} : j ∈ uniq l ↔ j ∈ l := by
  refine snoc_ind (C := fun l => j ∈ uniq l ↔ j ∈ l) l Iff.rfl fun l k ih => ?_
  rw [uniq_snoc, mem_addK, ih]
  simp
/-- each once, just if nothing is dropped -/
theorem uniq_length_eq {l : List κ} : (uniq l).length = l.length ↔ l.Nodup := by
  refine snoc_ind (C := fun l => (uniq l).length = l.length ↔ l.Nodup) l (by simp [uniq]) fun l k ih => ?_
  rw [uniq_snoc, addK_length, List.length_append, List.nodup_append]
  have z := uniq_length_le l
  by_cases h : k ∈ uniq l
  · rw [if_pos h]
    have h2 := mem_uniq.mp h
    refine ⟨fun e => by simp at e; omega, fun e => absurd rfl (e.2.2 k h2 k (by simp))⟩
  · rw [if_neg h]
    have h2 : k ∉ l := fun m => h (mem_uniq.mpr m)
    refine ⟨fun e => ⟨ih.mp (by simpa using e), by simp, fun a ha b hb => ?_⟩, fun e => by rw [ih.mpr e.1]; rfl⟩
    simp at hb
    subst hb
    exact fun z => h2 (z ▸ ha)
end
section
variable {prog : Program} {w : World} {A : Around} {R : Result → Shared → Prop} {I : Addr} {fp wr : List Addr} {G : Array GenState → Array GenState → Prop} {n : Nat} {P : Nat → Value → Prop} {St : Nat → Shared → Prop} {κ : Type} [DecidableEq κ]
/-- the walk of an iterator's items into a set, whatever the kind of the keys -/
theorem fillK (knd : KeyKind prog w κ) (W : WalksS prog w A.in1 I fp wr G n P St) (S : Addr) (out : S ∉ fp) (ks : List κ) (len : ks.length = n) (scan : ∀ k v, knd.is k v = true → v.scannable = true)
    (val : ∀ i v, P i v → ∃ k, ks[i]? = some k ∧ knd.is k v = true) (few : n + 1 < scanBound) (left : Nat) :
    ∀ (i : Nat) (s : Shared), n - i = left → i ≤ n → St i s → s.heap.SetOf knd S (fun j => decide (j ∈ uniq (ks.take i))) (uniq (ks.take i)).length →
      (∀ s', Moved (S :: wr) G s s' → s'.heap.SetOf knd S (fun j => decide (j ∈ uniq ks)) (uniq ks).length → R (.ok (.ret .none)) s') →
      codeAny (model prog w) A (.builtin "set.update.loop" ⟨[.ref S, .ref I], []⟩) R s := by
  have apart : S ∉ wr := fun h => out (W.sub _ h)
  have more : ∀ b ∈ wr, b ∈ S :: wr := fun _ hb => .tail _ hb
  have stays : ∀ {s s' : Shared} {T : κ → Bool} {m : Nat}, Moved wr G s s' → s.heap.SetOf knd S T m → s'.heap.SetOf knd S T m := fun hm hS => by
    obtain ⟨o, es, ep, tb, ho, r⟩ := hS
    exact ⟨o, es, ep, tb, hm.heap S _ apart ho, r⟩
  induction left with
  | zero =>
    intro i s hl hi hst hS hR
    obtain rfl : i = n := by omega
    refine codeAny_builtin F.entry_set_update_loop ?_
    rw [Around.under_plainId F.plain_set_update_loop _]
    refine wpAny_bind (W.done s _ _ hst fun s' hm => wpAny_pure (hR s' (hm.mono more) ?_))
    have e : ks.take i = ks := List.take_of_length_le (by omega)
    rw [e] at hS
    exact stays hm hS
  | succ left ih =>
    intro i s hl hi hst hS hR
    have lt : i < n := by omega
    refine codeAny_builtin F.entry_set_update_loop ?_
    rw [Around.under_plainId F.plain_set_update_loop _]
    refine wpAny_bind (W.item i s _ _ lt hst fun v s' hP hst' hm => ?_)
    obtain ⟨k, hk, his⟩ := val i v hP
    have tk : ks.take (i + 1) = ks.take i ++ [k] := by rw [List.take_add_one, hk]; rfl
    refine wpAny_bind (wpAny_holding ?_)
    unfold setAdd
    refine wpAny_holding (wpAny_bind (knd.pyHash his ?_))
    have room : (uniq (ks.take i)).length + 1 < scanBound := by
      have z := uniq_length_le (ks.take i)
      rw [List.length_take] at z
      omega
    have hS1 := stays hm hS
    refine wpAny_setAddHashed_of (knd := knd) (s := { s' with toks := s'.toks + 1 }) his (scan k v his) hS1 room fun h' same hS2 => ?_
    have next : h'.SetOf knd S (fun j => decide (j ∈ uniq (ks.take (i + 1)))) (uniq (ks.take (i + 1))).length := by
      have e1 : (fun j => decide (j ∈ uniq (ks.take (i + 1)))) = fun j => decide (j ∈ uniq (ks.take i)) || decide (j = k) := by
        funext j
        rw [tk, uniq_snoc, Bool.eq_iff_iff]
        simp only [decide_eq_true_eq, Bool.or_eq_true, mem_addK]
      have e2 : (uniq (ks.take (i + 1))).length = if decide (k ∈ uniq (ks.take i)) = true then (uniq (ks.take i)).length else (uniq (ks.take i)).length + 1 := by
        rw [tk, uniq_snoc, addK_length]
        simp only [decide_eq_true_eq]
      rw [e1, e2]
      exact hS2
    refine wpAny_pure ⟨plainId_quiet F.plain_set_update_loop _, ih (i + 1) _ (by omega) lt (W.frame _ s' _ _ hst' (Nat.le_succ _) fun b hb o e => ?_) next fun s'' hm'' hS'' => ?_⟩
    · rw [same.2 b (fun z => out (z ▸ hb))]
      exact e
    · refine hR s'' (Moved.trans W.gtrans ((hm.mono more).then_heap (Nat.le_succ _) fun b o hb e => ?_) hm'') hS''
      rw [same.2 b (fun z => hb (z ▸ .head _))]
      exact e
end
section
variable {prog : Program} {w : World} {A : Around} {E : Value → Shared → Prop} {s : Shared} {κ : Type} [DecidableEq κ]
/-- the empty set's record -/
abbrev nilSet (led : Bool) : Obj := { cls := .type "set", dict := none, data := .set #[] 0 (.fresh 0 0 led) }
/-- set(xs), xs a list of keys of one kind -/
theorem call_setK {l : Addr} {items : Array Value} {ks : List κ} {Q : Value → Shared → Prop} (knd : KeyKind prog w κ) (scan : ∀ k v, knd.is k v = true → v.scannable = true) (hh : A.handled = none) (hl : s.heap.IsList l items) (len : ks.length = items.size)
    (val : ∀ (i : Nat) (v : Value), items[i]? = some v → ∃ k, ks[i]? = some k ∧ knd.is k v = true) (few : items.size + 1 < scanBound)
    (h : ∀ (h' : Heap) (tk : Nat), h'.SetOf knd s.heap.objs.size (fun j => decide (j ∈ uniq ks)) (uniq ks).length → (∀ b o, b < s.heap.objs.size → s.heap.get? b = some o → h'.get? b = some o) → Q (.ref s.heap.objs.size) { s with heap := h', toks := tk }) :
    wpAny (model prog w) A (call (.type "set") [.ref l]) Q E s := by
  obtain ⟨_, _, mro⟩ := PySem.F.called_set.mro
  have made := PySem.F.called_set.made
  have below := PySem.F.called_set.sub
  refine wpAny_call (codeAny_of_tree (show wpAny _ _ (callAny (.type "set") _) _ _ _ from wpAny_pure ⟨Code.quiet_builtin _ (by decide +kernel), codeAny_builtin PySem.F.entry_type_call ?_⟩))
  rw [Around.under_plain (weight_type_call_type "set" [.ref l] []) rfl]
  have no1 := PySem.F.called_set.notType
  have can := PySem.F.called_set.canCreate
  have chk := PySem.F.typeCall_set_1 (.ref l)
  repeat (any_goals (first | assumption | wp_step))
  refine codeAny_mono (code_set_new_1 (.ref l) (E := E) (Q₁ := fun u s₁ => ∃ led, u = .ref s.heap.objs.size ∧ s₁ = { s with heap := s.heap.push (nilSet led) }) fun led => ⟨led, rfl, rfl⟩) fun r s₁ hr => ?_
  cases r with
  | error e => exact hr
  | ok fl =>
    cases fl with
    | ret u =>
      obtain ⟨led, rfl, rfl⟩ := hr
      have at_ : (s.heap.push (nilSet led)).get? s.heap.objs.size = some (nilSet led) := Heap.get?_push_size _ rfl
      have ty : Shared.TypeIs { s with heap := s.heap.push (nilSet led) } (.ref s.heap.objs.size) "set" := ⟨_, at_, rfl⟩
      have look := PySem.F.called_set.init.lookup
      have bind := PySem.F.called_set.init.bind (.ref s.heap.objs.size)
      repeat (any_goals (first | assumption | wp_step))
      refine codeAny_mono (codeAny_call_builtin (R := wants (fun r s₂ => r = .none ∧ ∃ h' tk, s₂ = { s with heap := h', toks := tk } ∧ h'.SetOf knd s.heap.objs.size (fun j => decide (j ∈ uniq ks)) (uniq ks).length ∧
          (∀ b o, b < s.heap.objs.size → s.heap.get? b = some o → h'.get? b = some o)) E) PySem.F.called_set.init.plain PySem.F.entry_set_init (check_set_init_1 ty ?_)) fun r₂ s₂ hr₂ => ?_
      · obtain ⟨⟨oc, od, oD, os⟩, hol, hc, nl, hd⟩ := hl
        simp only at hc hd
        subst hc hd
        have ol : (s.heap.push (nilSet led)).get? l = some { cls := .type "list", dict := od, data := .seq items nl, slots := os } := Heap.get?_push_of_some _ hol
        have b1 := PySem.F.sub_list_set
        have b2 := PySem.F.sub_list_frozenset
        have ne : (Value.type "list" == Value.type "dict") = false := by decide
        have il : (s.heap.push (nilSet led)).IsList l items := ⟨_, ol, rfl, nl, rfl⟩
        unfold Builtin.«set.__init__» noKeywords Builtin.Frozenset.updateFrom
        generalize hPI : pyIter = PI
        wp_walk
        subst hPI
        refine wpAny_pyIter_list il (wpAny_bind (wpAny_runValue ?_))
        have lt : l < s.heap.objs.size := Heap.lt_size hol
        have hh3 : A.in1.in1.in1.handled = none := by simp [hh]
        have n1 : l ≠ (s.heap.push (nilSet led)).objs.size := by
          rw [Heap.size_push]
          exact Nat.ne_of_lt (Nat.lt_succ_of_lt lt)
        have n2 : s.heap.objs.size ∉ [(s.heap.push (nilSet led)).objs.size, l] := by
          rw [Heap.size_push]
          simp only [List.mem_cons, List.not_mem_nil, or_false, not_or]
          exact ⟨Nat.ne_of_lt (Nat.lt_succ_self _), Nat.ne_of_gt lt⟩
        refine fillK knd ((Walks.list hh3 _ l n1 items).toS) s.heap.objs.size n2 ks len scan (fun i v hv => val i v hv) few (items.size - 0) 0 _ (by omega) (Nat.zero_le _) ⟨⟨_, Heap.get?_push_size _ rfl, rfl, rfl⟩, (il.push _)⟩ ?ini ?fin
        case ini =>
          have g : ((s.heap.push (nilSet led)).push { cls := .type "list_iterator", data := .fields #[.ref l, .int 0 0] }).get? s.heap.objs.size = some (nilSet led) := Heap.get?_push_of_some _ at_
          exact SetOf_congr ((setObjOf_fresh (knd := knd) led).setOf g (by unfold scanBound; omega)) (fun _ => by simp [uniq]) rfl
        case fin =>
          rintro ⟨h', g', d', tk', os'⟩ hm hS
          obtain rfl : g' = s.gens := hm.gens
          obtain rfl : d' = s.drawn := hm.drawn
          obtain rfl : os' = s.os := hm.os
          show wpAny _ _ _ _ _ _
          refine wpAny_pure ?_
          show wpAny _ _ (ret Value.none) _ _ _
          refine wpAny_pure ⟨rfl, h', tk', rfl, hS, fun b o hb e => hm.heap b o ?_ (Heap.get?_push_of_some _ (Heap.get?_push_of_some _ e))⟩
          rw [Heap.size_push]
          simp only [List.mem_cons, List.not_mem_nil, or_false, not_or]
          exact ⟨Nat.ne_of_lt hb, Nat.ne_of_lt (Nat.lt_succ_of_lt hb)⟩
      · cases r₂ with
        | error e => exact hr₂
        | ok f₂ =>
          cases f₂ with
          | ret r =>
            obtain ⟨rfl, h', tk, rfl, hS, keep⟩ := hr₂
            repeat (any_goals (first | assumption | wp_step))
            exact h _ _ hS keep
          | _ => exact hr₂.elim
    | _ => exact hr.elim
end
end L2.Fw
/-! len(set(xs)), xs a list of texts -/
namespace L2.Fw
open PySem PySem.Spec PyProof.Rows
def tLenSetS (K : PySem.W.Frag) (ta : TE) : TE := fun σ H Q => ta σ H fun x H1 => ∃ (l : Addr) (xs : List Str), x = .ref l ∧ SqL K H1 l (xs.map V.str) ∧ xs.length ≤ 100 ∧ Q (.int (uniq xs).length) H1
theorem strs_key {prog : Program} {w : World} : ∀ {xs : List Str} {us : List Value}, Vals (xs.map V.str) us → ∀ (i : Nat) (v : Value), us[i]? = some v → ∃ k, xs[i]? = some k ∧ (PySem.strKind prog w).is k v = true
  | [], _, .nil, i, v, e => by simp at e
  | x :: xs, _, .cons r t, 0, v, e => by
    obtain ⟨k, rfl⟩ := r
    simp at e
    subst e
    exact ⟨x, rfl, strKind_is _ _ _ _⟩
  | x :: xs, _, .cons r t, i + 1, v, e => strs_key t i v (by simpa using e)
theorem strs_scan {prog : Program} {w : World} (k : Str) (v : Value) (h : (PySem.strKind prog w).is k v = true) : v.scannable = true := by
  obtain ⟨t, rfl⟩ := Value.isStrOf_shape h
  rfl
theorem pe_lenSetS {X : Cx} {a : Expr} {ta : TE} {p p2 q pos : Pos} (hc : X.calm = true) (g1 : Gl X "len") (m1 : X.mg "len" = none) (g2 : Gl X "set") (m2 : X.mg "set" = none) (ha : PE X a ta) (na : starEach [a] X.env = (false, eval a X.env) :: starEach [] X.env := by rfl) :
    PE X (.Call (.Name "len" p) [.Call (.Name "set" p2) [a] [] q] [] pos) (tLenSetS X.K ta) := by
  refine ⟨fun pins s σ H Q I h => ?_⟩
  refine Call_ (ld_blt I g1 m1 boot_len (callWith_builtin1 (args_cons ?_ rfl) rfl rfl))
  refine Call_ (ld_blt I g2 m2 boot_set (callWith_type1 (args_cons (thn (ha.run pins s σ H _ I h) fun v s1 hh => args_nil ?_) na) na rfl))
  obtain ⟨x, H1, I1, r1, l, xs, rfl, hq, few, q1⟩ := hh
  cases r1
  obtain ⟨its, r, pl, hz⟩ := I1.list hq
  have len : xs.length = its.toArray.size := by rw [List.size_toArray, ← r.length, List.length_map]
  refine call_setK (ks := xs) (PySem.strKind X.prog X.w) strs_scan (I1.ok.hd hc) pl.isList len (fun i v e => strs_key r i v (by simpa using e)) (by rw [← len]; unfold scanBound; omega) fun h' tk hS keep => ?_
  have z := uniq_length_le xs
  obtain ⟨o, es, ep, t, ho, ex, hd, _, _, _, hf, hn⟩ := hS
  have J : Inv X pins σ H1 { s1 with heap := h', toks := tk } := I1.kept fun b o e => keep b o (Heap.lt_size e) e
  exact args_nil (call_len_set ho ex hd hf (by rw [hn]; omega) ⟨.int (uniq xs).length, H1, J.tok _, ⟨_, by rw [hn]⟩, q1⟩)
end L2.Fw
/-! a text against a dict; x in (texts), whatever data x is -/
namespace L2.Fw
open PySem PySem.Spec PyProof.Rows PySem.SeqAt
open AutoSeq1 (wpAny_loadPart')
open MeetsSeq
section
variable {A : Around} {s : Shared}
theorem strEq_dict (b : Str) (u : Tok) (l : Addr) (es : Array DictEntry) (ep : Nat) (dd : Option Addr) (sl : Array (Option Value)) :
    Meets (Builtin.«str.__eq__» ⟨[.str b u, .ref l], []⟩) (fun _ R s => s.heap.get? l = some ⟨.type "dict", dd, .dict es ep, sl⟩ ∧ R (.ok (.ret .notImplemented)) s) :=
  .of_wp fun prog w A R s h => by
    obtain ⟨hp, g, d, tk, os⟩ := s
    obtain ⟨hl, h⟩ := h
    wp_walk using wpAny_loadPart' hl
    exact ⟨_, rfl, h⟩
theorem dictEq_str (b : Str) (u : Tok) (l : Addr) (es : Array DictEntry) (ep : Nat) (dd : Option Addr) (sl : Array (Option Value)) :
    Meets (Builtin.«dict.__eq__» ⟨[.ref l, .str b u], []⟩) (fun _ R s => s.heap.get? l = some ⟨.type "dict", dd, .dict es ep, sl⟩ ∧ R (.ok (.ret .notImplemented)) s) :=
  .of_wp fun prog w A R s h => by
    obtain ⟨hp, g, d, tk, os⟩ := s
    obtain ⟨hl, h⟩ := h
    have f1 := PySem.F.sub_str_dict
    wp_walk using wpAny_loadPart' hl
    exact ⟨_, rfl, h⟩
theorem rcAt_str_dict {l : Addr} {es : Array DictEntry} {ep : Nat} {dd : Option Addr} {sl : Array (Option Value)} (b : Str) (u : Tok) (hl : s.heap.get? l = some ⟨.type "dict", dd, .dict es ep, sl⟩) (hu : A.units < cLine) : RcAt A s (.str b u) (.ref l) false := fun prog w E Q h =>
  rc_eq_decline_or (k := false) (typeIs_str s b u) ⟨_, hl, rfl⟩ (by decide) PySem.F.sub_dict_str PySem.F.slot_str_eq PySem.F.slot_dict_eq_refl
    (fun _ hq => call_meets PySem.F.slot_str_eq (typeIs_str s b u) PySem.F.entry_str_eq (PySem.F.args_str_eq_2 _ _) (strEq_dict b u l es ep dd sl) ⟨hl, hq⟩)
    (fun _ hq => call_meets PySem.F.slot_dict_eq_refl ⟨_, hl, rfl⟩ PySem.F.entry_dict_eq (PySem.F.args_dict_eq_2 _ _) (dictEq_str b u l es ep dd sl) ⟨hl, hq⟩)
    (fun _ hq => wpAny_of_eq (rfl : isSame (.str b u) (.ref l) = pure false) hq) (.inr hu) h
theorem eqAt_of_rc {b : Str} {u : Tok} {l : Addr} (h : RcAt A s (.str b u) (.ref l) false) : EqAt A s (.str b u) (.ref l) false := fun prog w E Q q => by
  unfold eqBool
  refine wpAny_holding (wpAny_ite_split (fun e => absurd (eq_of_beq e) nofun) fun _ => ?_)
  exact wpAny_bind (h prog w E _ (wpAny_truthy_bool q))
/-- is the data this text? -/
def isStr (b : Str) (d : PyData) : Bool := match d with
  | .str z => b == z
  | _ => false
end
section
variable {X : Cx} {pins : List (Addr × Obj)} {σ : St} {H : Hp} {s : Shared} {N : Addr → Prop} {A : Around}
theorem Dn.strEq (I : Inv X pins σ H s) {v : V} {d : PyData} (q : Dn N X.K H v d) (b : Str) (t : Tok) (hu : A.units < cLine) : ∀ u : Value, RelV v u → RcAt A s (.str b t) u (isStr b d) ∧ EqAt A s (.str b t) u (isStr b d) := by
  cases q with
  | non =>
    intro u r
    cases r
    exact ⟨RcAt.str_none b t, EqAt.str_none b t⟩
  | bl c =>
    intro u r
    cases r
    exact ⟨RcAt.str_bool b t c, EqAt.str_bool b t c⟩
  | int i =>
    intro u r
    obtain ⟨k, rfl⟩ := r
    exact ⟨RcAt.str_int b t i k, EqAt.str_int b t i k⟩
  | str x =>
    intro u r
    obtain ⟨k, rfl⟩ := r
    exact ⟨RcAt.str_str b t x k, EqAt.str_str b t x k⟩
  | lst _ hs _ _ =>
    intro u r
    cases r
    obtain ⟨its, _, pl, _⟩ := I.list hs
    have z := RcAt.str_list (A := A) b t pl.isList hu
    exact ⟨z, eqAt_of_rc z⟩
  | tup _ hs _ _ =>
    intro u r
    cases r
    obtain ⟨its, _, pl, _⟩ := I.tuple hs
    have z := RcAt.str_tuple (A := A) b t pl hu
    exact ⟨z, eqAt_of_rc z⟩
  | @dct a kvs es _ hs _ _ =>
    intro u r
    cases r
    have z : ObjOk X.prog X.w H s.heap a (.dK kvs) := I.hok a _ hs
    obtain ⟨_, _, vs, _, ⟨oc, od, oD, osl⟩, dd, ep, ho, hc, hd, _⟩ := z
    have hc1 := hc.1
    simp only at hc1 hd
    subst hc1 hd
    have z := rcAt_str_dict (A := A) b t ho hu
    exact ⟨z, eqAt_of_rc z⟩
/-- x in ys, ys a list or a tuple of texts, x whatever data -/
def rInS (K : PySem.W.Frag) : R2 := fun x y H Q => ∃ (a : Addr) (ys : List Str) (d : PyData), y = .ref a ∧ (SqL K H a (ys.map V.str) ∨ SqT K H a (ys.map V.str)) ∧ Dd K H x d ∧ Q (.bl (ys.any fun z => isStr z d)) H
/-- y == x, y a text, x whatever data -/
def rEqS (K : PySem.W.Frag) : R2 := fun x y H Q => ∃ (z : Str) (d : PyData), x = .str z ∧ Dd K H y d ∧ Q (.bl (isStr z d)) H
def valS (v : Value) : Str := match v with
  | .str x _ => x
  | _ => Str.empty
theorem strs_map : ∀ {ys : List Str} {us : List Value}, Vals (ys.map V.str) us → us.map valS = ys ∧ ∀ y ∈ us, ∃ z t, y = .str z t
  | [], _, .nil => ⟨rfl, fun y h => by cases h⟩
  | x :: xs, _, .cons r t => by
    obtain ⟨k, rfl⟩ := r
    obtain ⟨e, f⟩ := strs_map t
    refine ⟨by rw [List.map_cons, e]; rfl, fun y h => ?_⟩
    rcases List.mem_cons.mp h with rfl | h
    · exact ⟨_, _, rfl⟩
    · exact f y h
theorem op_inS' (hu : X.A.units + 1 < cLine) : OpR X (compareOp .In) (rInS X.K) := by
  intro pins s σ H x y v u Q I rx ry h
  obtain ⟨a, ys, d, rfl, hs, hd, q⟩ := h
  cases ry
  have ok : ∀ {its : List Value}, Vals (ys.map V.str) its → (∀ y ∈ its.toArray, EqAt X.A.in1 s y v (isStr (valS y) d)) ∧ its.toArray.any (fun y => isStr (valS y) d) = ys.any fun z => isStr z d := fun {its} r => by
    obtain ⟨e, f⟩ := strs_map r
    refine ⟨fun y hy => ?_, ?_⟩
    · obtain ⟨z, t, rfl⟩ := f y (by simpa using hy)
      exact (hd.strEq I z t (A := X.A.in1) hu v rx).2
    · rw [List.any_toArray, ← e, List.any_map]
      rfl
  rcases hs with hs | hs
  · obtain ⟨its, r, pl, _⟩ := I.list hs
    exact in_listAt (fun y => isStr (valS y) d) pl.isList (ok r).1 (by rw [(ok r).2]; exact ⟨.bl _, H, I, rfl, q⟩)
  · obtain ⟨its, r, pl, _⟩ := I.tuple hs
    exact in_tupleAt (fun y => isStr (valS y) d) pl (ok r).1 (by rw [(ok r).2]; exact ⟨.bl _, H, I, rfl, q⟩)
theorem op_eqS (hu : X.A.units < cLine) : OpR X (compareOp .Eq) (rEqS X.K) := by
  intro pins s σ H x y v u Q I rx ry h
  obtain ⟨z, d, rfl, hd, q⟩ := h
  obtain ⟨t, rfl⟩ := rx
  exact (hd.strEq I z t hu u ry).1 _ _ _ _ ⟨.bl _, H, I, rfl, q⟩
end
end L2.Fw
/-! raise C(e), C an own exception of one field: its own dict is told -/
namespace L2.Fw
open PySem PySem.Spec PyProof.Rows
/-- raise C(e): what the error's own dict holds -/
def tMkX (C : Addr) (f : Str) (t : TA) : St → Hp → XK → Prop := fun σ H Q => t σ H fun vs H1 => ∃ v, vs = [v] ∧ ∀ d, H1 d = none → Q (.ref C) (some d) (upd H1 d (.xd [(f, v)]))
section
variable {X : Cx} {x f : Str} {C : Addr} {k : Nat}
theorem pmk_xc {e : Expr} {t : TA} {p pos : Pos} (T : XC X.prog X.w X.K X.mg X.base x f C k) (hr : Room (k + 1) X.A) (hg : Gl X x) (ha : PA X [e] t)
    (hdb : (x == ("__debug__" : Str)) = false := by decide) (he : starEach [e] X.env = (false, eval e X.env) :: starEach [] X.env := by rfl) (hpl : (backTo pos (starEach [] X.env)).any (·.1) = false := by rfl) :
    PMk X (.Call (.Name x p) [e] [] pos) (tMkX C f t) := by
  obtain ⟨fI, fd, hi, ht, F, _, _, _, b⟩ := T.ini
  intro pins s σ H Q I h
  obtain ⟨nm, q, N, bs, bm, sn, sub, ab, col, dd, k0, k1, k2, k3, k5, hC, hbm⟩ := T.oex.cls
  refine wpAny_Call_Name_kw (ld_glob I hg T.gl ?_ hdb)
  refine PySem.W.callWith_K (h₀ := X.base) I.ok.mod.kin T.oex.kC (thn (ha.run pos pins s σ H _ I h) fun us s1 hh => ?_) he hpl
  obtain ⟨vs, H1, I1, r1, v, ev, q1⟩ := hh
  subst ev
  refine ⟨I1.kIn, ?_⟩
  obtain ⟨hp, g, dr, tk, os⟩ := s1
  have le : hp.objs.size ≤ hp.objs.size + 1 := Nat.le_succ _
  have free : H1 (hp.objs.size + 1) = none := I1.hok.fresh le
  have keep : ∀ b o, hp.get? b = some o → ((hp.push (PySem.W.kdv_tup us)).push (PySem.HandSPX.excO C hp.objs.size)).get? b = some o := fun b o e => Heap.get?_push_of_some _ (Heap.get?_push_of_some _ e)
  have at_ : ((hp.push (PySem.W.kdv_tup us)).push (PySem.HandSPX.excO C hp.objs.size)).get? (hp.objs.size + 1) = some (PySem.HandSPX.excO C hp.objs.size) := by heap_get
  have J : Inv X pins σ (upd H1 (hp.objs.size + 1) (exo (hp.objs.size + 1) C none)) ⟨(hp.push (PySem.W.kdv_tup us)).push (PySem.HandSPX.excO C hp.objs.size), g, dr, tk, os⟩ :=
    I1.laid (t' := tk) (a := hp.objs.size + 1) (o := exo (hp.objs.size + 1) C none) keep le (exo_ok at_)
  have r2 : Vals [V.ref (hp.objs.size + 1), v] (Value.ref (hp.objs.size + 1) :: us) := .cons rfl r1
  have l2 : (Value.ref (hp.objs.size + 1) :: us).length = 2 := r2.length.symm
  have few : us.length ≤ sizeLine := by
    rw [← Paired.length r1, sizeLine_eq]
    show 1 ≤ 16777216
    decide
  have sp : spXI X.K f [V.ref (hp.objs.size + 1), v] (upd H1 (hp.objs.size + 1) (exo (hp.objs.size + 1) C none)) (fun y H2 => y = .non ∧ ∃ d, H2 (hp.objs.size + 1) = some (exo (hp.objs.size + 1) C (some d)) ∧ H2 d = some (exd d [(f, v)]) ∧ H1 d = none ∧
      Q (.ref C) (some d) (upd (L2.del H2 (hp.objs.size + 1)) d (.xd [(f, v)]))) (fun _ _ _ => False) := by
    refine ⟨hp.objs.size + 1, C, v, rfl, T.oex, T.no, upd_same, fun d h1 h2 => ⟨rfl, d, upd_same, ?_, ?_, ?_⟩⟩
    · rw [upd_ne h2, upd_same]
    · rw [upd_ne h2] at h1
      exact h1
    · rw [upd_ne h2] at h1
      have e : upd (L2.del (upd (upd (upd H1 (hp.objs.size + 1) (exo (hp.objs.size + 1) C none)) d (exd d [(f, v)])) (hp.objs.size + 1) (exo (hp.objs.size + 1) C (some d))) (hp.objs.size + 1)) d (.xd [(f, v)]) = upd H1 d (.xd [(f, v)]) := by
        funext z
        unfold upd L2.del
        by_cases z1 : z = d
        · rw [if_pos z1, if_pos z1]
        · rw [if_neg z1, if_neg z1]
          by_cases z2 : z = hp.objs.size + 1
          · rw [if_pos z2, z2, free]
          · simp only [if_neg z1, if_neg z2]
      rw [e]
      exact q1 d h1
  have bb := b ⟨(hp.push (PySem.W.kdv_tup us)).push (PySem.HandSPX.excO C hp.objs.size), g, dr, tk, os⟩ (Value.ref (hp.objs.size + 1) :: us) J.kIn (by rw [List.append_nil]; exact l2)
  rw [List.append_nil] at bb
  show wpAny _ _ (call (.ref C) us) _ _ _
  refine wpAny_call (PySem.HandSPX.call_own PySem.F.excBase_ValueError (fun Y => PySem.HandSPX.refsVE_contains Y bm hbm) (I1.kIn _ _ hC) (PySem.W.looks_findIn I1.kIn hi) (fun self => PySem.W.bind_fn I1.kIn self ht) few
    (codeAny_mono (F.run _ X.stack _ _ ⟨Value.ref (hp.objs.size + 1) :: us, []⟩ (Value.ref (hp.objs.size + 1) :: us) _ _ (fun _ _ _ => False) (hr.make C us []) (J.env0.make C us []) bb r2 sp) fun r s' hq => ?_))
  cases r with
  | error er => exact passL (X := X) pins σ _ _ er s' J hq
  | ok fl =>
    cases fl with
    | ret u =>
      obtain ⟨y, H2, os2, bare2, un2, hok2, rv, ey, d, ea, ed, hd1, q2⟩ := hq
      subst ey
      obtain ⟨h2, g2, d2, t2, os'⟩ := s'
      exact ⟨rv, mk_end (raises_own T.oex.exC T.oex.tyC) I1 le keep un2 hok2 os2 bare2 ea ed hd1 q2⟩
    | next => exact False.elim hq
    | brk => exact False.elim hq
    | cont => exact False.elim hq
end
end L2.Fw
/-! tuple * k, k below 2 -/
namespace L2
open PySem PySem.Spec PyProof.Rows
theorem tuple_mul1 (l : Addr) (items : Array Value) (n : Nat) (dd : Option Addr) (sl : Array (Option Value)) (u : Tok) :
    Meets (Builtin.«tuple.__mul__» ⟨[.ref l, .int 1 u], []⟩) (fun _ R s => s.heap.get? l = some { cls := .type "tuple", dict := dd, data := .seq items n, slots := sl } ∧ R (.ok (.ret (Value.ref l))) s) :=
  .of_wp fun prog w A R s h => by
    obtain ⟨hp, g, d, tk, os⟩ := s
    obtain ⟨hl, h⟩ := h
    have f1 := AutoSeq1.idx_int
    wp_walk using wpAny_loadPart' hl
    exact ⟨_, rfl, h⟩
theorem tuple_mul0 (l : Addr) (items : Array Value) (n : Nat) (dd : Option Addr) (sl : Array (Option Value)) (u : Tok) (c1 : items.isEmpty = false) :
    Meets (Builtin.«tuple.__mul__» ⟨[.ref l, .int 0 u], []⟩) (fun _ R s => s.heap.get? l = some { cls := .type "tuple", dict := dd, data := .seq items n, slots := sl } ∧
      R (.ok (.ret (Value.ref s.heap.objs.size))) { s with heap := s.heap.push { cls := Value.type "tuple", data := Data.seq #[] }, toks := s.toks }) :=
  .of_wp fun prog w A R s h => by
    obtain ⟨hp, g, d, tk, os⟩ := s
    obtain ⟨hl, h⟩ := h
    have f1 := AutoSeq1.idx_int
    wp_walk using wpAny_loadPart' hl
    repeat (first
      | (refine wpAny_ite_false (decide_eq_false (by rw [c1]; decide)) ?_; wp_walk using wpAny_loadPart' hl))
    exact ⟨_, rfl, h⟩
/-- t * 1, t * 0 -/
def rRepS (K : PySem.W.Frag) : R2 := fun x y H Q => ∃ l k xs, x = .ref l ∧ y = .int k ∧ SqT K H l xs ∧ xs ≠ [] ∧ ((k = 1 ∧ Q (.ref l) H) ∨ (k = 0 ∧ ∀ p, H p = none → Q (.ref p) (upd H p (.tup []))))
theorem op_repS {X : Cx} : OpR X (binaryOp .Mult) (rRepS X.K) := by
  intro pins s σ H x y v u Q I rx ry h
  obtain ⟨l, k, xs, rfl, rfl, hT, hne, q⟩ := h
  cases rx
  obtain ⟨t, rfl⟩ := ry
  obtain ⟨its, r, ⟨⟨cls, dd, data, sl⟩, ho, hc, n, hd⟩, hs⟩ := I.tuple hT
  simp only at hc hd
  subst hc hd
  have hle : its.length = xs.length := r.length.symm
  have hn : its ≠ [] := fun e => hne (by
    rw [e] at hle
    exact List.eq_nil_of_length_eq_zero hle.symm)
  have hi : its.toArray.isEmpty = false := by
    cases its with
    | nil => exact absurd rfl hn
    | cons a b => rfl
  rcases q with ⟨rfl, q⟩ | ⟨rfl, q⟩
  · exact wpAny_binaryOp_repeat_ref (T := "tuple") (U := "int") (by decide) ⟨_, ho, rfl⟩ (fun s' => typeIs_int s' 1 t) noFill_tuple_mul F.fills_int_mul F.slot_int_rmul repeat_tuple F.slot_int_index.lookup
      (call_meets F.slot_int_rmul (typeIs_int s 1 t) F.entry_int_rmul (F.args_int_rmul_2 _ _) (int_rmul_tuple 1 t l its.toArray n dd sl)
        ⟨ho, rfl, ⟨_, ho, rfl⟩, call_meets F.slot_tuple_mul ⟨_, ho, rfl⟩ F.entry_tuple_mul (F.args_tuple_mul_2 _ _) (tuple_mul1 l its.toArray n dd sl t) ⟨ho, ⟨.ref l, H, I, rfl, q⟩⟩⟩)
  · refine wpAny_binaryOp_repeat_ref (T := "tuple") (U := "int") (by decide) ⟨_, ho, rfl⟩ (fun s' => typeIs_int s' 0 t) noFill_tuple_mul F.fills_int_mul F.slot_int_rmul repeat_tuple F.slot_int_index.lookup
      (call_meets F.slot_int_rmul (typeIs_int s 0 t) F.entry_int_rmul (F.args_int_rmul_2 _ _) (int_rmul_tuple 0 t l its.toArray n dd sl)
        ⟨ho, rfl, ⟨_, ho, rfl⟩, call_meets F.slot_tuple_mul ⟨_, ho, rfl⟩ F.entry_tuple_mul (F.args_tuple_mul_2 _ _) (tuple_mul0 l its.toArray n dd sl t hi) ⟨ho, ?_⟩⟩)
    refine ⟨.ref s.heap.objs.size, _, I.laid (t' := s.toks) (o := .tup []) (fun b ob q => Heap.get?_push_of_some _ q) (Nat.le_refl _) ?_, rfl, q _ (I.hok.fresh (Nat.le_refl _))⟩
    exact ⟨Nat.zero_le _, _, .nil, IsTup.new _ _⟩
end L2
/-! data with instances; expressions by what they make of data -/
namespace L2.Dc
open PySem PySem.Spec PyProof.Rows L2.Fw
inductive Da where
  | non | bl (b : Bool) | int (i : Int) | str (x : Str)
  | lst (xs : List Da) | tup (xs : List Da)
  | dct (ks : List Key) (vs : List Da)
  | ins (c : Str) (ks : List Str) (vs : List Da)
  /-- a list, its place known -/
  | lt (a : Addr) (xs : List Da)
  /-- a generator, a list of three numbers that change -/
  | gen
  /-- a list of numbers, as it was handed in -/
  | scr
  /-- an own error with its field -/
  | exc (c : Str) (d : Da)
/-- regions: what keeps its data, the generators, how many draws there were -/
structure Rg where
  n : Addr → Prop
  g : Addr → Prop
  b : Nat
instance : CoeFun Rg fun _ => Addr → Prop := ⟨Rg.n⟩
def Rg.add (N : Rg) (p : Addr) : Rg := ⟨fun a => N a ∨ a = p, N.g, N.b⟩
/-- the field of an own error class -/
def efld (c : Str) : Str := if c ∈ ([("InvalidName" : Str), "TakenName", "UnknownName"] : List Str) then "name" else "value"
/-- a tuple of the written part -/
def KT (K : PySem.W.Frag) (a : Addr) (xs : List V) : Prop := ∃ (o : Obj) (its : Array Value) (n : Nat), K.lookup a = some o ∧ o.cls = .type "tuple" ∧ o.data = .seq its n ∧ its.size ≤ sizeLine ∧ Vals xs its.toList
/-- a list of the written part -/
def KLs (K : PySem.W.Frag) (a : Addr) (xs : List V) : Prop := ∃ (o : Obj) (its : Array Value) (n : Nat), K.lookup a = some o ∧ o.cls = .type "list" ∧ o.dict = none ∧ o.data = .seq its n ∧ its.size ≤ sizeLine ∧ Vals xs its.toList
inductive DV (K : PySem.W.Frag) (H : Hp) (N : Rg) : V → Da → Prop
  | non : DV K H N .non .non
  | bl (b : Bool) : DV K H N (.bl b) (.bl b)
  | int (i : Int) : DV K H N (.int i) (.int i)
  | str (x : Str) : DV K H N (.str x) (.str x)
  | lst {a : Addr} {xs : List V} {ds : List Da} : N a → H a = some (.lst xs) → xs.length = ds.length → (∀ (i : Nat) (x : V) (d : Da), xs[i]? = some x → ds[i]? = some d → DV K H N x d) → DV K H N (.ref a) (.lst ds)
  | tup {a : Addr} {xs : List V} {ds : List Da} : (N a ∧ H a = some (.tup xs)) ∨ KT K a xs → xs.length = ds.length → (∀ (i : Nat) (x : V) (d : Da), xs[i]? = some x → ds[i]? = some d → DV K H N x d) → DV K H N (.ref a) (.tup ds)
  | dct {a : Addr} {kvs : List (Key × V)} {ks : List Key} {ds : List Da} : N a → H a = some (.dK kvs) → kvs.map (·.1) = ks → kvs.length = ds.length → (∀ (i : Nat) (p : Key × V) (d : Da), kvs[i]? = some p → ds[i]? = some d → DV K H N p.2 d) → DV K H N (.ref a) (.dct ks ds)
  | ins {a dx : Addr} {c : Str} {fs : List (Str × V)} {ks : List Str} {ds : List Da} : N a → H a = some (.ins (He.ga K c) dx fs) → fs.map (·.1) = ks → fs.length = ds.length → (∀ (i : Nat) (p : Str × V) (d : Da), fs[i]? = some p → ds[i]? = some d → DV K H N p.2 d) → DV K H N (.ref a) (.ins c ks ds)
  | lt {a : Addr} {xs : List V} {ds : List Da} : N a → H a = some (.lst xs) → xs.length = ds.length → (∀ (i : Nat) (x : V) (d : Da), xs[i]? = some x → ds[i]? = some d → DV K H N x d) → DV K H N (.ref a) (.lt a ds)
  | gen {a : Addr} : N.g a → DV K H N (.ref a) .gen
  | scr {a : Addr} {ns : List Int} : ((∃ o, N a ∧ H a = some (.frz o (.lst (ns.map V.int)))) ∨ KLs K a (ns.map V.int)) → DV K H N (.ref a) .scr
  | exc {a dd : Addr} {c : Str} {u : V} {d : Da} : N a → H a = some (exv a (He.ga K c) (some dd)) → N dd → H dd = some (.xd [(efld c, u)]) → DV K H N u d → DV K H N (.ref a) (.exc c d)
def DA (K : PySem.W.Frag) (H : Hp) (N : Rg) (xs : List V) (ds : List Da) : Prop := xs.length = ds.length ∧ ∀ (i : Nat) (x : V) (d : Da), xs[i]? = some x → ds[i]? = some d → DV K H N x d
section
variable {K : PySem.W.Frag} {H H' : Hp} {N N' : Rg}
theorem DV.fr (h : ∀ a o, N a → H a = some o → H' a = some o) (n : ∀ a, N a → H a ≠ none → N' a) {v : V} {d : Da} (q : DV K H N v d) (gg : ∀ a, N.g a → N'.g a := by first | exact fun _ h => h | assumption) : DV K H' N' v d := by
  induction q with
  | non => exact .non
  | bl b => exact .bl b
  | int i => exact .int i
  | str x => exact .str x
  | lst na hs hl _ ih => exact .lst (n _ na (by rw [hs]; simp)) (h _ _ na hs) hl ih
  | tup hs hl _ ih => exact .tup (hs.imp (fun q => ⟨n _ q.1 (by rw [q.2]; simp), h _ _ q.1 q.2⟩) id) hl ih
  | dct na hs hk hl _ ih => exact .dct (n _ na (by rw [hs]; simp)) (h _ _ na hs) hk hl ih
  | ins na hs hk hl _ ih => exact .ins (n _ na (by rw [hs]; simp)) (h _ _ na hs) hk hl ih
  | lt na hs hl _ ih => exact .lt (n _ na (by rw [hs]; simp)) (h _ _ na hs) hl ih
  | gen h => exact .gen (gg _ h)
  | scr hs => exact .scr (hs.imp (fun ⟨o, q1, q2⟩ => ⟨o, n _ q1 (by rw [q2]; simp), h _ _ q1 q2⟩) id)
  | exc na hs nd hd _ ih => exact .exc (n _ na (by rw [hs]; simp)) (h _ _ na hs) (n _ nd (by rw [hd]; simp)) (h _ _ nd hd) ih
theorem DV.same (h : Same H H') (n : ∀ a, N a → N' a) {v : V} {d : Da} (q : DV K H N v d) (gg : ∀ a, N.g a → N'.g a := by first | exact fun _ h => h | assumption) : DV K H' N' v d := q.fr (fun a o _ e => h a o e) (fun a x _ => n a x) gg
theorem DA.fr (h : ∀ a o, N a → H a = some o → H' a = some o) (n : ∀ a, N a → H a ≠ none → N' a) {vs : List V} {ds : List Da} (q : DA K H N vs ds) (gg : ∀ a, N.g a → N'.g a := by first | exact fun _ h => h | assumption) : DA K H' N' vs ds := ⟨q.1, fun i x d e1 e2 => (q.2 i x d e1 e2).fr h n gg⟩
theorem DA.same (h : Same H H') (n : ∀ a, N a → N' a) {vs : List V} {ds : List Da} (q : DA K H N vs ds) (gg : ∀ a, N.g a → N'.g a := by first | exact fun _ h => h | assumption) : DA K H' N' vs ds := q.fr (fun a o _ e => h a o e) (fun a x _ => n a x) gg
theorem DV.l {a : Addr} {xs : List V} {ds : List Da} (h : N a ∧ H a = some (.lst xs)) (q : DA K H N xs ds) : DV K H N (.ref a) (.lst ds) := .lst h.1 h.2 q.1 q.2
theorem DV.t {a : Addr} {xs : List V} {ds : List Da} (h : N a ∧ H a = some (.tup xs)) (q : DA K H N xs ds) : DV K H N (.ref a) (.tup ds) := .tup (.inl h) q.1 q.2
theorem DA.nil : DA K H N [] [] := ⟨rfl, fun _ _ _ e => by simp at e⟩
theorem DA.cons {v : V} {vs : List V} {d : Da} {ds : List Da} (h : DV K H N v d) (t : DA K H N vs ds) : DA K H N (v :: vs) (d :: ds) := ⟨by simp [t.1], fun i x e q1 q2 => by
  cases i with
  | zero =>
    simp at q1 q2
    subst q1 q2
    exact h
  | succ i => exact t.2 i x e (by simpa using q1) (by simpa using q2)⟩
theorem DA.inv {vs : List V} {d : Da} {ds : List Da} (h : DA K H N vs (d :: ds)) : ∃ v us, vs = v :: us ∧ DV K H N v d ∧ DA K H N us ds := by
  obtain ⟨hl, h⟩ := h
  cases vs with
  | nil => simp at hl
  | cons v us => exact ⟨v, us, rfl, h 0 v d rfl rfl, by simpa using hl, fun i x e q1 q2 => h (i + 1) x e (by simpa using q1) (by simpa using q2)⟩
theorem DA.inv0 {vs : List V} (h : DA K H N vs []) : vs = [] := by
  have e : vs.length = 0 := h.1
  exact List.length_eq_zero_iff.mp e
theorem DA.append {vs us : List V} {ds es : List Da} (h : DA K H N vs ds) (t : DA K H N us es) : DA K H N (vs ++ us) (ds ++ es) := by
  induction ds generalizing vs with
  | nil => rw [h.inv0]; exact t
  | cons d ds ih =>
    obtain ⟨v, ws, rfl, h1, h2⟩ := h.inv
    exact .cons h1 (ih h2)
theorem DA.drop {vs : List V} {ds : List Da} (h : DA K H N vs ds) (n : Nat) : DA K H N (vs.drop n) (ds.drop n) := ⟨by rw [List.length_drop, List.length_drop, h.1], fun i x d e1 e2 => h.2 (n + i) x d (by rw [← e1, List.getElem?_drop]) (by rw [← e2, List.getElem?_drop])⟩
theorem DA.take {vs : List V} {ds : List Da} (h : DA K H N vs ds) (n : Nat) : DA K H N (vs.take n) (ds.take n) := ⟨by rw [List.length_take, List.length_take, h.1], fun i x d e1 e2 => by
  rw [List.getElem?_take] at e1 e2
  split at e1
  · rename_i q
    rw [if_pos q] at e2
    exact h.2 i x d e1 e2
  · cases e1⟩
/-- what the inverse of a value's data tells -/
theorem DV.lst_inv {v : V} {ds : List Da} (h : DV K H N v (.lst ds)) : ∃ a xs, v = .ref a ∧ H a = some (.lst xs) ∧ N a ∧ DA K H N xs ds := by
  cases h with
  | lst h1 h2 h3 h4 => exact ⟨_, _, rfl, h2, h1, h3, h4⟩
theorem DV.lt_inv {v : V} {b : Addr} {ds : List Da} (h : DV K H N v (.lt b ds)) : ∃ xs, v = .ref b ∧ H b = some (.lst xs) ∧ N b ∧ DA K H N xs ds := by
  cases h with
  | lt h1 h2 h3 h4 => exact ⟨_, rfl, h2, h1, h3, h4⟩
theorem DV.tup_inv {v : V} {ds : List Da} (h : DV K H N v (.tup ds)) : ∃ a xs, v = .ref a ∧ SqT K H a xs ∧ ((N a ∧ H a = some (.tup xs)) ∨ KT K a xs) ∧ DA K H N xs ds := by
  cases h with
  | tup h1 h2 h3 => exact ⟨_, _, rfl, h1.elim (fun q => .of q.2) fun q => .inr q, h1, h2, h3⟩
theorem DV.ins_inv {v : V} {c : Str} {ks : List Str} {ds : List Da} (h : DV K H N v (.ins c ks ds)) : ∃ a dx fs, v = .ref a ∧ N a ∧ H a = some (.ins (He.ga K c) dx fs) ∧ fs.map (·.1) = ks ∧ DA K H N (fs.map (·.2)) ds := by
  cases h with
  | ins h1 h2 h3 h4 h5 => exact ⟨_, _, _, rfl, h1, h2, h3, by simpa using h4, fun i x d e1 e2 => by
      rw [List.getElem?_map, Option.map_eq_some_iff] at e1
      obtain ⟨p, e1, rfl⟩ := e1
      exact h5 i p d e1 e2⟩
end
/-- the numbers of a generator behind b draws -/
def GnO (b : Nat) (o : HO) : Prop := ∃ x y z : Int, o = .lst [.int x, .int y, .int z] ∧ 0 ≤ x ∧ x < 10 ^ 600 ∧ 0 ≤ y ∧ y < 2147483647 ∧ 0 ≤ z ∧ z ≤ 1000000 + 10 * (b : Int)
theorem GnO.mono {b c : Nat} {o : HO} (h : GnO b o) (e : b ≤ c) : GnO c o := by
  obtain ⟨x, y, z, h1, h2, h3, h4, h5, h6, h7⟩ := h
  exact ⟨x, y, z, h1, h2, h3, h4, h5, h6, by omega⟩
structure Al (N : Rg) (H : Hp) : Prop where
  n : ∀ a, N a → H a ≠ none
  g : ∀ a, N.g a → ∃ o, H a = some o ∧ GnO N.b o
  d : ∀ a, N.g a → ¬ N a
/-- the heap has grown, N with it; generators may have changed -/
structure Ev (N : Rg) (H : Hp) (N' : Rg) (H' : Hp) : Prop where
  s : ∀ a o, H a = some o → ¬ N.g a → H' a = some o
  n : ∀ a, N a → N' a
  gg : ∀ a, N.g a → N'.g a
  w : ∀ a, N' a → N a ∨ H a = none
  gw : ∀ a, N'.g a → N.g a ∨ H a = none
  tb : N.b ≤ N'.b
  al : Al N' H'
/-- without a draw -/
structure Grow (N : Rg) (H : Hp) (N' : Rg) (H' : Hp) : Prop extends Ev N H N' H' where
  bq : N'.b = N.b
section
variable {K : PySem.W.Frag} {H H' H1 H2 : Hp} {N N' N1 N2 : Rg}
theorem Al.up (al : Al N H) {p : Addr} (h : H p = none) (o : HO) : Al N (upd H p o) := ⟨fun a q => by
  rw [upd_ne (fun e => al.n a q (by rw [e]; exact h))]
  exact al.n a q, fun a q => by
  obtain ⟨u, e, z⟩ := al.g a q
  rw [upd_ne (ne_of_none e h)]
  exact ⟨u, e, z⟩, al.d⟩
theorem Al.add (al : Al N H) {p : Addr} (h : H p = none) (o : HO) : Al (N.add p) (upd H p o) := ⟨fun a q => by
  by_cases e : a = p
  · rw [e, upd_same]; simp
  · rw [upd_ne e]
    exact al.n a (q.resolve_right e), (al.up h o).g, fun a g q => q.elim (al.d a g) fun e => by
  obtain ⟨u, e2, _⟩ := al.g a g
  rw [e, h] at e2
  cases e2⟩
theorem Al.same (al : Al N H) (s : Same H H') : Al N H' := ⟨fun a h z => al.n a h (s.free z), fun a h => let ⟨o, e, z⟩ := al.g a h; ⟨o, s _ _ e, z⟩, al.d⟩
theorem Ev.ng (g : Ev N H N' H') {a : Addr} (h : N a) : ¬ N.g a := fun q => g.al.d a (g.gg a q) (g.n a h)
theorem Ev.pz (g : Ev N H N' H') : ∀ a o, N a → H a = some o → H' a = some o := fun a o h e => g.s a o e (g.ng h)
theorem Ev.free (g : Ev N H N' H') {a : Addr} (h : H' a = none) : H a = none := by
  cases q : H a with
  | none => rfl
  | some o =>
    by_cases n : N.g a
    · obtain ⟨u, e, _⟩ := g.al.g a (g.gg a n)
      rw [h] at e
      cases e
    · rw [g.s a o q n] at h
      cases h
theorem Ev.trans (a : Ev N H N1 H1) (b : Ev N1 H1 N2 H2) : Ev N H N2 H2 := ⟨fun x o e n => b.s x o (a.s x o e n) fun q => (a.gw x q).elim n fun z => absurd (z.symm.trans e) nofun, fun x h => b.n x (a.n x h), fun x h => b.gg x (a.gg x h), fun x h => (b.w x h).elim (a.w x) fun h => .inr (a.free h), fun x h => (b.gw x h).elim (a.gw x) fun h => .inr (a.free h), Nat.le_trans a.tb b.tb, b.al⟩
theorem Grow.trans (a : Grow N H N1 H1) (b : Grow N1 H1 N2 H2) : Grow N H N2 H2 := ⟨a.toEv.trans b.toEv, b.bq.trans a.bq⟩
theorem Grow.same (al : Al N H) (s : Same H H') : Grow N H N H' := ⟨⟨fun a o e _ => s a o e, fun _ h => h, fun _ h => h, fun _ h => .inl h, fun _ h => .inl h, Nat.le_refl _, al.same s⟩, rfl⟩
theorem Grow.refl (al : Al N H) : Grow N H N H := .same al (Same.refl _)
theorem Ev.refl (al : Al N H) : Ev N H N H := (Grow.refl al).toEv
theorem Grow.new (al : Al N H) {p : Addr} (h : H p = none) (o : HO) : Grow N H (N.add p) (upd H p o) := ⟨⟨fun a u e _ => same_new (Same.refl _) h a u e, fun _ h => .inl h, fun _ h => h, fun a q => q.imp id fun e => by rw [e]; exact h, fun _ h => .inl h, Nat.le_refl _, al.add h o⟩, rfl⟩
theorem Grow.apart (al : Al N H) {p : Addr} (h : H p = none) (o : HO) : Grow N H N (upd H p o) := ⟨⟨fun a u e _ => same_new (Same.refl _) h a u e, fun _ h => h, fun _ h => h, fun _ h => .inl h, fun _ h => .inl h, Nat.le_refl _, al.up h o⟩, rfl⟩
theorem DV.g (g : Ev N H N1 H1) {v : V} {d : Da} (q : DV K H N v d) : DV K H1 N1 v d := q.fr g.pz (fun a h _ => g.n a h) g.gg
theorem DA.g (g : Ev N H N1 H1) {vs : List V} {ds : List Da} (q : DA K H N vs ds) : DA K H1 N1 vs ds := q.fr g.pz (fun a h _ => g.n a h) g.gg
end
/-- what comes out: a value, an error, something that is not known, or what a drawn number below n leads to -/
inductive Ou (α : Type) where
  | ok (a : α) | er (c : Str) (d : Da) | bad | any (n : Nat) (k : Nat → Ou α)
def Ou.bind {α β : Type} (o : Ou α) (f : α → Ou β) : Ou β := match o with
  | .ok a => f a
  | .er c d => .er c d
  | .bad => .bad
  | .any n k => .any n fun i => (k i).bind f
def Ou.of {α : Type} (o : Option α) : Ou α := match o with
  | some a => .ok a
  | none => .bad
abbrev En' := List (Option Da)
structure EnvR (K : PySem.W.Frag) (H : Hp) (N : Rg) (ρ : En') (σ : St) : Prop where
  al : Al N H
  len : ρ.length = σ.length
  get : ∀ (i : Nat) (d : Da), ρ[i]? = some (some d) → ∃ v, σ[i]? = some (some v) ∧ DV K H N v d
/-- an error of class c with the field d may leave -/
def Rz (K : PySem.W.Frag) (E : XK) (N : Rg) (H : Hp) (b : Nat) (c : Str) (d : Da) : Prop := ∀ v dd N' H', Ev N H N' H' → N'.b = b → N' dd → DV K H' N' v d → H' dd = some (.xd [(efld c, v)]) → E (.ref (He.ga K c)) (some dd) H'
theorem Rz.g {K : PySem.W.Frag} {E : XK} {N N1 : Rg} {H H1 : Hp} {b : Nat} {c : Str} {d : Da} (h : Rz K E N H b c d) (g : Ev N H N1 H1) : Rz K E N1 H1 b c d := fun v dd N' H' g' => h v dd N' H' (g.trans g')
theorem EnvR.g {K : PySem.W.Frag} {H H1 : Hp} {N N1 : Rg} {ρ : En'} {σ : St} (h : EnvR K H N ρ σ) (g : Ev N H N1 H1) : EnvR K H1 N1 ρ σ := ⟨g.al, h.len, fun i d e => let ⟨v, h1, h2⟩ := h.get i d e; ⟨v, h1, h2.g g⟩⟩
/-- what is wanted of an outcome, b draws done -/
def WnB {α : Type} (K : PySem.W.Frag) (E : XK) (N : Rg) (H : Hp) (b : Nat) (o : Ou α) (Q : α → Rg → Hp → Prop) : Prop := match o with
  | .ok a => ∀ N' H', Ev N H N' H' → N'.b = b → Q a N' H'
  | .er c d => Rz K E N H b c d
  | .bad => False
  | .any n k => b < 10 ^ 10 ∧ ∀ i, i < n → WnB K E N H (b + 1) (k i) Q
def Wn {α : Type} (K : PySem.W.Frag) (E : XK) (N : Rg) (H : Hp) (o : Ou α) (Q : α → Rg → Hp → Prop) : Prop := WnB K E N H N.b o Q
/-- an expression's reading makes g of the slots' data -/
def DE (K : PySem.W.Frag) (E : XK) (t : TE) (g : En' → Ou Da) : Prop := ∀ (N : Rg) (ρ : En') (σ : St) (H : Hp) (Q : VK), EnvR K H N ρ σ →
  Wn K E N H (g ρ) (fun d N' H' => ∀ v, DV K H' N' v d → Q v H') → t σ H Q
def DT (K : PySem.W.Frag) (E : XK) (t : TT) (g : En' → Ou Bool) : Prop := ∀ (N : Rg) (ρ : En') (σ : St) (H : Hp) (Q : Bool → Hp → Prop), EnvR K H N ρ σ →
  Wn K E N H (g ρ) (fun b _ H' => Q b H') → t σ H Q
def DAr (K : PySem.W.Frag) (E : XK) (t : TA) (g : En' → Ou (List Da)) : Prop := ∀ (N : Rg) (ρ : En') (σ : St) (H : Hp) (Q : List V → Hp → Prop), EnvR K H N ρ σ →
  Wn K E N H (g ρ) (fun ds N' H' => ∀ vs, DA K H' N' vs ds → Q vs H') → t σ H Q
section
variable {α β : Type} {K : PySem.W.Frag} {E : XK} {H H' H1 H2 : Hp} {N N' N1 N2 : Rg} {o : Ou α} {f : α → Ou β} {Q : β → (Rg) → Hp → Prop}
theorem WnB.ev {α : Type} {Q : α → Rg → Hp → Prop} : ∀ {o : Ou α} {b : Nat}, WnB K E N H b o Q → Ev N H N1 H1 → WnB K E N1 H1 b o Q
  | .ok a, b, h, g => fun N' H' e z => h N' H' (g.trans e) z
  | .er c d, _, h, g => Rz.g h g
  | .bad, _, h, _ => h
  | .any n k, b, h, g => ⟨h.1, fun i hi => WnB.ev (h.2 i hi) g⟩
theorem WnB.bind {Q : β → Rg → Hp → Prop} : ∀ {o : Ou α} {b : Nat}, WnB K E N H b (o.bind f) Q → WnB K E N H b o (fun a N1 H1 => Wn K E N1 H1 (f a) Q)
  | .ok a, b, h => fun N1 H1 g z => by
    show WnB K E N1 H1 N1.b (f a) Q
    rw [z]
    exact WnB.ev (o := f a) h g
  | .er c d, _, h => h
  | .bad, _, h => h
  | .any n k, _, h => ⟨h.1, fun i hi => WnB.bind (h.2 i hi)⟩
theorem WnB.mono {Q' Q : α → Rg → Hp → Prop} : ∀ {o : Ou α} {b : Nat}, WnB K E N H b o Q → (∀ a N' H', Ev N H N' H' → Q a N' H' → Q' a N' H') → WnB K E N H b o Q'
  | .ok a, _, h, q => fun N' H' g z => q a N' H' g (h N' H' g z)
  | .er c d, _, h, _ => h
  | .bad, _, h, _ => h
  | .any n k, _, h, q => ⟨h.1, fun i hi => WnB.mono (h.2 i hi) q⟩
theorem Wn.nb {Q : α → Rg → Hp → Prop} (h : Wn K E N H o Q) : o ≠ .bad := fun e => by
  subst e
  exact h
theorem Wn.ng {α : Type} {Q : α → Rg → Hp → Prop} (h : Wn K E N H (.bad : Ou α) Q) {p : Prop} : p := absurd rfl (Wn.nb h)
theorem Wn.g {o : Ou α} {Q : α → Rg → Hp → Prop} (h : Wn K E N H o Q) (g : Grow N H N1 H1) : Wn K E N1 H1 o Q := by
  unfold Wn
  rw [g.bq]
  exact WnB.ev h g.toEv
theorem Wn.bind {Q : β → Rg → Hp → Prop} (h : Wn K E N H (o.bind f) Q) : Wn K E N H o (fun a N1 H1 => Wn K E N1 H1 (f a) Q) := WnB.bind h
theorem Wn.mono {Q' Q : α → Rg → Hp → Prop} (h : Wn K E N H o Q) (q : ∀ a N' H', Ev N H N' H' → Q a N' H' → Q' a N' H') : Wn K E N H o Q' := WnB.mono h q
theorem Wn.now {a : α} {Q : α → Rg → Hp → Prop} (h : Wn K E N H (.ok a) Q) {N' : Rg} {H' : Hp} (g : Grow N H N' H') : Q a N' H' := h N' H' g.toEv g.bq
theorem Wn.okk {a : α} {Q : α → Rg → Hp → Prop} (e : o = .ok a) (h : ∀ N' H', Grow N H N' H' → Q a N' H') : Wn K E N H o Q := by
  subst e
  exact fun N' H' g z => h N' H' ⟨g, z⟩
theorem Wn.of {a : Option α} {Q : α → Rg → Hp → Prop} (h : Wn K E N H (Ou.of a) Q) : ∃ x, a = some x ∧ ∀ N' H', Grow N H N' H' → Q x N' H' := by
  cases a with
  | none => exact h.ng
  | some x => exact ⟨x, rfl, fun N' H' g => h N' H' g.toEv g.bq⟩
end
/-! ### names, constants -/
def gVar (i : Nat) : En' → Ou Da := fun ρ => match ρ[i]? with
  | some (some d) => .ok d
  | _ => .bad
def gC (d : Da) : En' → Ou Da := fun _ => .ok d
section
variable {K : PySem.W.Frag} {E : XK} {t ta tb tc : TE} {g ga gb gc : En' → Ou Da} {tt tu : TT} {b bb : En' → Ou Bool} {ts tr : TA} {gs gr : En' → Ou (List Da)}
theorem de_var (i : Nat) : DE K E (tVar i) (gVar i) := by
  intro N ρ σ H Q en w
  unfold gVar at w
  split at w
  · rename_i d e
    obtain ⟨v, h1, h2⟩ := en.get i d e
    exact ⟨v, h1, w.now (.refl en.al) v h2⟩
  · exact absurd rfl w.nb
theorem de_tc {v : V} {d : Da} (h : ∀ H N, DV K H N v d) : DE K E (tC v) (gC d) := fun N ρ σ H Q en w => w.now (.refl en.al) v (h H N)
theorem de_int (i : Int) : DE K E (tC (.int i)) (gC (.int i)) := de_tc fun _ _ => .int i
theorem de_bl (i : Bool) : DE K E (tC (.bl i)) (gC (.bl i)) := de_tc fun _ _ => .bl i
theorem de_str (i : Str) : DE K E (tC (.str i)) (gC (.str i)) := de_tc fun _ _ => .str i
theorem de_non : DE K E (tC .non) (gC .non) := de_tc fun _ _ => .non
/-! ### operators -/
def gOp (op : Da → Da → Option Da) (ga gb : En' → Ou Da) : En' → Ou Da := fun ρ => (ga ρ).bind fun x => (gb ρ).bind fun y => Ou.of (op x y)
/-- an operator by values makes op of data -/
def DO (K : PySem.W.Frag) (r : R2) (op : Da → Da → Option Da) : Prop := ∀ (N : Rg) (H : Hp) (x y : V) (dx dy d : Da) (Q : VK), Al N H → DV K H N x dx → DV K H N y dy → op dx dy = some d →
  (∀ N' H', Grow N H N' H' → ∀ v, DV K H' N' v d → Q v H') → r x y H Q
theorem de_op {r : R2} {op : Da → Da → Option Da} (ho : DO K r op) (ha : DE K E ta ga) (hb : DE K E tb gb) : DE K E (tOp r ta tb) (gOp op ga gb) := by
  intro N ρ σ H Q en w
  refine ha N ρ σ H _ en (w.bind.mono fun dx N1 H1 g1 w1 x hx => ?_)
  refine hb N1 ρ σ H1 _ (en.g g1) (w1.bind.mono fun dy N2 H2 g2 w2 y hy => ?_)
  obtain ⟨d, e, q⟩ := w2.of
  exact ho N2 H2 x y dx dy d Q g2.al (hx.g g2) hy e q
theorem DO.bl {r : R2} {op : Da → Da → Option Bool} (h : ∀ (N : Rg) (H : Hp) (x y : V) (dx dy : Da) (b : Bool) (Q : VK), DV K H N x dx → DV K H N y dy → op dx dy = some b → Q (.bl b) H → r x y H Q) : DO K r fun x y => (op x y).map .bl := by
  intro N H x y dx dy d Q al hx hy e q
  obtain ⟨b, e2, rfl⟩ := Option.map_eq_some_iff.mp e
  exact h N H x y dx dy b Q hx hy e2 (q N H (.refl al) _ (.bl b))
/-! ### Booleans -/
def gAnd (ga gb : En' → Ou Da) : En' → Ou Da := fun ρ => (ga ρ).bind fun x => match x with
  | .bl true => gb ρ
  | .bl false => .ok (.bl false)
  | _ => .bad
def gOr (ga gb : En' → Ou Da) : En' → Ou Da := fun ρ => (ga ρ).bind fun x => match x with
  | .bl true => .ok (.bl true)
  | .bl false => gb ρ
  | _ => .bad
def gNot (ga : En' → Ou Da) : En' → Ou Da := fun ρ => (ga ρ).bind fun x => match x with
  | .bl b => .ok (.bl (!b))
  | _ => .bad
theorem DV.bl_inv {H : Hp} {N : Rg} {v : V} {b : Bool} (h : DV K H N v (.bl b)) : v = .bl b := by
  cases h
  rfl
theorem DV.int_inv {H : Hp} {N : Rg} {v : V} {b : Int} (h : DV K H N v (.int b)) : v = .int b := by
  cases h
  rfl
theorem DV.str_inv {H : Hp} {N : Rg} {v : V} {b : Str} (h : DV K H N v (.str b)) : v = .str b := by
  cases h
  rfl
theorem de_and (ha : DE K E ta ga) (hb : DE K E tb gb) : DE K E (tAndV ta tb) (gAnd ga gb) := by
  intro N ρ σ H Q en w
  refine ha N ρ σ H _ en (w.bind.mono fun dx N1 H1 g1 w1 x hx => ?_)
  cases dx with
  | bl c =>
    cases hx.bl_inv
    refine ⟨c, rfl, ?_⟩
    cases c with
    | true => exact hb N1 ρ σ H1 _ (en.g g1) w1
    | false => exact w1.now (.refl g1.al) _ (.bl false)
  | _ => exact absurd rfl w1.nb
theorem de_or (ha : DE K E ta ga) (hb : DE K E tb gb) : DE K E (tOrV ta tb) (gOr ga gb) := by
  intro N ρ σ H Q en w
  refine ha N ρ σ H _ en (w.bind.mono fun dx N1 H1 g1 w1 x hx => ?_)
  cases dx with
  | bl c =>
    cases hx.bl_inv
    refine ⟨c, rfl, ?_⟩
    cases c with
    | false => exact hb N1 ρ σ H1 _ (en.g g1) w1
    | true => exact w1.now (.refl g1.al) _ (.bl true)
  | _ => exact absurd rfl w1.nb
theorem de_not (ha : DE K E ta ga) : DE K E (tNotV ta) (gNot ga) := by
  intro N ρ σ H Q en w
  refine ha N ρ σ H _ en (w.bind.mono fun dx N1 H1 g1 w1 x hx => ?_)
  cases dx with
  | bl c =>
    cases hx.bl_inv
    exact ⟨c, rfl, w1.now (.refl g1.al) _ (.bl _)⟩
  | _ => exact absurd rfl w1.nb
/-! ### tests -/
def gTru (ga : En' → Ou Da) : En' → Ou Bool := fun ρ => (ga ρ).bind fun x => match x with
  | .bl b => .ok b
  | _ => .bad
theorem dt_b (ha : DE K E ta ga) : DT K E (tB ta) (gTru ga) := by
  intro N ρ σ H Q en w
  refine ha N ρ σ H _ en (w.bind.mono fun dx N1 H1 g1 w1 x hx => ?_)
  cases dx with
  | bl c =>
    cases hx.bl_inv
    exact ⟨c, rfl, w1.now (.refl g1.al)⟩
  | _ => exact absurd rfl w1.nb
theorem dt_test (ha : DE K E ta ga) : DT K E (tTest ta) (gTru ga) := dt_b ha
/-- truth of data -/
def tru : Da → Option Bool
  | .non => some false
  | .bl b => some b
  | .int i => some (i != 0)
  | .str y => if y.length ≤ sizeLine then some ((y.length : Int) != 0) else none
  | .lst xs => some (!xs.isEmpty)
  | .tup xs => some (!xs.isEmpty)
  | .dct ks _ => some (!ks.isEmpty)
  | .ins _ _ _ => none
  | .lt _ xs => some (!xs.isEmpty)
  | .gen => none
  | .scr => none
  | .exc _ _ => none
def gTr (ga : En' → Ou Da) : En' → Ou Bool := fun ρ => (ga ρ).bind fun x => Ou.of (tru x)
theorem isEmpty_len {α β : Type} {xs : List α} {ys : List β} (h : xs.length = ys.length) : xs.isEmpty = ys.isEmpty := by
  cases xs <;> cases ys <;> first | rfl | simp at h
theorem dt_tru (ha : DE K E ta ga) : DT K E (tTru K ta) (gTr ga) := by
  intro N ρ σ H Q en w
  refine ha N ρ σ H _ en (w.bind.mono fun dx N1 H1 g1 w1 x hx => ?_)
  obtain ⟨b, e, q⟩ := w1.of
  refine ⟨b, ?_, q N1 H1 (.refl g1.al)⟩
  cases hx with
  | non => exact (Option.some.inj e).symm
  | bl c => exact (Option.some.inj e).symm
  | int i => exact (Option.some.inj e).symm
  | str y =>
    by_cases h : y.length ≤ sizeLine
    · have e' : some ((y.length : Int) != 0) = some b := by rw [← e]; exact (if_pos h).symm
      exact ⟨h, (Option.some.inj e').symm⟩
    · have e' : none = some b := by rw [← e]; exact (if_neg h).symm
      cases e'
  | lst h0 h1 h2 h3 => exact .inl ⟨_, .of h1, by rw [isEmpty_len h2]; exact (Option.some.inj e).symm⟩
  | tup h1 h2 h3 => exact .inr (.inl ⟨_, h1.elim (fun q => .of q.2) fun q => .inr q, by rw [isEmpty_len h2]; exact (Option.some.inj e).symm⟩)
  | dct h1 h2 h3 h4 h5 => exact .inr (.inr ⟨_, h2, by rw [← (Option.some.inj e), ← h3]; cases ‹List (Key × V)› <;> rfl⟩)
  | ins h1 h2 h3 h4 h5 => cases e
  | lt h0 h1 h2 h3 => exact .inl ⟨_, .of h1, by rw [isEmpty_len h2]; exact (Option.some.inj e).symm⟩
  | gen => cases e
  | scr => cases e
  | exc => cases e
def bAnd (ga gb : En' → Ou Bool) : En' → Ou Bool := fun ρ => (ga ρ).bind fun x => if x = true then gb ρ else .ok false
def bOr (ga gb : En' → Ou Bool) : En' → Ou Bool := fun ρ => (ga ρ).bind fun x => if x = true then .ok true else gb ρ
def bNot (ga : En' → Ou Bool) : En' → Ou Bool := fun ρ => (ga ρ).bind fun x => .ok !x
theorem dt_and (ha : DT K E tt b) (hb : DT K E tu bb) : DT K E (tAnd tt tu) (bAnd b bb) := by
  intro N ρ σ H Q en w
  refine ha N ρ σ H _ en (w.bind.mono fun c N1 H1 g1 w1 => ?_)
  cases c with
  | true => exact hb N1 ρ σ H1 _ (en.g g1) w1
  | false => exact w1.now (.refl g1.al)
theorem dt_or (ha : DT K E tt b) (hb : DT K E tu bb) : DT K E (tOr tt tu) (bOr b bb) := by
  intro N ρ σ H Q en w
  refine ha N ρ σ H _ en (w.bind.mono fun c N1 H1 g1 w1 => ?_)
  cases c with
  | false => exact hb N1 ρ σ H1 _ (en.g g1) w1
  | true => exact w1.now (.refl g1.al)
theorem dt_not (ha : DT K E tt b) : DT K E (tNot tt) (bNot b) := by
  intro N ρ σ H Q en w
  refine ha N ρ σ H _ en (w.bind.mono fun c N1 H1 g1 w1 => ?_)
  exact w1.now (.refl g1.al)
def gIf (c : En' → Ou Bool) (ga gb : En' → Ou Da) : En' → Ou Da := fun ρ => (c ρ).bind fun x => if x = true then ga ρ else gb ρ
theorem de_if (hc : DT K E tt b) (ha : DE K E ta ga) (hb : DE K E tb gb) : DE K E (tIf tt ta tb) (gIf b ga gb) := by
  intro N ρ σ H Q en w
  refine hc N ρ σ H _ en (w.bind.mono fun c N1 H1 g1 w1 => ?_)
  cases c with
  | true => exact ha N1 ρ σ H1 _ (en.g g1) w1
  | false => exact hb N1 ρ σ H1 _ (en.g g1) w1
/-! ### arguments, displays -/
def fNil : En' → Ou (List Da) := fun _ => .ok []
def fCons (g : En' → Ou Da) (gs : En' → Ou (List Da)) : En' → Ou (List Da) := fun ρ => (g ρ).bind fun x => (gs ρ).bind fun xs => .ok (x :: xs)
def seqOf : Da → Option (List Da)
  | .lst xs => some xs
  | .tup xs => some xs
  | .lt _ xs => some xs
  | _ => none
def fStar (g : En' → Ou Da) (gs : En' → Ou (List Da)) : En' → Ou (List Da) := fun ρ => (g ρ).bind fun x => (Ou.of (seqOf x)).bind fun ys => (gs ρ).bind fun xs => .ok (ys ++ xs)
theorem da_nil : DAr K E tNil fNil := fun N ρ σ H Q en w => w.now (.refl en.al) [] .nil
theorem da_cons (ha : DE K E ta ga) (hr : DAr K E ts gs) : DAr K E (tCons ta ts) (fCons ga gs) := by
  intro N ρ σ H Q en w
  refine ha N ρ σ H _ en (w.bind.mono fun dx N1 H1 g1 w1 x hx => ?_)
  refine hr N1 ρ σ H1 _ (en.g g1) (w1.bind.mono fun ds N2 H2 g2 w2 vs hv => ?_)
  exact w2.now (.refl g2.al) _ (.cons (hx.g g2) hv)
theorem da_star (ha : DE K E ta ga) (hr : DAr K E ts gs) : DAr K E (StX.tStar K ta ts) (fStar ga gs) := by
  intro N ρ σ H Q en w
  refine ha N ρ σ H _ en (w.bind.mono fun dx N1 H1 g1 w1 x hx => ?_)
  obtain ⟨ys, e, w2⟩ := w1.bind.of
  have z : ∃ p xs, x = .ref p ∧ (SqT K H1 p xs ∨ SqL K H1 p xs) ∧ DA K H1 N1 xs ys := by
    cases dx with
    | lst xs =>
      cases e
      obtain ⟨a, xs, rfl, h1, _, h2⟩ := hx.lst_inv
      exact ⟨a, xs, rfl, .inr (.of h1), h2⟩
    | tup xs =>
      cases e
      obtain ⟨a, xs, rfl, h1, _, h2⟩ := hx.tup_inv
      exact ⟨a, xs, rfl, .inl h1, h2⟩
    | lt b xs =>
      cases e
      obtain ⟨xs, rfl, h1, _, h2⟩ := hx.lt_inv
      exact ⟨b, xs, rfl, .inr (.of h1), h2⟩
    | _ => cases e
  obtain ⟨p, xs, rfl, hs, hd⟩ := z
  refine ⟨p, xs, rfl, hs, ?_⟩
  refine hr N1 ρ σ H1 _ (en.g g1) ((w2 N1 H1 (.refl g1.al)).bind.mono fun ds N2 H2 g2 w2 vs hv => ?_)
  exact w2.now (.refl g2.al) _ ((hd.g g2).append hv)
def fit (xs : List Da) : Bool := Nat.ble xs.length 1000000
theorem fit_line {xs : List Da} (h : fit xs = true) : xs.length ≤ sizeLine := by
  have z : xs.length ≤ 1000000 := Nat.le_of_ble_eq_true h
  rw [sizeLine_eq]
  omega
def mkL (xs : List Da) : Ou Da := if fit xs = true then .ok (.lst xs) else .bad
def mkT (xs : List Da) : Ou Da := if fit xs = true then .ok (.tup xs) else .bad
def fLst (gs : En' → Ou (List Da)) : En' → Ou Da := fun ρ => (gs ρ).bind mkL
def fTup (gs : En' → Ou (List Da)) : En' → Ou Da := fun ρ => (gs ρ).bind mkT
theorem Wn.mkL {N : Rg} {H : Hp} {xs : List Da} {Q : Da → (Rg) → Hp → Prop} (w : Wn K E N H (mkL xs) Q) : xs.length ≤ sizeLine ∧ ∀ N' H', Grow N H N' H' → Q (.lst xs) N' H' := by
  unfold Dc.mkL at w
  split at w
  · rename_i h
    exact ⟨fit_line h, fun N' H' g => w.now g⟩
  · exact absurd rfl w.nb
theorem Wn.mkT {N : Rg} {H : Hp} {xs : List Da} {Q : Da → (Rg) → Hp → Prop} (w : Wn K E N H (mkT xs) Q) : xs.length ≤ sizeLine ∧ ∀ N' H', Grow N H N' H' → Q (.tup xs) N' H' := by
  unfold Dc.mkT at w
  split at w
  · rename_i h
    exact ⟨fit_line h, fun N' H' g => w.now g⟩
  · exact absurd rfl w.nb
theorem newL {N : Rg} {H : Hp} {p : Addr} {xs : List V} {ds : List Da} (al : Al N H) (h : H p = none) (q : DA K H N xs ds) : DV K (upd H p (.lst xs)) (N.add p) (.ref p) (.lst ds) := .l ⟨.inr rfl, upd_same⟩ (q.g (Grow.new al h _).toEv)
theorem newT {N : Rg} {H : Hp} {p : Addr} {xs : List V} {ds : List Da} (al : Al N H) (h : H p = none) (q : DA K H N xs ds) : DV K (upd H p (.tup xs)) (N.add p) (.ref p) (.tup ds) := .t ⟨.inr rfl, upd_same⟩ (q.g (Grow.new al h _).toEv)
theorem de_lst (hr : DAr K E ts gs) : DE K E (tLst ts) (fLst gs) := by
  intro N ρ σ H Q en w
  refine hr N ρ σ H _ en (w.bind.mono fun ds N1 H1 g1 w1 vs hv => ?_)
  obtain ⟨hl, q⟩ := Wn.mkL w1
  exact ⟨by rw [hv.1]; exact hl, fun p np => q _ _ (.new g1.al np _) _ (newL g1.al np hv)⟩
theorem de_tup (hr : DAr K E ts gs) : DE K E (tTup ts) (fTup gs) := by
  intro N ρ σ H Q en w
  refine hr N ρ σ H _ en (w.bind.mono fun ds N1 H1 g1 w1 vs hv => ?_)
  obtain ⟨hl, q⟩ := Wn.mkT w1
  exact ⟨by rw [hv.1]; exact hl, fun p np => q _ _ (.new g1.al np _) _ (newT g1.al np hv)⟩
/-! ### calls by values -/
def gCB (f : List Da → Option Da) (gs : En' → Ou (List Da)) : En' → Ou Da := fun ρ => (gs ρ).bind fun xs => Ou.of (f xs)
def DC (K : PySem.W.Frag) (r : List V → Hp → VK → Prop) (f : List Da → Option Da) : Prop := ∀ (N : Rg) (H : Hp) (vs : List V) (ds : List Da) (d : Da) (Q : VK), Al N H → DA K H N vs ds → f ds = some d →
  (∀ N' H', Grow N H N' H' → ∀ v, DV K H' N' v d → Q v H') → r vs H Q
theorem de_cb {r : List V → Hp → VK → Prop} {f : List Da → Option Da} (h : DC K r f) (hr : DAr K E ts gs) : DE K E (tCB r ts) (gCB f gs) := by
  intro N ρ σ H Q en w
  refine hr N ρ σ H _ en (w.bind.mono fun ds N1 H1 g1 w1 vs hv => ?_)
  obtain ⟨d, e, q⟩ := w1.of
  exact h N1 H1 vs ds d Q g1.al hv e q
/-! ### own defs -/
/-- a def that makes m of its arguments' data -/
def spD (K : PySem.W.Frag) (m : List Da → Ou Da) : Sp := fun vs H Q E => ∃ N ds, Al N H ∧ DA K H N vs ds ∧ Wn K E N H (m ds) fun d N' H' => ∀ v, DV K H' N' v d → Q v H'
def gCall (m : List Da → Ou Da) (gs : En' → Ou (List Da)) : En' → Ou Da := fun ρ => (gs ρ).bind m
theorem de_call {m : List Da → Ou Da} (hr : DAr K E ts gs) : DE K E (tCallX (spD K m) (fun _ => E) ts) (gCall m gs) := by
  intro N ρ σ H Q en w
  refine hr N ρ σ H _ en (w.bind.mono fun ds N1 H1 g1 w1 vs hv => ?_)
  exact ⟨N1, ds, g1.al, hv, w1⟩
/-- within a comprehension nothing may be let out -/
def noEr {α : Type} (o : Ou α) : Ou α := match o with
  | .er _ _ => .bad
  | .ok a => .ok a
  | .bad => .bad
  | .any n k => .any n fun i => noEr (k i)
def gCallZ (m : List Da → Ou Da) (gs : En' → Ou (List Da)) : En' → Ou Da := fun ρ => (gs ρ).bind fun xs => noEr (m xs)
theorem WnB.noEr {α : Type} {E E' : XK} {N : Rg} {H : Hp} {Q : α → Rg → Hp → Prop} : ∀ {o : Ou α} {b : Nat}, WnB K E N H b (noEr o) Q → WnB K E' N H b o Q
  | .ok a, _, w => w
  | .er c d, _, w => w.elim
  | .bad, _, w => w
  | .any n k, _, w => ⟨w.1, fun i hi => WnB.noEr (w.2 i hi)⟩
theorem Wn.noEr {α : Type} {E E' : XK} {N : Rg} {H : Hp} {o : Ou α} {Q : α → Rg → Hp → Prop} (w : Wn K E N H (noEr o) Q) : Wn K E' N H o Q := WnB.noEr w
theorem de_callZ {m : List Da → Ou Da} (hr : DAr K E ts gs) : DE K E (tCallX (spD K m) Z0 ts) (gCallZ m gs) := by
  intro N ρ σ H Q en w
  refine hr N ρ σ H _ en (w.bind.mono fun ds N1 H1 g1 w1 vs hv => ?_)
  exact ⟨N1, ds, g1.al, hv, w1.noEr⟩
/-! ### fields -/
def fldOf (f : Str) : List Str → List Da → Option Da
  | k :: ks, v :: vs => if f == k then some v else fldOf f ks vs
  | _, _ => none
def gFld (c f : Str) (g : En' → Ou Da) : En' → Ou Da := fun ρ => (g ρ).bind fun x => match x with
  | .ins c' ks vs => if c' = c then Ou.of (fldOf f ks vs) else .bad
  | _ => .bad
theorem fldOf_at {H : Hp} {N : Rg} {f : Str} : ∀ {fs : List (Str × V)} {ds : List Da} {d : Da}, DA K H N (fs.map (·.2)) ds → fldOf f (fs.map (·.1)) ds = some d → ∃ v, fs.lookup f = some v ∧ DV K H N v d
  | [], ds, d, _, e => by simp [fldOf] at e
  | (k, x) :: fs, [], d, _, e => by simp [fldOf] at e
  | (k, x) :: fs, y :: ds, d, h, e => by
    obtain ⟨v, us, e1, h1, h2⟩ := h.inv
    simp only [List.map_cons, List.cons.injEq] at e1
    obtain ⟨rfl, rfl⟩ := e1
    simp only [List.map_cons, fldOf] at e
    by_cases q : (f == k) = true
    · rw [if_pos q] at e
      cases e
      exact ⟨x, by simp only [List.lookup, q], h1⟩
    · rw [if_neg q] at e
      obtain ⟨v, h3, h4⟩ := fldOf_at h2 e
      exact ⟨v, by simp only [List.lookup, Bool.eq_false_iff.mpr q]; exact h3, h4⟩
theorem de_fld {c f : Str} (hc : Cls K (He.ga K c)) (hn : NoAttr K (He.ga K c) f) (ha : DE K E ta ga) : DE K E (tFld K ta f) (gFld c f ga) := by
  intro N ρ σ H Q en w
  refine ha N ρ σ H _ en (w.bind.mono fun dx N1 H1 g1 w1 x hx => ?_)
  cases dx with
  | ins c' ks vs =>
    by_cases hcc : c' = c
    · subst hcc
      dsimp only at w1
      rw [if_pos rfl] at w1
      obtain ⟨d, e, q⟩ := w1.of
      obtain ⟨a, dx, fs, rfl, h1, h2, rfl, h3⟩ := hx.ins_inv
      obtain ⟨v, h4, h5⟩ := fldOf_at h3 e
      exact ⟨a, _, dx, fs, v, rfl, h2, hc, hn, h4, q N1 H1 (.refl g1.al) v h5⟩
    · dsimp only at w1
      rw [if_neg hcc] at w1
      exact absurd rfl w1.nb
  | _ => exact absurd rfl w1.nb
end
end L2.Dc
/-! operators and built-ins over data -/
namespace L2.Dc
open PySem PySem.Spec PyProof.Rows L2.Fw
section
variable {K : PySem.W.Frag} {E : XK} {N N' : Rg} {H H' : Hp} {v x y : V} {d dx dy : Da} {Q : VK}
/-! ### ints -/
def addI : Da → Da → Option Da
  | .int i, .int j => some (.int (i + j))
  | _, _ => none
def subI : Da → Da → Option Da
  | .int i, .int j => some (.int (i - j))
  | _, _ => none
def mulI : Da → Da → Option Da
  | .int i, .int j => if -(2 ^ 64) < j ∧ j < 2 ^ 64 then some (.int (i * j)) else none
  | _, _ => none
def modI : Da → Da → Option Da
  | .int i, .int j => if 0 < j then some (.int (i % j)) else none
  | _, _ => none
def cmpI (p : Int → Int → Bool) : Da → Da → Option Bool
  | .int i, .int j => some (p i j)
  | _, _ => none
theorem do_int {op : Da → Da → Option Da} {C : Int → Int → Prop} {f : Int → Int → Int} (h : ∀ dx dy d, op dx dy = some d → ∃ i j, dx = .int i ∧ dy = .int j ∧ C i j ∧ d = .int (f i j)) : DO K (rI C fun i j => .int (f i j)) op := by
  intro N H x y dx dy d Q al hx hy e q
  obtain ⟨i, j, rfl, rfl, hc, rfl⟩ := h dx dy d e
  cases hx
  cases hy
  exact ⟨i, j, rfl, rfl, hc, q N H (.refl al) _ (.int _)⟩
theorem do_int0 {op : Da → Da → Option Da} {f : Int → Int → Int} (h : ∀ dx dy d, op dx dy = some d → ∃ i j, dx = .int i ∧ dy = .int j ∧ d = .int (f i j)) : DO K (rI0 fun i j => .int (f i j)) op := by
  intro N H x y dx dy d Q al hx hy e q
  obtain ⟨i, j, rfl, rfl, rfl⟩ := h dx dy d e
  cases hx
  cases hy
  exact ⟨i, j, rfl, rfl, q N H (.refl al) _ (.int _)⟩
theorem do_add : DO K rAddI addI := do_int0 fun dx dy d e => by
  unfold addI at e
  split at e
  · exact ⟨_, _, rfl, rfl, (Option.some.inj e).symm⟩
  · cases e
theorem do_sub : DO K rSubI subI := do_int0 fun dx dy d e => by
  unfold subI at e
  split at e
  · exact ⟨_, _, rfl, rfl, (Option.some.inj e).symm⟩
  · cases e
theorem do_mul : DO K rMulI mulI := do_int fun dx dy d e => by
  unfold mulI at e
  split at e
  · split at e
    · rename_i h
      exact ⟨_, _, rfl, rfl, .inr h, (Option.some.inj e).symm⟩
    · cases e
  · cases e
theorem do_mod : DO K rModI modI := do_int fun dx dy d e => by
  unfold modI at e
  split at e
  · split at e
    · rename_i h
      exact ⟨_, _, rfl, rfl, h, (Option.some.inj e).symm⟩
    · cases e
  · cases e
theorem do_cmpI {p : Int → Int → Bool} : DO K (rI0 fun i j => .bl (p i j)) (fun x y => (cmpI p x y).map .bl) := .bl fun N H x y dx dy b Q hx hy e q => by
  unfold cmpI at e
  split at e
  · cases hx
    cases hy
    cases e
    exact ⟨_, _, rfl, rfl, q⟩
  · cases e
abbrev ltI : Da → Da → Option Da := fun x y => (cmpI (fun i j => decide (i < j)) x y).map .bl
abbrev leI : Da → Da → Option Da := fun x y => (cmpI (fun i j => decide (i ≤ j)) x y).map .bl
abbrev gtI : Da → Da → Option Da := fun x y => (cmpI (fun i j => decide (j < i)) x y).map .bl
abbrev geI : Da → Da → Option Da := fun x y => (cmpI (fun i j => decide (j ≤ i)) x y).map .bl
theorem do_lt : DO K rLtI ltI := do_cmpI
theorem do_le : DO K rLeI leI := do_cmpI
theorem do_gt : DO K rGtI gtI := do_cmpI
theorem do_ge : DO K rGeI geI := do_cmpI
/-! ### scalars by == -/
def eqs : Da → Da → Option Bool
  | .non, .non => some true
  | .non, .int _ => some false | .int _, .non => some false
  | .non, .bl _ => some false | .bl _, .non => some false
  | .non, .str _ => some false | .str _, .non => some false
  | .int i, .int j => some (decide (i = j))
  | .bl i, .bl j => some (decide (i = j))
  | .str i, .str j => some (decide (i = j))
  | .int _, .str _ => some false | .str _, .int _ => some false
  | .bl _, .str _ => some false | .str _, .bl _ => some false
  | _, _ => none
def eqS : Da → Da → Option Da := fun x y => (eqs x y).map .bl
def neS : Da → Da → Option Da := fun x y => ((eqs x y).map (!·)).map .bl
theorem eqs_scal {b : Bool} (hx : DV K H N x dx) (hy : DV K H N y dy) (e : eqs dx dy = some b) : scal x y = true ∧ decide (x = y) = b := by
  cases hx <;> cases hy <;> first
    | (simp only [eqs, Option.some.injEq] at e; subst e; exact ⟨rfl, by simp⟩)
    | (simp [eqs] at e; done)
theorem do_eqS : DO K rEq eqS := .bl fun N H x y dx dy b Q hx hy e q => by
  obtain ⟨h1, h2⟩ := eqs_scal hx hy e
  exact ⟨h1, by rw [h2]; exact q⟩
theorem do_neS : DO K rNe neS := .bl fun N H x y dx dy b Q hx hy e q => by
  obtain ⟨c, e2, rfl⟩ := Option.map_eq_some_iff.mp e
  obtain ⟨h1, h2⟩ := eqs_scal hx hy e2
  exact ⟨h1, by rw [h2]; exact q⟩
def isN : Da → Bool
  | .non => true
  | _ => false
def isNon : Da → Da → Option Da := fun x y => (match y with | .non => some (isN x) | _ => none : Option Bool).map .bl
def notNon : Da → Da → Option Da := fun x y => (match y with | .non => some (!isN x) | _ => none : Option Bool).map .bl
theorem isN_eq (hx : DV K H N x dx) : decide (x = .non) = isN dx := by
  cases hx <;> simp [isN]
theorem do_isN : DO K rIsN isNon := .bl fun N H x y dx dy b Q hx hy e q => by
  cases dy with
  | non =>
    cases Option.some.inj e
    cases hy
    exact ⟨rfl, by rw [isN_eq hx]; exact q⟩
  | _ => cases e
theorem do_notN : DO K rNotN notNon := .bl fun N H x y dx dy b Q hx hy e q => by
  cases dy with
  | non =>
    cases Option.some.inj e
    cases hy
    exact ⟨rfl, by rw [isN_eq hx]; exact q⟩
  | _ => cases e
/-! ### data without instances -/
mutual
def py : Da → Option PyData
  | .non => some .none
  | .bl b => some (.bool b)
  | .int i => some (.int i)
  | .str x => some (.str x)
  | .lst xs => (pys xs).map .list
  | .tup xs => (pys xs).map .tuple
  | .dct ks vs => (pys vs).map fun ds => .dict ((ks.map keyD).zip ds)
  | .ins _ _ _ => none
  | .lt _ xs => (pys xs).map .list
  | .gen => none
  | .scr => none
  | .exc _ _ => none
def pys : List Da → Option (List PyData)
  | [] => some []
  | x :: xs => match py x, pys xs with
    | some d, some ds => some (d :: ds)
    | _, _ => none
end
theorem pys_get : ∀ {xs : List Da} {ds : List PyData}, pys xs = some ds → xs.length = ds.length ∧ ∀ (i : Nat) (x : Da) (d : PyData), xs[i]? = some x → ds[i]? = some d → py x = some d
  | [], ds, e => by
    simp only [pys, Option.some.injEq] at e
    subst e
    exact ⟨rfl, fun i x d h => by simp at h⟩
  | x :: xs, ds, e => by
    simp only [pys] at e
    split at e
    · rename_i d es e1 e2
      cases e
      obtain ⟨h1, h2⟩ := pys_get e2
      refine ⟨by simp [h1], fun i y z q1 q2 => ?_⟩
      cases i with
      | zero =>
        simp at q1 q2
        subst q1 q2
        exact e1
      | succ i => exact h2 i y z (by simpa using q1) (by simpa using q2)
    · cases e
theorem DV.dd (h : DV K H N v d) : ∀ {p : PyData}, py d = some p → Dd K H v p := by
  induction h with
  | non => intro p e; simp only [py, Option.some.injEq] at e; subst e; exact .non
  | bl b => intro p e; simp only [py, Option.some.injEq] at e; subst e; exact .bl b
  | int i => intro p e; simp only [py, Option.some.injEq] at e; subst e; exact .int i
  | str x => intro p e; simp only [py, Option.some.injEq] at e; subst e; exact .str x
  | lst na hs hl _ ih =>
    intro p e
    simp only [py, Option.map_eq_some_iff] at e
    obtain ⟨ds, e, rfl⟩ := e
    obtain ⟨h1, h2⟩ := pys_get e
    refine Dn.lst trivial (.of hs) (by rw [hl, h1]) fun i x d q1 q2 => ?_
    have hi := (List.getElem?_eq_some_iff.mp q2).1
    rename_i xs es _
    have q3 : es[i]? = some (es[i]'(by rw [h1]; exact hi)) := by simp
    exact ih i x _ q1 q3 (h2 i _ d q3 q2)
  | tup hs hl _ ih =>
    intro p e
    simp only [py, Option.map_eq_some_iff] at e
    obtain ⟨ds, e, rfl⟩ := e
    obtain ⟨h1, h2⟩ := pys_get e
    refine Dn.tup trivial (hs.elim (fun q => .of q.2) fun q => .inr q) (by rw [hl, h1]) fun i x d q1 q2 => ?_
    have hi := (List.getElem?_eq_some_iff.mp q2).1
    rename_i xs es _
    have q3 : es[i]? = some (es[i]'(by rw [h1]; exact hi)) := by simp
    exact ih i x _ q1 q3 (h2 i _ d q3 q2)
  | dct na hs hk hl _ ih =>
    intro p e
    simp only [py, Option.map_eq_some_iff] at e
    obtain ⟨ds, e, rfl⟩ := e
    obtain ⟨h1, h2⟩ := pys_get e
    rename_i a kvs ks es _
    have l1 : ks.length = kvs.length := by rw [← hk, List.length_map]
    refine Dn.dct trivial hs ?_ fun i x d q1 q2 => ?_
    · rw [← hk, List.map_fst_zip (by simp; omega), List.map_map]
      rfl
    · rw [List.getElem?_zip_eq_some] at q2
      have hi := (List.getElem?_eq_some_iff.mp q2.2).1
      have q3 : es[i]? = some (es[i]'(by rw [h1]; exact hi)) := by simp
      exact ih i x _ q1 q3 (h2 i _ _ q3 q2.2)
  | ins na hs hk hl _ ih => intro p e; simp only [py] at e; cases e
  | gen => intro p e; simp only [py] at e; cases e
  | scr => intro p e; simp only [py] at e; cases e
  | exc => intro p e; simp only [py] at e; cases e
  | lt na hs hl _ ih =>
    intro p e
    simp only [py, Option.map_eq_some_iff] at e
    obtain ⟨ds, e, rfl⟩ := e
    obtain ⟨h1, h2⟩ := pys_get e
    refine Dn.lst trivial (.of hs) (by rw [hl, h1]) fun i x d q1 q2 => ?_
    have hi := (List.getElem?_eq_some_iff.mp q2).1
    rename_i xs es _
    have q3 : es[i]? = some (es[i]'(by rw [h1]; exact hi)) := by simp
    exact ih i x _ q1 q3 (h2 i _ d q3 q2)
/-- as the library takes data: no dict, not too deep -/
def lib (d : Da) : Option PyData := match py d with
  | some p => if SeqAt.shaped p = true then some p else none
  | none => none
theorem hasDict_shaped {p : PyData} (h : SeqAt.shaped p = true) : p.hasDict = false := PyData.hasDict_of_canLay _ (SeqAt.canLay_of_shaped h)
theorem DV.dp (h : DV K H N v d) {p : PyData} (e : lib d = some p) : Dp K H v p ∧ SeqAt.shaped p = true := by
  unfold lib at e
  split at e
  · rename_i q e1
    split at e
    · rename_i hs
      cases e
      exact ⟨(h.dd e1).dp (hasDict_shaped hs), hs⟩
    · cases e
  · cases e
def eqd (x y : Da) : Option Bool := match lib x, lib y with
  | some p, some q => some (PyData.eqv p q)
  | _, _ => none
def eqD : Da → Da → Option Da := fun x y => (eqd x y).map .bl
def neD : Da → Da → Option Da := fun x y => ((eqd x y).map (!·)).map .bl
theorem eqd_inv {b : Bool} (e : eqd dx dy = some b) : ∃ p q, lib dx = some p ∧ lib dy = some q ∧ PyData.eqv p q = b := by
  unfold eqd at e
  split at e
  · rename_i p q e1 e2
    exact ⟨p, q, e1, e2, Option.some.inj e⟩
  · cases e
theorem do_eqD : DO K (rEqD K) eqD := .bl fun N H x y dx dy b Q hx hy e q => by
  obtain ⟨p1, p2, e1, e2, e3⟩ := eqd_inv e
  exact ⟨p1, p2, (hx.dp e1).1, (hy.dp e2).1, (hx.dp e1).2, (hy.dp e2).2, by rw [e3]; exact q⟩
theorem do_neD : DO K (rNeD K) neD := .bl fun N H x y dx dy b Q hx hy e q => by
  obtain ⟨c, e0, rfl⟩ := Option.map_eq_some_iff.mp e
  obtain ⟨p1, p2, e1, e2, e3⟩ := eqd_inv e0
  exact ⟨p1, p2, (hx.dp e1).1, (hy.dp e2).1, (hx.dp e1).2, (hy.dp e2).2, by rw [e3]; exact q⟩
def ind (x y : Da) : Option Bool := match lib x, lib y with
  | some p, some (.list qs) => some (qs.any fun z => PyData.eqv z p)
  | _, _ => none
def inD : Da → Da → Option Da := fun x y => (ind x y).map .bl
def ninD : Da → Da → Option Da := fun x y => ((ind x y).map (!·)).map .bl
theorem ind_inv {b : Bool} (e : ind dx dy = some b) : ∃ p q, lib dx = some p ∧ lib dy = some (.list q) ∧ (q.any fun z => PyData.eqv z p) = b := by
  unfold ind at e
  split at e
  · rename_i p q e1 e2
    exact ⟨p, q, e1, e2, Option.some.inj e⟩
  · cases e
theorem do_inD : DO K (rInD K) inD := .bl fun N H x y dx dy b Q hx hy e q => by
  obtain ⟨p1, p2, e1, e2, e3⟩ := ind_inv e
  exact ⟨p1, p2, (hx.dp e1).1, (hy.dp e2).1, (hx.dp e1).2, (hy.dp e2).2, by rw [e3]; exact q⟩
theorem do_ninD : DO K (rNotInD K) ninD := .bl fun N H x y dx dy b Q hx hy e q => by
  obtain ⟨c, e0, rfl⟩ := Option.map_eq_some_iff.mp e
  obtain ⟨p1, p2, e1, e2, e3⟩ := ind_inv e0
  exact ⟨p1, p2, (hx.dp e1).1, (hy.dp e2).1, (hx.dp e1).2, (hy.dp e2).2, by rw [e3]; exact q⟩
/-! ### a text among texts, whatever the other is -/
def strsD : List Da → Option (List Str)
  | [] => some []
  | .str x :: r => (strsD r).map (x :: ·)
  | _ :: _ => none
theorem strs_inv : ∀ {ds : List Da} {zs : List Str} {xs : List V}, strsD ds = some zs → DA K H N xs ds → xs = zs.map V.str
  | [], zs, xs, e, h => by
    simp only [strsD, Option.some.injEq] at e
    subst e
    exact h.inv0
  | .str x :: r, zs, xs, e, h => by
    simp only [strsD, Option.map_eq_some_iff] at e
    obtain ⟨ws, e, rfl⟩ := e
    obtain ⟨v, us, rfl, h1, h2⟩ := h.inv
    rw [strs_inv e h2, h1.str_inv]
    rfl
  | .non :: r, zs, xs, e, h => by simp [strsD] at e
  | .bl _ :: r, zs, xs, e, h => by simp [strsD] at e
  | .int _ :: r, zs, xs, e, h => by simp [strsD] at e
  | .lst _ :: r, zs, xs, e, h => by simp [strsD] at e
  | .tup _ :: r, zs, xs, e, h => by simp [strsD] at e
  | .dct _ _ :: r, zs, xs, e, h => by simp [strsD] at e
  | .ins _ _ _ :: r, zs, xs, e, h => by simp [strsD] at e
  | .lt _ _ :: r, zs, xs, e, h => by simp [strsD] at e
  | .gen :: r, zs, xs, e, h => by simp [strsD] at e
  | .scr :: r, zs, xs, e, h => by simp [strsD] at e
  | .exc _ _ :: r, zs, xs, e, h => by simp [strsD] at e
def isS (z : Str) : Da → Bool
  | .str y => z == y
  | _ => false
def ins (x y : Da) : Option Bool := match seqOf y with
  | some ds => match strsD ds, py x with
    | some zs, some _ => some (zs.any fun z => isS z x)
    | _, _ => none
  | none => none
def inS : Da → Da → Option Da := fun x y => (ins x y).map .bl
theorem isS_eq {p : PyData} (e : py d = some p) (z : Str) : isStr z p = isS z d := by
  cases d <;> simp only [py, Option.some.injEq, Option.map_eq_some_iff] at e
  · subst e; rfl
  · subst e; rfl
  · subst e; rfl
  · subst e; rfl
  · obtain ⟨_, _, rfl⟩ := e; rfl
  · obtain ⟨_, _, rfl⟩ := e; rfl
  · obtain ⟨_, _, rfl⟩ := e; rfl
  · cases e
  · obtain ⟨_, _, rfl⟩ := e; rfl
  · cases e
  · cases e
  · cases e
theorem do_inS : DO K (rInS K) inS := .bl fun N H x y dx dy b Q hx hy e q => by
  unfold ins at e
  split at e
  · rename_i ds e0
    split at e
    · rename_i zs p e1 e2
      cases e
      have z : ∃ a xs, y = .ref a ∧ (SqL K H a xs ∨ SqT K H a xs) ∧ DA K H N xs ds := by
        cases dy with
        | lst xs =>
          cases e0
          obtain ⟨a, xs, rfl, h1, _, h2⟩ := hy.lst_inv
          exact ⟨a, xs, rfl, .inl (.of h1), h2⟩
        | tup xs =>
          cases e0
          obtain ⟨a, xs, rfl, h1, _, h2⟩ := hy.tup_inv
          exact ⟨a, xs, rfl, .inr h1, h2⟩
        | lt b xs =>
          cases e0
          obtain ⟨xs, rfl, h1, _, h2⟩ := hy.lt_inv
          exact ⟨b, xs, rfl, .inl (.of h1), h2⟩
        | _ => cases e0
      obtain ⟨a, xs, rfl, h1, h2⟩ := z
      rw [strs_inv e1 h2] at h1
      refine ⟨a, zs, p, rfl, h1, hx.dd e2, ?_⟩
      have ee : (zs.any fun z => isStr z p) = zs.any fun z => isS z dx := by
        congr 1
        funext z
        exact isS_eq e2 z
      rw [ee]
      exact q
    · cases e
  · cases e
/-! ### subscripts, slices, lists put together -/
def ix (x y : Da) : Option Da := match x, y with
  | .lst xs, .int i => atI xs i
  | .tup xs, .int i => atI xs i
  | .lt _ xs, .int i => atI xs i
  | _, _ => none
theorem atI_da {xs : List V} {ds : List Da} (h : DA K H N xs ds) {i : Int} {d : Da} (e : atI ds i = some d) : ∃ v, atI xs i = some v ∧ DV K H N v d := by
  unfold atI at e ⊢
  rw [h.1]
  cases q : ixN ds.length i with
  | none =>
    simp [q] at e
  | some j =>
    rw [q] at e
    have e2 : ds[j]? = some d := e
    have hj : j < xs.length := by rw [h.1]; exact (List.getElem?_eq_some_iff.mp e2).1
    exact ⟨xs[j], by show xs[j]? = _; simp, h.2 j _ d (by simp) e2⟩
theorem do_ix : DO K (rIx K) ix := by
  intro N H x y dx dy d Q al hx hy e q
  unfold ix at e
  split at e
  · obtain ⟨a, xs, rfl, h1, _, h2⟩ := hx.lst_inv
    cases hy
    obtain ⟨v, h3, h4⟩ := atI_da h2 e
    exact .inl ⟨a, xs, _, v, rfl, rfl, .of h1, h3, q N H (.refl al) v h4⟩
  · obtain ⟨a, xs, rfl, h1, _, h2⟩ := hx.tup_inv
    cases hy
    obtain ⟨v, h3, h4⟩ := atI_da h2 e
    exact .inr (.inl ⟨a, xs, _, v, rfl, rfl, h1, h3, q N H (.refl al) v h4⟩)
  · obtain ⟨xs, rfl, h1, _, h2⟩ := hx.lt_inv
    cases hy
    obtain ⟨v, h3, h4⟩ := atI_da h2 e
    exact .inl ⟨_, xs, _, v, rfl, rfl, .of h1, h3, q N H (.refl al) v h4⟩
  · cases e
def catL : Da → Da → Option Da
  | .lst xs, .lst ys => if fit (xs ++ ys) = true then some (.lst (xs ++ ys)) else none
  | _, _ => none
theorem do_catL : DO K rCat catL := by
  intro N H x y dx dy d Q al hx hy e q
  unfold catL at e
  split at e
  · split at e
    · rename_i hf
      cases e
      obtain ⟨a, xs, rfl, h1, _, h2⟩ := hx.lst_inv
      obtain ⟨b, ys, rfl, h3, _, h4⟩ := hy.lst_inv
      refine ⟨a, b, xs, ys, rfl, rfl, h1, h3, ?_, fun p np => q _ _ (.new al np _) _ (newL al np (h2.append h4))⟩
      have z := fit_line hf
      rw [List.length_append] at z
      rw [h2.1, h4.1]
      exact z
    · cases e
  · cases e
def catT : Da → Da → Option Da
  | .tup xs, .tup ys => if fit (xs ++ ys) = true then some (.tup (xs ++ ys)) else none
  | _, _ => none
theorem do_catT : DO K (rCatA K) catT := by
  intro N H x y dx dy d Q al hx hy e q
  unfold catT at e
  split at e
  · split at e
    · rename_i hf
      cases e
      obtain ⟨a, xs, rfl, h1, _, h2⟩ := hx.tup_inv
      obtain ⟨b, ys, rfl, h3, _, h4⟩ := hy.tup_inv
      refine ⟨a, b, xs, ys, rfl, rfl, h1, h3, ?_, fun z => ?_, fun _ z => ?_, fun _ _ p np => q _ _ (.new al np _) _ (newT al np (h2.append h4))⟩
      · have z := fit_line hf
        rw [List.length_append] at z
        rw [h2.1, h4.1]
        exact z
      · subst z
        refine q _ _ (.refl al) _ ?_
        rw [List.length_eq_zero_iff.mp h2.1.symm, List.nil_append]
        exact hy
      · subst z
        refine q _ _ (.refl al) _ ?_
        rw [List.length_eq_zero_iff.mp h4.1.symm, List.append_nil]
        exact hx
    · cases e
  · cases e
def repL : Da → Da → Option Da
  | .lst xs, .int k => if 0 ≤ k ∧ k ≤ 1000 ∧ xs.length ≤ 1000 then some (.lst (List.replicate k.toNat xs).flatten) else none
  | _, _ => none
theorem DA.rep {xs : List V} {ds : List Da} (h : DA K H N xs ds) : ∀ n, DA K H N (List.replicate n xs).flatten (List.replicate n ds).flatten
  | 0 => .nil
  | n + 1 => by
    rw [List.replicate_succ, List.replicate_succ, List.flatten_cons, List.flatten_cons]
    exact h.append (DA.rep h n)
theorem do_repL : DO K rRep repL := by
  intro N H x y dx dy d Q al hx hy e q
  unfold repL at e
  split at e
  · split at e
    · rename_i hf
      cases e
      obtain ⟨a, xs, rfl, h1, _, h2⟩ := hx.lst_inv
      cases hy
      refine ⟨a, _, xs, rfl, rfl, h1, by omega, by omega, ?_, fun p np => q _ _ (.new al np _) _ (newL al np (h2.rep _))⟩
      have z : xs.length * (‹Int›).toNat ≤ 1000 * 1000 := Nat.mul_le_mul (by rw [h2.1]; exact hf.2.2) (by omega)
      rw [sizeLine_eq]
      omega
    · cases e
  · cases e
def rRepA (K : PySem.W.Frag) : R2 := fun x y H Q => rRepT K x y H Q ∨ rRepS K x y H Q
theorem op_repA {X : Cx} : OpR X (binaryOp .Mult) (rRepA X.K) := op_repT.or op_repS
def repT : Da → Da → Option Da
  | .tup (x :: xs), .int k => if 0 ≤ k ∧ k ≤ 1000 ∧ (x :: xs).length ≤ 1000 then some (.tup (List.replicate k.toNat (x :: xs)).flatten) else none
  | _, _ => none
theorem do_repT : DO K (rRepA K) repT := by
  intro N H x y dx dy d Q al hx hy e q
  cases dx with
  | tup ds =>
    cases ds with
    | nil => cases e
    | cons d0 ds =>
      cases dy with
      | int k =>
        have e : (if 0 ≤ k ∧ k ≤ 1000 ∧ (d0 :: ds).length ≤ 1000 then some (Da.tup (List.replicate k.toNat (d0 :: ds)).flatten) else none) = some d := e
        split at e
        · rename_i hf
          cases e
          obtain ⟨a, xs, rfl, h1, _, h2⟩ := hx.tup_inv
          cases hy
          have hne : xs ≠ [] := fun z => by
            have := h2.1
            rw [z] at this
            simp at this
          by_cases h2k : 2 ≤ k
          · exact .inl ⟨a, k, xs, rfl, rfl, h1, hne, h2k, hf.2.1, by rw [h2.1]; exact hf.2.2, fun p np => q _ _ (.new al np _) _ (newT al np (h2.rep _))⟩
          · refine .inr ⟨a, k, xs, rfl, rfl, h1, hne, ?_⟩
            have hk : k = 1 ∨ k = 0 := by omega
            rcases hk with rfl | rfl
            · refine .inl ⟨rfl, q _ _ (.refl al) _ ?_⟩
              have e : (List.replicate (1 : Int).toNat (d0 :: ds)).flatten = d0 :: ds := by simp
              rw [e]
              exact hx
            · exact .inr ⟨rfl, fun p np => q _ _ (.new al np _) _ (newT al np .nil)⟩
        · cases e
      | _ => cases e
  | _ => cases e
def cutD (ds : List Da) (lo hi : Option Int) : List Da := (ds.drop (HT.sIx ds.length 0 lo)).take (HT.sIx ds.length ds.length hi - HT.sIx ds.length 0 lo)
theorem DA.cut {xs : List V} {ds : List Da} (h : DA K H N xs ds) (lo hi : Option Int) : DA K H N (cutV xs lo hi) (cutD ds lo hi) := by
  unfold cutV cutD
  rw [h.1]
  exact (h.drop _).take _
end
end L2.Dc
/-! built-ins, iterators, comprehensions over data -/
namespace L2.Dc
open PySem PySem.Spec PyProof.Rows L2.Fw
section
variable {K : PySem.W.Frag} {E : XK} {N N' : Rg} {H H' : Hp} {v x y : V} {d dx dy : Da} {Q : VK} {ta tb tc : TE} {ga gb gc : En' → Ou Da} {tt tu : TT} {b bb : En' → Ou Bool} {ts tr : TA} {gs gr : En' → Ou (List Da)}
/-! ### slices -/
def DPo (K : PySem.W.Frag) (E : XK) (t : TO) (g : En' → Ou (Option Int)) : Prop := ∀ (N : Rg) (ρ : En') (σ : St) (H : Hp) (Q : Option Int → Hp → Prop), EnvR K H N ρ σ →
  Wn K E N H (g ρ) (fun o _ H' => Q o H') → t σ H Q
def gNoPart : En' → Ou (Option Int) := fun _ => .ok none
def gPart (g : En' → Ou Da) : En' → Ou (Option Int) := fun ρ => (g ρ).bind fun x => match x with
  | .int i => .ok (some i)
  | _ => .bad
theorem dpo_none : DPo K E tNoPart gNoPart := fun N ρ σ H Q en w => w.now (.refl en.al)
theorem dpo_some (ha : DE K E ta ga) : DPo K E (tPart ta) (gPart ga) := by
  intro N ρ σ H Q en w
  refine ha N ρ σ H _ en (w.bind.mono fun dx N1 H1 g1 w1 x hx => ?_)
  cases dx with
  | int i =>
    cases hx
    exact ⟨i, rfl, w1.now (.refl g1.al)⟩
  | _ => exact absurd rfl w1.nb
def slL (x : Da) (lo hi : Option Int) : Option Da := match x with
  | .lst xs => if fit xs = true then some (.lst (cutD xs lo hi)) else none
  | _ => none
def slT (x : Da) (lo hi : Option Int) : Option Da := match x with
  | .tup xs => if HT.sIx xs.length 0 lo = 0 ∧ HT.sIx xs.length xs.length hi = xs.length then none else some (.tup (cutD xs lo hi))
  | _ => none
def gSl (f : Da → Option Int → Option Int → Option Da) (g : En' → Ou Da) (gl gh : En' → Ou (Option Int)) : En' → Ou Da := fun ρ => (g ρ).bind fun x => (gl ρ).bind fun l => (gh ρ).bind fun h => Ou.of (f x l h)
theorem de_slL {tl th : TO} {gl gh : En' → Ou (Option Int)} (ha : DE K E ta ga) (hl : DPo K E tl gl) (hh : DPo K E th gh) : DE K E (tSl (rSlL K) ta tl th) (gSl slL ga gl gh) := by
  intro N ρ σ H Q en w
  refine ha N ρ σ H _ en (w.bind.mono fun dx N1 H1 g1 w1 x hx => ?_)
  refine hl N1 ρ σ H1 _ (en.g g1) (w1.bind.mono fun lo N2 H2 g2 w2 => ?_)
  refine hh N2 ρ σ H2 _ ((en.g g1).g g2) (w2.bind.mono fun hi N3 H3 g3 w3 => ?_)
  obtain ⟨d, e, q⟩ := w3.of
  unfold slL at e
  split at e
  · split at e
    · cases e
      obtain ⟨a, xs, rfl, h1, _, h2⟩ := ((hx.g g2).g g3).lst_inv
      exact ⟨a, xs, rfl, .of h1, fun p np => q _ _ (.new g3.al np _) _ (newL g3.al np (h2.cut lo hi))⟩
    · cases e
  · cases e
theorem de_slT {tl th : TO} {gl gh : En' → Ou (Option Int)} (ha : DE K E ta ga) (hl : DPo K E tl gl) (hh : DPo K E th gh) : DE K E (tSl (rSlT K) ta tl th) (gSl slT ga gl gh) := by
  intro N ρ σ H Q en w
  refine ha N ρ σ H _ en (w.bind.mono fun dx N1 H1 g1 w1 x hx => ?_)
  refine hl N1 ρ σ H1 _ (en.g g1) (w1.bind.mono fun lo N2 H2 g2 w2 => ?_)
  refine hh N2 ρ σ H2 _ ((en.g g1).g g2) (w2.bind.mono fun hi N3 H3 g3 w3 => ?_)
  obtain ⟨d, e, q⟩ := w3.of
  unfold slT at e
  split at e
  · split at e
    · cases e
    · rename_i hne
      cases e
      obtain ⟨a, xs, rfl, h1, _, h2⟩ := ((hx.g g2).g g3).tup_inv
      exact ⟨a, xs, rfl, h1, by rw [h2.1]; exact hne, fun p np => q _ _ (.new g3.al np _) _ (newT g3.al np (h2.cut lo hi))⟩
  · cases e
/-! ### built-ins -/
theorem DC.pure {r : List V → Hp → VK → Prop} {f : List Da → Option Da} (h : ∀ (N : Rg) (H : Hp) (vs : List V) (ds : List Da) (d : Da) (Q : VK), DA K H N vs ds → f ds = some d → (∀ v, (∀ H N, DV K H N v d) → Q v H) → r vs H Q) : DC K r f :=
  fun N H vs ds d Q al hv e q => h N H vs ds d Q hv e fun v hd => q N H (.refl al) v (hd H N)
def lenD : List Da → Option Da
  | [.str y] => if Nat.ble y.length 1000000 = true then some (.int y.length) else none
  | [.lst xs] => some (.int xs.length)
  | [.tup xs] => some (.int xs.length)
  | [.lt _ xs] => some (.int xs.length)
  | _ => none
theorem DA.one {vs : List V} {d : Da} (h : DA K H N vs [d]) : ∃ v, vs = [v] ∧ DV K H N v d := by
  obtain ⟨v, us, rfl, h1, h2⟩ := h.inv
  rw [h2.inv0]
  exact ⟨v, rfl, h1⟩
theorem DA.two {vs : List V} {d e : Da} (h : DA K H N vs [d, e]) : ∃ v u, vs = [v, u] ∧ DV K H N v d ∧ DV K H N u e := by
  obtain ⟨v, us, rfl, h1, h2⟩ := h.inv
  obtain ⟨u, rfl, h3⟩ := h2.one
  exact ⟨v, u, rfl, h1, h3⟩
theorem dc_len : DC K (rLenV K) lenD := .pure fun N H vs ds d Q hv e q => by
  unfold lenD at e
  split at e
  · split at e
    · rename_i hf
      cases e
      obtain ⟨v, rfl, h⟩ := hv.one
      cases h.str_inv
      exact ⟨_, _, rfl, ⟨by have := Nat.le_of_ble_eq_true hf; rw [sizeLine_eq]; omega, rfl⟩, q _ fun _ _ => .int _⟩
    · cases e
  · cases e
    obtain ⟨v, rfl, h⟩ := hv.one
    obtain ⟨a, xs, rfl, h1, _, h2⟩ := h.lst_inv
    exact ⟨_, _, rfl, .inl ⟨xs, .of h1, rfl⟩, by rw [h2.1]; exact q _ fun _ _ => .int _⟩
  · cases e
    obtain ⟨v, rfl, h⟩ := hv.one
    obtain ⟨a, xs, rfl, h1, _, h2⟩ := h.tup_inv
    exact ⟨_, _, rfl, .inr ⟨xs, h1, rfl⟩, by rw [h2.1]; exact q _ fun _ _ => .int _⟩
  · cases e
    obtain ⟨v, rfl, h⟩ := hv.one
    obtain ⟨xs, rfl, h1, _, h2⟩ := h.lt_inv
    exact ⟨_, _, rfl, .inl ⟨xs, .of h1, rfl⟩, by rw [h2.1]; exact q _ fun _ _ => .int _⟩
  · cases e
def reprD : List Da → Option Da
  | [d] => match py d with
    | some p => if p.showable = true ∧ p.depth ≤ 60 ∧ Nat.ble p.shown.length 1000000 = true then some (.str p.shown) else none
    | none => none
  | _ => none
theorem dc_repr (sm : SM K) : DC K (rRepr K) reprD := .pure fun N H vs ds d Q hv e q => by
  unfold reprD at e
  split at e
  · split at e
    · rename_i p ep
      split at e
      · rename_i hf
        cases e
        obtain ⟨v, rfl, h⟩ := hv.one
        exact ⟨v, p, rfl, h.dd ep, sm, hf.1, hf.2.1, by have := Nat.le_of_ble_eq_true hf.2.2; rw [sizeLine_eq]; omega, q _ fun _ _ => .str _⟩
      · cases e
    · cases e
  · cases e
def bls : List Da → Option (List Bool)
  | [] => some []
  | .bl b :: r => (bls r).map (b :: ·)
  | _ :: _ => none
theorem bls_inv : ∀ {ds : List Da} {zs : List Bool} {xs : List V}, bls ds = some zs → DA K H N xs ds → xs = zs.map V.bl
  | [], zs, xs, e, h => by
    simp only [bls, Option.some.injEq] at e
    subst e
    exact h.inv0
  | .bl x :: r, zs, xs, e, h => by
    simp only [bls, Option.map_eq_some_iff] at e
    obtain ⟨ws, e, rfl⟩ := e
    obtain ⟨v, us, rfl, h1, h2⟩ := h.inv
    rw [bls_inv e h2, h1.bl_inv]
    rfl
  | .non :: r, zs, xs, e, h => by simp [bls] at e
  | .str _ :: r, zs, xs, e, h => by simp [bls] at e
  | .int _ :: r, zs, xs, e, h => by simp [bls] at e
  | .lst _ :: r, zs, xs, e, h => by simp [bls] at e
  | .tup _ :: r, zs, xs, e, h => by simp [bls] at e
  | .dct _ _ :: r, zs, xs, e, h => by simp [bls] at e
  | .ins _ _ _ :: r, zs, xs, e, h => by simp [bls] at e
  | .lt _ _ :: r, zs, xs, e, h => by simp [bls] at e
def allD : List Da → Option Da
  | [.lst ds] => (bls ds).map fun bs => .bl (bs.all id)
  | _ => none
def anyD : List Da → Option Da
  | [.lst ds] => (bls ds).map fun bs => .bl (bs.any id)
  | _ => none
theorem dc_all : DC K (rAll K) allD := .pure fun N H vs ds d Q hv e q => by
  unfold allD at e
  split at e
  · obtain ⟨bs, e1, rfl⟩ := Option.map_eq_some_iff.mp e
    obtain ⟨v, rfl, h⟩ := hv.one
    obtain ⟨a, xs, rfl, h1, _, h2⟩ := h.lst_inv
    exact ⟨a, bs, rfl, by rw [← bls_inv e1 h2]; exact .of h1, q _ fun _ _ => .bl _⟩
  · cases e
theorem dc_any : DC K (rAny K) anyD := .pure fun N H vs ds d Q hv e q => by
  unfold anyD at e
  split at e
  · obtain ⟨bs, e1, rfl⟩ := Option.map_eq_some_iff.mp e
    obtain ⟨v, rfl, h⟩ := hv.one
    obtain ⟨a, xs, rfl, h1, _, h2⟩ := h.lst_inv
    exact ⟨a, bs, rfl, by rw [← bls_inv e1 h2]; exact .of h1, q _ fun _ _ => .bl _⟩
  · cases e
def listD : List Da → Option Da
  | [d] => (seqOf d).map .lst
  | _ => none
theorem seq_inv {ds : List Da} (h : DV K H N v d) (e : seqOf d = some ds) : ∃ a xs, v = .ref a ∧ (SqL K H a xs ∨ SqT K H a xs) ∧ DA K H N xs ds := by
  cases d with
  | lst xs =>
    cases e
    obtain ⟨a, xs, rfl, h1, _, h2⟩ := h.lst_inv
    exact ⟨a, xs, rfl, .inl (.of h1), h2⟩
  | tup xs =>
    cases e
    obtain ⟨a, xs, rfl, h1, _, h2⟩ := h.tup_inv
    exact ⟨a, xs, rfl, .inr h1, h2⟩
  | lt b xs =>
    cases e
    obtain ⟨xs, rfl, h1, _, h2⟩ := h.lt_inv
    exact ⟨b, xs, rfl, .inl (.of h1), h2⟩
  | _ => cases e
theorem dc_list : DC K (rListOf K) listD := fun N H vs ds d Q al hv e q => by
  unfold listD at e
  split at e
  · obtain ⟨bs, e1, rfl⟩ := Option.map_eq_some_iff.mp e
    obtain ⟨v, rfl, h⟩ := hv.one
    obtain ⟨a, xs, rfl, h1, h2⟩ := seq_inv h e1
    exact ⟨a, xs, rfl, h1, fun p np => q _ _ (.new al np _) _ (newL al np h2)⟩
  · cases e
def int1D : List Da → Option Da
  | [.int i] => some (.int i)
  | [.bl b] => some (.int (if b then 1 else 0))
  | _ => none
theorem dc_int1 : DC K rInt1 int1D := .pure fun N H vs ds d Q hv e q => by
  unfold int1D at e
  split at e
  · cases e
    obtain ⟨v, rfl, h⟩ := hv.one
    cases h
    exact .inl ⟨_, rfl, q _ fun _ _ => .int _⟩
  · cases e
    obtain ⟨v, rfl, h⟩ := hv.one
    cases h
    exact .inr ⟨_, rfl, q _ fun _ _ => .int _⟩
  · cases e
/-! ### isinstance -/
/-- what an own class must say -/
structure CI (K : PySem.W.Frag) (C : Addr) : Prop where
  cl : Cls K C
  ha : PySem.W.findIn K (.ref C) "__class__" = some (some (.builtin "object.__class__"))
  hn : PySem.W.specialIn K (.builtin "object.__class__") "__get__" = some (some (.builtin "getset_descriptor.__get__"))
  ht : PySem.W.takesIn K (.builtin "object.__class__") = some true
  hm : PySem.W.mroIn K C (.type "object") = some true
/-- the type of data -/
def tyD (K : PySem.W.Frag) : Da → Value
  | .non => .type "NoneType"
  | .bl _ => .type "bool"
  | .int _ => .type "int"
  | .str _ => .type "str"
  | .lst _ => .type "list"
  | .tup _ => .type "tuple"
  | .dct _ _ => .type "dict"
  | .ins c _ _ => .ref (He.ga K c)
  | .lt _ _ => .type "list"
  | .gen => .type "list"
  | .scr => .type "list"
  | .exc _ _ => .type "list"
def noX : Da → Bool
  | .gen => false
  | .scr => false
  | .exc _ _ => false
  | _ => true
theorem ty_ok (hc : ∀ c ks vs, d = .ins c ks vs → CI K (He.ga K c)) (nx : noX d = true) (h : DV K H N v d) : TyX K H v (tyD K d) := by
  cases h with
  | non => exact .base .non
  | bl b => exact .base (.bl b)
  | int i => exact .base (.int i)
  | str x => exact .base (.str x)
  | lst na hs hl _ => exact .base (.lst hs)
  | tup hs hl _ => exact hs.elim (fun q => .base (.tup q.2)) fun ⟨o, its, n, h1, h2, _⟩ => .kTuple h1 h2
  | dct na hs hk hl _ => exact .base (.dK hs)
  | ins na hs hk hl _ => exact .base (.ins hs (hc _ _ _ rfl).cl (hc _ _ _ rfl).ha (hc _ _ _ rfl).hn (hc _ _ _ rfl).ht (hc _ _ _ rfl).hm)
  | lt na hs hl _ => exact .base (.lst hs)
  | gen => cases nx
  | scr => cases nx
  | exc => cases nx
/-- isinstance by an answer f of data -/
def gIs (f : Da → Option Bool) (g : En' → Ou Da) : En' → Ou Da := fun ρ => (g ρ).bind fun x => Ou.of ((f x).map .bl)
theorem de_is {f : Da → Option Bool} {c : V} {u : Value} (hc : ClsV c u) (hf : ∀ d b, f d = some b → ((∀ c ks vs, d = .ins c ks vs → CI K (He.ga K c)) ∧ noX d = true) ∧ PySem.W.kitOne K (tyD K d) u = some b) (ha : DE K E ta ga) :
    DE K E (tCB (rIsi K) (tCons ta (tCons (tC c) tNil))) (gIs f ga) := by
  intro N ρ σ H Q en w
  refine ha N ρ σ H _ en (w.bind.mono fun dx N1 H1 g1 w1 x hx => ?_)
  obtain ⟨d, e, q⟩ := w1.of
  obtain ⟨b, e1, rfl⟩ := Option.map_eq_some_iff.mp e
  obtain ⟨h1, h2⟩ := hf dx b e1
  exact ⟨x, c, _, u, b, rfl, hc, ty_ok h1.1 h1.2 hx, h2, q N1 H1 (.refl g1.al) _ (.bl b)⟩
/-- isinstance(x, T), T a built-in type -/
def isT (n : String) : Da → Option Bool
  | .non => L2.kitB "NoneType" n
  | .bl _ => L2.kitB "bool" n
  | .int _ => L2.kitB "int" n
  | .str _ => L2.kitB "str" n
  | .lst _ => L2.kitB "list" n
  | .tup _ => L2.kitB "tuple" n
  | .dct _ _ => L2.kitB "dict" n
  | .ins _ _ _ => none
  | .lt _ _ => L2.kitB "list" n
  | .gen => none
  | .scr => none
  | .exc _ _ => none
theorem isT_ok {n : String} (d : Da) (b : Bool) (e : isT n d = some b) : ((∀ c ks vs, d = .ins c ks vs → CI K (He.ga K c)) ∧ noX d = true) ∧ PySem.W.kitOne K (tyD K d) (.type n) = some b := by
  cases d <;> first
    | (refine ⟨⟨?_, rfl⟩, kit_ty e⟩; intro c ks vs h; cases h; done)
    | (cases e; done)
/-- isinstance(x, C), C an own class among cs -/
structure OwnK (K : PySem.W.Frag) (cs : List Str) (c : Str) : Prop where
  ci : ∀ x ∈ cs, CI K (He.ga K x)
  own : ∀ x ∈ cs, PySem.W.kitOne K (.ref (He.ga K x)) (.ref (He.ga K c)) = some (decide (x = c))
  blt : ∀ n ∈ (["NoneType", "bool", "int", "str", "list", "tuple", "dict"] : List String), PySem.W.kitOne K (.type n) (.ref (He.ga K c)) = some false
def isO (cs : List Str) (c : Str) : Da → Option Bool
  | .ins x _ _ => if x ∈ cs then some (decide (x = c)) else none
  | .gen => none
  | .scr => none
  | .exc _ _ => none
  | _ => some false
theorem isO_ok {cs : List Str} {c : Str} (O : OwnK K cs c) (d : Da) (b : Bool) (e : isO cs c d = some b) : ((∀ c ks vs, d = .ins c ks vs → CI K (He.ga K c)) ∧ noX d = true) ∧ PySem.W.kitOne K (tyD K d) (.ref (He.ga K c)) = some b := by
  cases d with
  | ins x ks vs =>
    have e : (if x ∈ cs then some (decide (x = c)) else none) = some b := e
    by_cases hm : x ∈ cs
    · rw [if_pos hm] at e
      refine ⟨⟨?_, rfl⟩, ?_⟩
      · intro c ks vs h
        cases h
        exact O.ci _ hm
      · rw [← e]
        exact O.own _ hm
    · rw [if_neg hm] at e
      cases e
  | gen => cases e
  | scr => cases e
  | exc => cases e
  | _ =>
    cases e
    refine ⟨⟨?_, rfl⟩, O.blt _ (by decide)⟩
    intro c ks vs h
    cases h
/-! ### s.strip(t) -/
abbrev rStrip : V → List V → Hp → VK → Prop := fun x xs H Q => ∃ a b, x = .str a ∧ xs = [.str b] ∧ a.length ≤ sizeLine ∧ Q (.str (Txt.stripChars a b)) H
def gStrip (ga : En' → Ou Da) (b : Str) : En' → Ou Da := fun ρ => (ga ρ).bind fun x => match x with
  | .str a => if Nat.ble a.length 1000000 = true then .ok (.str (Txt.stripChars a b)) else .bad
  | _ => .bad
theorem de_strip {c : Str} (ha : DE K E ta ga) : DE K E (tBM K "str" rStrip ta (tCons (tC (.str c)) tNil)) (gStrip ga c) := by
  intro N ρ σ H Q en w
  refine ha N ρ σ H _ en (w.bind.mono fun dx N1 H1 g1 w1 x hx => ?_)
  cases dx with
  | str a =>
    cases hx.str_inv
    refine ⟨rfl, ?_⟩
    dsimp only at w1
    split at w1
    · rename_i hf
      exact ⟨_, _, rfl, rfl, by have := Nat.le_of_ble_eq_true hf; rw [sizeLine_eq]; omega, w1.now (.refl g1.al) _ (.str _)⟩
    · exact absurd rfl w1.nb
  | _ => exact absurd rfl w1.nb
end
end L2.Dc
/-! iterators, targets, comprehensions over data -/
namespace L2.Dc
open PySem PySem.Spec PyProof.Rows L2.Fw
/-- the objects of N stay -/
def Pz (N : Rg) (H H' : Hp) : Prop := ∀ a o, N a → H a = some o → H' a = some o
theorem Pz.refl {N : Rg} {H : Hp} : Pz N H H := fun _ _ _ e => e
theorem Pz.of {N : Rg} {H H' : Hp} (s : Same H H') : Pz N H H' := fun a o _ e => s a o e
structure ItD (K : PySem.W.Frag) (J : It) (N : Rg) (H : Hp) (ds : List Da) : Prop where
  go : ∀ i H', Pz N H H' → i < ds.length → J.go i H'
  stop : ∀ i H', Pz N H H' → ds.length ≤ i → J.stop i H'
  yld : ∀ i N' H' x H'' d, Pz N H H' → (∀ a, N a → N' a) → (∀ a, N.g a → N'.g a) → Al N' H' → J.yld i H' x H'' → ds[i]? = some d → ∃ N'', Grow N' H' N'' H'' ∧ DV K H'' N'' x d
def DI (K : PySem.W.Frag) (E : XK) (wi : TI) (g : En' → Ou (List Da)) : Prop := ∀ (N : Rg) (ρ : En') (σ : St) (H : Hp) (R : It → Hp → Prop), EnvR K H N ρ σ →
  Wn K E N H (g ρ) (fun ds N' H' => ∀ J, ItD K J N' H' ds → R J H') → wi σ H R
section
variable {K : PySem.W.Frag} {E : XK} {N N' : Rg} {H H' : Hp} {v x y : V} {d dx dy : Da} {ta tb tc : TE} {ga gb gc : En' → Ou Da} {ts tr : TA} {gs gr : En' → Ou (List Da)}
theorem it_list {a : Addr} {xs : List V} {ds : List Da} (h1 : H a = some (.lst xs)) (h2 : N a) (h3 : DA K H N xs ds) : ItD K (Itl K a) N H ds where
  go := fun i H' p hi => ⟨xs, xs[i]'(by rw [h3.1]; exact hi), .of (p _ _ h2 h1), by simp⟩
  stop := fun i H' p hi => ⟨xs, .of (p _ _ h2 h1), by rw [h3.1]; exact hi⟩
  yld := fun i N' H' x H'' d p n gg al y e => by
    obtain ⟨rfl, y⟩ := y
    have e2 := y xs (.of (p _ _ h2 h1))
    exact ⟨N', .refl al, (h3.2 i x d e2 e).fr p fun a q _ => n a q⟩
theorem it_tup {a : Addr} {xs : List V} {ds : List Da} (h1 : (N a ∧ H a = some (.tup xs)) ∨ KT K a xs) (h3 : DA K H N xs ds) : ItD K (Itt K a) N H ds :=
  have sq : ∀ H', Pz N H H' → SqT K H' a xs := fun H' p => h1.elim (fun q => .of (p _ _ q.1 q.2)) .inr
  { go := fun i H' p hi => ⟨xs, xs[i]'(by rw [h3.1]; exact hi), sq H' p, by simp⟩
    stop := fun i H' p hi => ⟨xs, sq H' p, by rw [h3.1]; exact hi⟩
    yld := fun i N' H' x H'' d p n gg al y e => by
      obtain ⟨rfl, y⟩ := y
      have e2 := y xs (sq _ p)
      exact ⟨N', .refl al, (h3.2 i x d e2 e).fr p fun a q _ => n a q⟩ }
def rangeD (lo : Int) (n : Nat) : List Da := (List.range n).map fun (i : Nat) => Da.int (lo + i)
theorem it_range (lo : Int) (n : Nat) : ItD K (Itr lo n) N H (rangeD lo n) where
  go := fun i H' p hi => by
    show i < n
    simpa [rangeD] using hi
  stop := fun i H' p hi => by
    show n ≤ i
    simpa [rangeD] using hi
  yld := fun i N' H' x H'' d p n gg al y e => by
    obtain ⟨rfl, rfl⟩ := y
    unfold rangeD at e
    rw [List.getElem?_map, Option.map_eq_some_iff] at e
    obtain ⟨j, e, rfl⟩ := e
    rw [List.getElem?_range] at e
    · cases e
      exact ⟨N', .refl al, .int _⟩
    · have := (List.getElem?_eq_some_iff.mp e).1
      simpa using this
def enumD (ds : List Da) : List Da := (List.range ds.length).zipWith (fun (i : Nat) d => Da.tup [.int (i : Nat), d]) ds
theorem it_enum {a : Addr} {xs : List V} {ds : List Da} (h1 : H a = some (.lst xs)) (h2 : N a) (h3 : DA K H N xs ds) : ItD K (Ite K a) N H (enumD ds) :=
  have hl : (enumD ds).length = ds.length := by simp [enumD]
  { go := fun i H' p hi => ⟨xs, xs[i]'(by rw [h3.1]; omega), .of (p _ _ h2 h1), by simp⟩
    stop := fun i H' p hi => ⟨xs, .of (p _ _ h2 h1), by rw [h3.1]; omega⟩
    yld := fun i N' H' x H'' d p n gg al y e => by
      obtain ⟨T, z, rfl, nT, rfl, y⟩ := y
      have e2 := y xs (.of (p _ _ h2 h1))
      have hi : i < ds.length := by have := (List.getElem?_eq_some_iff.mp e).1; omega
      have e3 : d = .tup [.int (i : Nat), ds[i]] := by
        simp only [enumD, List.getElem?_zipWith, List.getElem?_range hi, List.getElem?_eq_getElem hi, Option.some.injEq] at e
        exact e.symm
      subst e3
      have q := (h3.2 i z ds[i] e2 (by simp)).fr (H' := H') (N' := N') p fun a q _ => n a q
      exact ⟨_, .new al nT _, newT al nT (.cons (.int _) (.cons q .nil))⟩ }
def zipD (ds es : List Da) : List Da := ds.zipWith (fun d e => Da.tup [d, e]) es
theorem it_zip {a b : Addr} {xs ys : List V} {ds es : List Da} (h1 : H a = some (.lst xs)) (h2 : N a) (h3 : DA K H N xs ds) (k1 : H b = some (.lst ys)) (k2 : N b) (k3 : DA K H N ys es) : ItD K (Itz K a b) N H (zipD ds es) :=
  have hl : (zipD ds es).length = min ds.length es.length := by simp [zipD]
  { go := fun i H' p hi => ⟨xs, ys, xs[i]'(by rw [h3.1]; omega), ys[i]'(by rw [k3.1]; omega), .of (p _ _ h2 h1), .of (p _ _ k2 k1), by simp, by simp⟩
    stop := fun i H' p hi => ⟨xs, ys, .of (p _ _ h2 h1), .of (p _ _ k2 k1), by rw [h3.1, k3.1]; omega⟩
    yld := fun i N' H' x H'' d p n gg al y e => by
      obtain ⟨T, z, u, rfl, nT, rfl, y, w⟩ := y
      have e2 := y xs (.of (p _ _ h2 h1))
      have e4 := w ys (.of (p _ _ k2 k1))
      have hm : i < min ds.length es.length := by have := (List.getElem?_eq_some_iff.mp e).1; omega
      have hi : i < ds.length := by omega
      have hj : i < es.length := by omega
      have e3 : d = .tup [ds[i], es[i]] := by
        simp only [zipD, List.getElem?_zipWith, List.getElem?_eq_getElem hi, List.getElem?_eq_getElem hj, Option.some.injEq] at e
        exact e.symm
      subst e3
      have q := (h3.2 i z ds[i] e2 (by simp)).fr (H' := H') (N' := N') p fun a q _ => n a q
      have r := (k3.2 i u es[i] e4 (by simp)).fr (H' := H') (N' := N') p fun a q _ => n a q
      exact ⟨_, .new al nT _, newT al nT (.cons q (.cons r .nil))⟩ }
def lstOf : Da → Option (List Da)
  | .lst xs => some xs
  | .lt _ xs => some xs
  | _ => none
def tupOf : Da → Option (List Da)
  | .tup xs => some xs
  | _ => none
def giL (g : En' → Ou Da) : En' → Ou (List Da) := fun ρ => (g ρ).bind fun x => Ou.of (lstOf x)
def giT (g : En' → Ou Da) : En' → Ou (List Da) := fun ρ => (g ρ).bind fun x => Ou.of (tupOf x)
theorem lstOf_inv {ds : List Da} (h : DV K H N v d) (e : lstOf d = some ds) : ∃ a xs, v = .ref a ∧ H a = some (.lst xs) ∧ N a ∧ DA K H N xs ds := by
  cases d with
  | lst xs => cases e; exact h.lst_inv
  | lt b xs =>
    cases e
    obtain ⟨xs, rfl, h1, h2, h3⟩ := h.lt_inv
    exact ⟨b, xs, rfl, h1, h2, h3⟩
  | _ => cases e
theorem tupOf_eq {ds : List Da} (e : tupOf d = some ds) : d = .tup ds := by
  cases d <;> cases e
  rfl
theorem di_list (ha : DE K E ta ga) : DI K E (iList K ta) (giL ga) := by
  intro N ρ σ H R en w
  refine ha N ρ σ H _ en (w.bind.mono fun dx N1 H1 g1 w1 x hx => ?_)
  obtain ⟨ds, e, q⟩ := w1.of
  obtain ⟨a, xs, rfl, h1, h2, h3⟩ := lstOf_inv hx e
  exact ⟨a, rfl, ⟨xs, .of h1⟩, q N1 H1 (.refl g1.al) _ (it_list h1 h2 h3)⟩
theorem di_tup (ha : DE K E ta ga) : DI K E (iTup K ta) (giT ga) := by
  intro N ρ σ H R en w
  refine ha N ρ σ H _ en (w.bind.mono fun dx N1 H1 g1 w1 x hx => ?_)
  obtain ⟨ds, e, q⟩ := w1.of
  cases tupOf_eq e
  obtain ⟨a, xs, rfl, h1, h2, h3⟩ := hx.tup_inv
  exact ⟨a, rfl, ⟨xs, h1⟩, q N1 H1 (.refl g1.al) _ (it_tup h2 h3)⟩
def giR1 (gs : En' → Ou (List Da)) : En' → Ou (List Da) := fun ρ => (gs ρ).bind fun xs => match xs with
  | [.int j] => if -(2 ^ 62) ≤ j ∧ j < 2 ^ 62 then .ok (rangeD 0 j.toNat) else .bad
  | _ => .bad
def giR2 (gs : En' → Ou (List Da)) : En' → Ou (List Da) := fun ρ => (gs ρ).bind fun xs => match xs with
  | [.int i, .int j] => if -(2 ^ 62) ≤ i ∧ i < 2 ^ 62 ∧ -(2 ^ 62) ≤ j ∧ j < 2 ^ 62 then .ok (rangeD i (j - i).toNat) else .bad
  | _ => .bad
theorem di_range1 (ha : DAr K E ts gs) : DI K E (iRng1 ts) (giR1 gs) := by
  intro N ρ σ H R en w
  refine ha N ρ σ H _ en (w.bind.mono fun ds N1 H1 g1 w1 vs hv => ?_)
  split at w1
  · split at w1
    · rename_i hb
      obtain ⟨v, rfl, h⟩ := hv.one
      cases h
      exact ⟨_, rfl, hb.1, hb.2, w1.now (.refl g1.al) _ (it_range _ _)⟩
    · exact absurd rfl w1.nb
  · exact absurd rfl w1.nb
theorem di_range2 (ha : DAr K E ts gs) : DI K E (iRng2 ts) (giR2 gs) := by
  intro N ρ σ H R en w
  refine ha N ρ σ H _ en (w.bind.mono fun ds N1 H1 g1 w1 vs hv => ?_)
  split at w1
  · split at w1
    · rename_i hb
      obtain ⟨v, u, rfl, h, k⟩ := hv.two
      cases h
      cases k
      exact ⟨_, _, rfl, hb, w1.now (.refl g1.al) _ (it_range _ _)⟩
    · exact absurd rfl w1.nb
  · exact absurd rfl w1.nb
def giE (gs : En' → Ou (List Da)) : En' → Ou (List Da) := fun ρ => (gs ρ).bind fun xs => match xs with
  | [.lst ds] => .ok (enumD ds)
  | _ => .bad
def giZ (gs : En' → Ou (List Da)) : En' → Ou (List Da) := fun ρ => (gs ρ).bind fun xs => match xs with
  | [.lst ds, .lst es] => .ok (zipD ds es)
  | _ => .bad
theorem di_enum (ha : DAr K E ts gs) : DI K E (iEnum K ts) (giE gs) := by
  intro N ρ σ H R en w
  refine ha N ρ σ H _ en (w.bind.mono fun ds N1 H1 g1 w1 vs hv => ?_)
  split at w1
  · obtain ⟨v, rfl, h⟩ := hv.one
    obtain ⟨a, xs, rfl, h1, h2, h3⟩ := h.lst_inv
    exact ⟨a, xs, rfl, .of h1, w1.now (.refl g1.al) _ (it_enum h1 h2 h3)⟩
  · exact absurd rfl w1.nb
theorem di_zip (ha : DAr K E ts gs) : DI K E (iZip K ts) (giZ gs) := by
  intro N ρ σ H R en w
  refine ha N ρ σ H _ en (w.bind.mono fun ds N1 H1 g1 w1 vs hv => ?_)
  split at w1
  · obtain ⟨v, u, rfl, h, k⟩ := hv.two
    obtain ⟨a, xs, rfl, h1, h2, h3⟩ := h.lst_inv
    obtain ⟨b, ys, rfl, k1, k2, k3⟩ := k.lst_inv
    exact ⟨a, b, xs, ys, rfl, .of h1, .of k1, w1.now (.refl g1.al) _ (it_zip h1 h2 h3 k1 k2 k3)⟩
  · exact absurd rfl w1.nb
end
/-! ### targets -/
def setVs : St → List Nat → List V → St
  | σ, i :: is, v :: vs => setVs (σ.set i (some v)) is vs
  | σ, _, _ => σ
def setDs : En' → List Nat → List Da → En'
  | ρ, i :: is, d :: ds => setDs (ρ.set i (some d)) is ds
  | ρ, _, _ => ρ
structure DGt (K : PySem.W.Frag) (g : TG) (is : List Nat) (m : Da → Option (List Da)) : Prop where
  len : ∀ d ds, m d = some ds → ds.length = is.length
  run : ∀ (N : Rg) (H : Hp) (x : V) (d : Da) (ds : List Da) (σ : St) (Q : St → Hp → Prop), DV K H N x d → m d = some ds → (∀ vs, DA K H N vs ds → Q (setVs σ is vs) H) → g x σ H Q
structure DGs (K : PySem.W.Frag) (g : TGs) (is : List Nat) (m : List Da → Option (List Da)) : Prop where
  len : ∀ d ds, m d = some ds → ds.length = is.length
  run : ∀ (N : Rg) (H : Hp) (xs : List V) (es ds : List Da) (σ : St) (Q : St → Hp → Prop), DA K H N xs es → m es = some ds → (∀ vs, DA K H N vs ds → Q (setVs σ is vs) H) → g xs σ H Q
def mOne : Da → Option (List Da) := fun d => some [d]
def mNil : List Da → Option (List Da)
  | [] => some []
  | _ => none
def mCons (m : Da → Option (List Da)) (n : List Da → Option (List Da)) : List Da → Option (List Da)
  | [] => none
  | d :: ds => (m d).bind fun a => (n ds).map fun b => a ++ b
def mTup (k : Nat) (n : List Da → Option (List Da)) : Da → Option (List Da)
  | .tup ds => if ds.length = k then n ds else none
  | _ => none
section
variable {K : PySem.W.Frag} {E E' : XK} {N N' : Rg} {H H' : Hp} {g : TG} {gt : TGs} {is js vs : List Nat} {m : Da → Option (List Da)} {ml : List Da → Option (List Da)}
theorem setVs_append : ∀ {is js : List Nat} {vs us : List V} {σ : St}, vs.length = is.length → setVs σ (is ++ js) (vs ++ us) = setVs (setVs σ is vs) js us
  | [], js, vs, us, σ, h => by
    rw [List.length_eq_zero_iff.mp h]
    rfl
  | i :: is, js, [], us, σ, h => by simp at h
  | i :: is, js, v :: vs, us, σ, h => setVs_append (is := is) (vs := vs) (by simpa using h)
theorem dg_name (i : Nat) : DGt K (gName i) [i] mOne := ⟨fun d ds e => by cases e; rfl, fun N H x d ds σ Q h e q => by
  cases e
  exact q [x] (.cons h .nil)⟩
theorem dgs_nil : DGs K gNil [] mNil := ⟨fun d ds e => by
    cases d <;> cases e
    rfl, fun N H xs es ds σ Q h e q => by
  cases es <;> cases e
  exact ⟨h.inv0, q [] .nil⟩⟩
theorem mCons_inv {es ds : List Da} (e : mCons m ml es = some ds) : ∃ d r a b, es = d :: r ∧ m d = some a ∧ ml r = some b ∧ ds = a ++ b := by
  cases es with
  | nil => cases e
  | cons d r =>
    have e : ((m d).bind fun a => (ml r).map fun b => a ++ b) = some ds := e
    rw [Option.bind_eq_some_iff] at e
    obtain ⟨a, e1, e2⟩ := e
    rw [Option.map_eq_some_iff] at e2
    obtain ⟨b, e2, e3⟩ := e2
    exact ⟨d, r, a, b, rfl, e1, e2, e3.symm⟩
theorem dgs_cons (h : DGt K g is m) (k : DGs K gt js ml) : DGs K (gCons g gt) (is ++ js) (mCons m ml) := ⟨fun es ds e => by
    obtain ⟨d, r, a, b, rfl, e1, e2, rfl⟩ := mCons_inv e
    rw [List.length_append, List.length_append, h.len _ _ e1, k.len _ _ e2],
  fun N H xs es ds σ Q hx e q => by
    obtain ⟨d, r, a, b, rfl, e1, e2, rfl⟩ := mCons_inv e
    obtain ⟨x, us, rfl, h1, h2⟩ := DA.inv hx
    refine ⟨x, us, rfl, h.run N H x d a σ _ h1 e1 fun vs1 hv1 => k.run N H us r b _ _ h2 e2 fun vs2 hv2 => ?_⟩
    rw [← setVs_append (by rw [hv1.1, h.len _ _ e1])]
    exact q _ (hv1.append hv2)⟩
theorem mTup_inv {n : Nat} {d : Da} {ds : List Da} (e : mTup n ml d = some ds) : ∃ es, d = .tup es ∧ es.length = n ∧ ml es = some ds := by
  cases d with
  | tup es =>
    have e : (if es.length = n then ml es else none) = some ds := e
    by_cases h : es.length = n
    · rw [if_pos h] at e
      exact ⟨es, rfl, h, e⟩
    · rw [if_neg h] at e
      cases e
  | _ => cases e
theorem dg_tup {n : Nat} (k : DGs K gt js ml) : DGt K (gTup K n gt) js (mTup n ml) where
  len := fun d ds e => by
    obtain ⟨es, rfl, _, e⟩ := mTup_inv e
    exact k.len _ _ e
  run := fun N H x d ds σ Q hx e q => by
    obtain ⟨es, rfl, hn, e⟩ := mTup_inv e
    obtain ⟨a, xs, rfl, h1, _, h2⟩ := hx.tup_inv
    exact ⟨a, xs, rfl, h1, by rw [h2.1]; exact hn, k.run N H xs es ds σ Q h2 e q⟩
/-! ### the slots set, wiped -/
theorem setVs_len : ∀ {is : List Nat} {vs : List V} {σ : St}, (setVs σ is vs).length = σ.length
  | [], _, _ => rfl
  | _ :: _, [], _ => rfl
  | i :: is, v :: vs, σ => by
    show (setVs (σ.set i (some v)) is vs).length = _
    rw [setVs_len, List.length_set]
theorem setDs_len : ∀ {is : List Nat} {vs : List Da} {σ : En'}, (setDs σ is vs).length = σ.length
  | [], _, _ => rfl
  | _ :: _, [], _ => rfl
  | i :: is, v :: vs, σ => by
    show (setDs (σ.set i (some v)) is vs).length = _
    rw [setDs_len, List.length_set]
theorem EnvR.set {ρ : En'} {σ : St} (h : EnvR K H N ρ σ) {v : V} {d : Da} (hv : DV K H N v d) (i : Nat) : EnvR K H N (ρ.set i (some d)) (σ.set i (some v)) := ⟨h.al, by rw [List.length_set, List.length_set, h.len], fun j e q => by
  by_cases hij : i = j
  · subst hij
    by_cases hl : i < ρ.length
    · rw [List.getElem?_set_self hl] at q
      cases q
      exact ⟨v, by rw [List.getElem?_set_self (by rw [← h.len]; exact hl)], hv⟩
    · rw [List.getElem?_eq_none (by rw [List.length_set]; omega)] at q
      cases q
  · rw [List.getElem?_set_ne hij] at q ⊢
    exact h.get j e q⟩
theorem EnvR.clr {ρ : En'} {σ : St} (h : EnvR K H N ρ σ) (i : Nat) (u : Option V) : EnvR K H N (ρ.set i none) (σ.set i u) := ⟨h.al, by rw [List.length_set, List.length_set, h.len], fun j e q => by
  by_cases hij : i = j
  · subst hij
    by_cases hl : i < ρ.length
    · rw [List.getElem?_set_self hl] at q
      cases q
    · rw [List.getElem?_eq_none (by rw [List.length_set]; omega)] at q
      cases q
  · rw [List.getElem?_set_ne hij] at q ⊢
    exact h.get j e q⟩
theorem EnvR.sets : ∀ {is : List Nat} {ρ : En'} {σ : St} {vs : List V} {ds : List Da}, EnvR K H N ρ σ → DA K H N vs ds → EnvR K H N (setDs ρ is ds) (setVs σ is vs)
  | [], _, _, _, _, h, _ => h
  | i :: is, ρ, σ, vs, [], h, q => by
    rw [q.inv0]
    exact h
  | i :: is, ρ, σ, vs, d :: ds, h, q => by
    obtain ⟨v, us, rfl, h1, h2⟩ := q.inv
    exact EnvR.sets (is := is) (h.set h1 i) h2
def wipeD (ρ : En') : List Nat → En'
  | [] => ρ
  | v :: vs => (wipeD ρ vs).set v none
theorem EnvR.wipe {ρ : En'} {σ : St} (h : EnvR K H N ρ σ) : ∀ vs, EnvR K H N (wipeD ρ vs) (wipe σ vs)
  | [] => h
  | v :: vs => (EnvR.wipe h vs).clr v none
theorem setVs_out : ∀ {is : List Nat} {vs : List V} {σ : St} {j : Nat}, j ∉ is → (setVs σ is vs)[j]? = σ[j]?
  | [], _, _, _, _ => rfl
  | _ :: _, [], _, _, _ => rfl
  | i :: is, v :: vs, σ, j, h => by
    show (setVs (σ.set i (some v)) is vs)[j]? = _
    rw [setVs_out (fun q => h (List.mem_cons_of_mem _ q)), List.getElem?_set_ne (fun q => h (by rw [q]; exact List.mem_cons_self))]
theorem wipe_in {σ : St} {j : Nat} : ∀ {vs : List Nat}, j ∈ vs → j < σ.length → (L2.wipe σ vs)[j]? = some none
  | v :: vs, h, hl => by
    unfold L2.wipe
    by_cases e : v = j
    · subst e
      rw [List.getElem?_set_self (by rw [wipe_length]; exact hl)]
    · rw [List.getElem?_set_ne e]
      exact wipe_in ((List.mem_cons.mp h).resolve_left fun q => e q.symm) hl
theorem wipe_set {σ : St} {us : List V} (hs : ∀ i ∈ is, i ∈ vs) : L2.wipe (setVs (L2.wipe σ vs) is us) vs = L2.wipe σ vs := by
  refine List.ext_getElem? fun j => ?_
  by_cases hj : j ∈ vs
  · by_cases hl : j < σ.length
    · rw [wipe_in hj hl, wipe_in hj (by rw [setVs_len, wipe_length]; exact hl)]
    · rw [List.getElem?_eq_none (by rw [wipe_length, setVs_len, wipe_length]; omega), List.getElem?_eq_none (by rw [wipe_length]; omega)]
  · rw [wipe_out hj, setVs_out (fun q => hj (hs _ q))]
/-! ### comprehensions -/
def lcM (ρ : En') (is : List Nat) (m : Da → Option (List Da)) (gt : En' → Ou Bool) (ge : En' → Ou Da) : List Da → Ou (List Da)
  | [] => .ok []
  | d :: r => match m d with
    | none => .bad
    | some ds => (gt (setDs ρ is ds)).bind fun b => if b = true then (ge (setDs ρ is ds)).bind fun y => (lcM ρ is m gt ge r).bind fun ys => .ok (y :: ys) else lcM ρ is m gt ge r
def gLc (vs : List Nat) (gi : En' → Ou (List Da)) (is : List Nat) (m : Da → Option (List Da)) (gt : En' → Ou Bool) (ge : En' → Ou Da) : En' → Ou Da := fun ρ =>
  (gi ρ).bind fun xs => if fit xs = true then (noEr (lcM (wipeD ρ vs) is m gt ge xs)).bind fun ys => .ok (.lst ys) else .bad
theorem noEr_bind {α β : Type} {f : α → Ou β} : ∀ {o : Ou α}, noEr (o.bind f) = (noEr o).bind fun a => noEr (f a)
  | .ok a => rfl
  | .er c d => rfl
  | .bad => rfl
  | .any n k => congrArg (Ou.any n) (funext fun i => noEr_bind (o := k i))
theorem Ou.bind_assoc {α β γ : Type} {f : α → Ou β} {g : β → Ou γ} : ∀ {o : Ou α}, (o.bind f).bind g = o.bind fun a => (f a).bind g
  | .ok a => rfl
  | .er c d => rfl
  | .bad => rfl
  | .any n k => congrArg (Ou.any n) (funext fun i => Ou.bind_assoc (o := k i))
theorem noEr_noEr {α : Type} : ∀ {o : Ou α}, noEr (noEr o) = noEr o
  | .ok a => rfl
  | .er c d => rfl
  | .bad => rfl
  | .any n k => congrArg (Ou.any n) (funext fun i => noEr_noEr (o := k i))
/-- the list at D as it grows: N behind H1, N' now -/
structure LcI (K : PySem.W.Frag) (N1 : Rg) (H1 : Hp) (D : Addr) (N' : Rg) (H : Hp) (acc : List V) (done : List Da) : Prop where
  g : Ev N1 H1 N' H
  at_ : H D = some (.lst acc)
  out : ¬ N' D
  outg : ¬ N'.g D
  da : DA K H N' acc done
/-- what is still to come -/
def lcR (done : List Da) (o : Ou (List Da)) : Ou Da := (noEr o).bind fun ys => .ok (.lst (done ++ ys))
theorem LcI.ev {N1 N' N4 : Rg} {H1 H2 H4 : Hp} {D : Addr} {acc : List V} {done : List Da} (I : LcI K N1 H1 D N' H2 acc done) (g : Ev N' H2 N4 H4) : LcI K N1 H1 D N4 H4 acc done := ⟨I.g.trans g, g.s _ _ I.at_ I.outg, fun h => (g.w D h).elim I.out fun z => absurd (I.at_.symm.trans z) nofun, fun h => (g.gw D h).elim I.outg fun z => absurd (I.at_.symm.trans z) nofun, I.da.g g⟩
/-- a heap without D -/
def rid (H : Hp) (D : Addr) : Hp := fun a => if a = D then none else H a
theorem rid_ne {H : Hp} {D a : Addr} (h : a ≠ D) : rid H D a = H a := if_neg h
theorem rid_upd {H : Hp} {D : Addr} {o : HO} : rid (upd H D o) D = rid H D := funext fun a => by
  unfold rid
  by_cases e : a = D
  · rw [if_pos e, if_pos e]
  · rw [if_neg e, if_neg e, upd_ne e]
theorem rid_at {H : Hp} {D : Addr} : rid H D D = none := if_pos rfl
/-- an object that no region knows -/
theorem Ev.hide {N N' : Rg} {H H' : Hp} {D : Addr} {u : HO} (g : Ev N H N' H') (hD : H D = some u) (n1 : ¬ N D) (n2 : ¬ N.g D) : Ev N (rid H D) N' (rid H' D) := by
  have n1' : ¬ N' D := fun h => (g.w D h).elim n1 fun z => absurd (hD.symm.trans z) nofun
  have n2' : ¬ N'.g D := fun h => (g.gw D h).elim n2 fun z => absurd (hD.symm.trans z) nofun
  have de : ∀ {H : Hp} {a : Addr}, H a = none → rid H D a = none := fun {H a} h => by
    by_cases e : a = D
    · rw [e]; exact rid_at
    · rw [rid_ne e]; exact h
  refine ⟨fun a o e n => ?_, g.n, g.gg, fun a h => (g.w a h).imp id de, fun a h => (g.gw a h).imp id de, g.tb, ⟨fun a h => ?_, fun a h => ?_, g.al.d⟩⟩
  · by_cases z : a = D
    · rw [z, rid_at] at e
      cases e
    · rw [rid_ne z] at e ⊢
      exact g.s a o e n
  · rw [rid_ne (fun z => n1' (by rw [← z]; exact h))]
    exact g.al.n a h
  · rw [rid_ne (fun z => n2' (by rw [← z]; exact h))]
    exact g.al.g a h
theorem Ev.hideL {N N' : Rg} {H H' : Hp} {D : Addr} (g : Ev N H N' H') : Ev N (rid H D) N' H' := by
  have de : ∀ {a : Addr}, H a = none → rid H D a = none := fun {a} h => by
    by_cases e : a = D
    · rw [e]; exact rid_at
    · rw [rid_ne e]; exact h
  refine ⟨fun a o e n => ?_, g.n, g.gg, fun a h => (g.w a h).imp id de, fun a h => (g.gw a h).imp id de, g.tb, g.al⟩
  by_cases z : a = D
  · rw [z, rid_at] at e
    cases e
  · rw [rid_ne z] at e
    exact g.s a o e n
theorem WnB.hide {α : Type} {D : Addr} {u : HO} {N : Rg} {H : Hp} (hD : H D = some u) (n1 : ¬ N D) (n2 : ¬ N.g D) {Q : α → Rg → Hp → Prop} : ∀ {o : Ou α} {b : Nat}, WnB K E N (rid H D) b o Q → WnB K E N H b o (fun a N' H' => Q a N' (rid H' D))
  | .ok a, _, w => fun N' H' g z => w N' _ (g.hide hD n1 n2) z
  | .er c d, _, w => fun v dd N' H' g => w v dd N' H' g.hideL
  | .bad, _, w => w
  | .any n k, _, w => ⟨w.1, fun i hi => WnB.hide hD n1 n2 (w.2 i hi)⟩
theorem Wn.hide {α : Type} {D : Addr} {u : HO} {N : Rg} {H : Hp} {o : Ou α} {Q : α → Rg → Hp → Prop} (w : Wn K E N (rid H D) o Q) (hD : H D = some u) (n1 : ¬ N D) (n2 : ¬ N.g D) : Wn K E N H o (fun a N' H' => Q a N' (rid H' D)) := WnB.hide hD n1 n2 w
theorem LcI.push {N1 N' : Rg} {H1 H2 : Hp} {D : Addr} {acc : List V} {done : List Da} {v : V} {y : Da} (I : LcI K N1 H1 D N' H2 acc done) (nD : H1 D = none) (hy : DV K H2 N' v y) : LcI K N1 H1 D N' (upd H2 D (.lst (acc ++ [v]))) (acc ++ [v]) (done ++ [y]) := by
  have fr : ∀ a o, N' a → H2 a = some o → upd H2 D (.lst (acc ++ [v])) a = some o := fun a o n e => by rw [upd_ne (fun z => I.out (by rw [← z]; exact n))]; exact e
  refine ⟨⟨fun a o e n => ?_, I.g.n, I.g.gg, I.g.w, I.g.gw, I.g.tb, ⟨fun a h => ?_, fun a h => ?_, I.g.al.d⟩⟩, upd_same, I.out, I.outg, ?_⟩
  · rw [upd_ne (ne_of_none e nD)]
    exact I.g.s a o e n
  · rw [upd_ne (fun z => I.out (by rw [← z]; exact h))]
    exact I.g.al.n a h
  · rw [upd_ne (fun z => I.outg (by rw [← z]; exact h))]
    exact I.g.al.g a h
  · exact (I.da.append (.cons hy .nil)).fr fr fun a h _ => h
theorem de_lc {wi : TI} {gi : En' → Ou (List Da)} {tt : TT} {gt : En' → Ou Bool} {te : TE} {ge : En' → Ou Da} (hi : DI K E wi gi) (hg : DGt K g is m) (ht : DT K E' tt gt) (he : DE K E' te ge) (hs : ∀ i ∈ is, i ∈ vs := by decide) :
    DE K E (tLc wi g tt te vs) (gLc vs gi is m gt ge) := by
  intro N ρ σ H Q en w
  refine hi N ρ σ H _ en (w.bind.mono fun items N1 H1 g1 w1 J hJ => ?_)
  have en1 := (en.g g1).wipe vs
  split at w1
  case isFalse => exact w1.elim
  rename_i hfit
  have hsz := fit_line hfit
  intro D nD
  have h0 : ∀ {o : HO}, rid (upd H1 D o) D = H1 := fun {o} => by
    rw [rid_upd]
    funext a
    by_cases e : a = D
    · rw [e, rid_at, nD]
    · rw [rid_ne e]
  refine ⟨fun i k H => k = items.length - i ∧ i ≤ items.length ∧ ∃ N' acc done, LcI K N1 H1 D N' H acc done ∧ done.length ≤ i ∧ Wn K E N' (rid H D) (lcR done (lcM (wipeD ρ vs) is m gt ge (items.drop i))) (fun d N' H' => ∀ v, DV K H' N' v d → Q v H'), ⟨_, rfl, Nat.zero_le _, N1, [], [], ?_, Nat.le_refl _, ?_⟩, ?_⟩
  · exact ⟨(Grow.apart g1.al nD _).toEv, upd_same, fun h => g1.al.n D h nD, fun h => let ⟨o, e, _⟩ := g1.al.g D h; absurd (nD.symm.trans e) nofun, .nil⟩
  · rw [h0]
    exact w1
  · rintro i k H2 ⟨rfl, hi, N', acc, done, I, hdl, w2⟩
    by_cases hlt : i < items.length
    · refine .inr ⟨hJ.go i H2 I.g.pz hlt, fun H' => i + 1 ≤ items.length ∧ ∃ N' acc done, LcI K N1 H1 D N' H' acc done ∧ done.length ≤ i + 1 ∧ Wn K E N' (rid H' D) (lcR done (lcM (wipeD ρ vs) is m gt ge (items.drop (i + 1)))) (fun d N' H' => ∀ v, DV K H' N' v d → Q v H'), ?_, ?_⟩
      · rintro H' ⟨h1, h2⟩
        exact ⟨items.length - (i + 1), by omega, rfl, h1, h2⟩
      · intro x H3 yx
        obtain ⟨N3, g3, hx⟩ := hJ.yld i N' H2 x H3 items[i] I.g.pz I.g.n I.g.gg I.g.al yx (by simp)
        rw [List.drop_eq_getElem_cons hlt] at w2
        unfold lcR lcM at w2
        split at w2
        · exact w2.elim
        · rename_i ds e1
          refine hg.run N3 H3 x items[i] ds _ _ hx e1 fun us hu => ⟨wipe_set hs, ?_⟩
          have I3 := I.ev g3.toEv
          have en3 : EnvR K H3 N3 (setDs (wipeD ρ vs) is ds) (setVs (L2.wipe σ vs) is us) := ((en1.g I.g).g g3.toEv).sets hu
          rw [noEr_bind, Ou.bind_assoc] at w2
          have w3 := w2.g (N1 := N3) (H1 := rid H3 D) ⟨g3.toEv.hide I.at_ I.out I.outg, g3.bq⟩
          refine ht N3 _ _ H3 _ en3 ((w3.bind.hide I3.at_ I3.out I3.outg).noEr.mono fun b N4 H4 g4 w4 => ?_)
          have I4 := I3.ev g4
          cases b with
          | true =>
            rw [if_pos rfl]
            rw [if_pos rfl, noEr_bind, Ou.bind_assoc] at w4
            refine he N4 _ _ H4 _ (en3.g g4) ((w4.bind.hide I4.at_ I4.out I4.outg).noEr.mono fun y N5 H5 g5 w5 yv hy => ?_)
            have I5 := I4.ev g5
            refine ⟨acc, I5.at_, ?_, by omega, N5, acc ++ [yv], done ++ [y], I5.push nD hy, by rw [List.length_append]; exact Nat.succ_le_succ hdl, ?_⟩
            · rw [I5.da.1]
              omega
            · rw [noEr_bind, Ou.bind_assoc] at w5
              rw [rid_upd]
              unfold lcR
              have e : (fun ys => Ou.ok (Da.lst (done ++ [y] ++ ys))) = fun a => (noEr (Ou.ok (y :: a))).bind fun ys => Ou.ok (Da.lst (done ++ ys)) := funext fun ys => by
                rw [List.append_assoc]
                rfl
              rw [e]
              exact w5
          | false =>
            rw [if_neg (by simp)]
            rw [if_neg (by simp)] at w4
            exact ⟨by omega, N4, acc, done, I4, by omega, w4⟩
    · have ei : i = items.length := by omega
      subst ei
      refine .inl ⟨hJ.stop _ H2 I.g.pz (Nat.le_refl _), ?_⟩
      rw [List.drop_length] at w2
      have w2 : Wn K E N' (rid H2 D) (Ou.ok (Da.lst (done ++ []))) (fun d N' H' => ∀ v, DV K H' N' v d → Q v H') := w2
      rw [List.append_nil] at w2
      have al : Al (N'.add D) H2 := ⟨fun a h => h.elim (I.g.al.n a) fun e => by rw [e, I.at_]; simp, I.g.al.g, fun a h1 h2 => h2.elim (I.g.al.d a h1) fun e => I.outg (by rw [← e]; exact h1)⟩
      refine w2.now (N' := N'.add D) (H' := H2) ⟨⟨(Ev.refl I.g.al).hideL.s, fun a h => .inl h, fun a h => h, fun a h => h.imp id fun e => by rw [e]; exact rid_at, fun a h => .inl h, Nat.le_refl _, al⟩, rfl⟩ _ (.l ⟨.inr rfl, I.at_⟩ (DA.fr (N' := N'.add D) (fun a o _ e => e) (fun a h _ => .inl h) I.da))
theorem dt_yes : DT K E tYes (fun _ => .ok true) := fun N ρ σ H Q en w => w.now (.refl en.al)
end
end L2.Dc
/-! statements over data -/
namespace L2.Dc
open PySem PySem.Spec PyProof.Rows L2.Fw
/-- a slot: nothing known, data, a list that is this slot's alone, the instance that is being made -/
inductive Sl where
  | no | sh (d : Da) | own (ds : List Da) | slf (c : Str) (ks : List Str) (vs : List Da)
abbrev Es := List Sl
def shS : Sl → Option Da
  | .sh d => some d
  | _ => none
def fuS : Sl → Option Da
  | .sh d => some d
  | .own ds => some (.lst ds)
  | _ => none
def shs (ρ : Es) : En' := ρ.map shS
def fus (ρ : Es) : En' := ρ.map fuS
/-- how the def began -/
structure Bs where
  N0 : Rg
  H0 : Hp
  x : Option Addr
structure EnvS (K : PySem.W.Frag) (B : Bs) (H : Hp) (N : Rg) (ρ : Es) (σ : St) (O : Nat → Option Addr) : Prop where
  al : Al N H
  len : ρ.length = σ.length
  sh : ∀ (i : Nat) (d : Da), ρ[i]? = some (.sh d) → ∃ v, σ[i]? = some (some v) ∧ DV K H N v d
  ow : ∀ (i : Nat) (ds : List Da), ρ[i]? = some (.own ds) → ∃ a xs, O i = some a ∧ σ[i]? = some (some (.ref a)) ∧ H a = some (.lst xs) ∧ DA K H N xs ds
  sf : ∀ (c : Str) (ks : List Str) (vs : List Da), ρ[0]? = some (.slf c ks vs) → ∃ a dx fs, B.x = some a ∧ σ[0]? = some (some (.ref a)) ∧ H a = some (.ins (He.ga K c) dx fs) ∧ fs.map (·.1) = ks ∧ DA K H N (fs.map (·.2)) vs
  out : ∀ i a, O i = some a → ¬ N a
  outx : ∀ a, B.x = some a → ¬ N a
  new : ∀ i a, O i = some a → B.H0 a = none
  inj : ∀ i j a, O i = some a → O j = some a → i = j
  oal : ∀ i a, O i = some a → H a ≠ none
  xal : ∀ a, B.x = some a → H a ≠ none ∧ B.H0 a ≠ none
  n0 : ∀ a, B.N0 a → N a
  w : ∀ a, N a → B.N0 a ∨ B.H0 a = none
  keep : ∀ a o, B.H0 a = some o → B.x ≠ some a → ¬ B.N0.g a → H a = some o
  g0 : ∀ a, B.N0.g a → N.g a
  gw : ∀ a, N.g a → B.N0.g a ∨ B.H0 a = none
  outg : ∀ i a, O i = some a → ¬ N.g a
  outxg : ∀ a, B.x = some a → ¬ N.g a
  tb : B.N0.b ≤ N.b
/-- how the def ends -/
structure Rn (B : Bs) (N : Rg) (H : Hp) : Prop where
  al : Al N H
  n0 : ∀ a, B.N0 a → N a
  w : ∀ a, N a → B.N0 a ∨ B.H0 a = none
  keep : ∀ a o, B.H0 a = some o → B.x ≠ some a → ¬ B.N0.g a → H a = some o
  outx : ∀ a, B.x = some a → ¬ N a
  g0 : ∀ a, B.N0.g a → N.g a
  gw : ∀ a, N.g a → B.N0.g a ∨ B.H0 a = none
  outxg : ∀ a, B.x = some a → ¬ N.g a
  tb : B.N0.b ≤ N.b
theorem Rn.ev {B : Bs} {N : Rg} {H : Hp} (r : Rn B N H) (hx : B.x = none) : Ev B.N0 B.H0 N H := ⟨fun a o h n => r.keep a o h (by rw [hx]; nofun) n, r.n0, r.g0, r.w, r.gw, r.tb, r.al⟩
structure Kg (N : Rg) (H : Hp) (N' : Rg) (H' : Hp) : Prop where
  n : ∀ a, N a → N' a
  z : Pz N H H'
  gg : ∀ a, N.g a → N'.g a
theorem Kg.refl {N : Rg} {H : Hp} : Kg N H N H := ⟨fun _ h => h, .refl, fun _ h => h⟩
theorem Kg.trans {N N1 N2 : Rg} {H H1 H2 : Hp} (a : Kg N H N1 H1) (b : Kg N1 H1 N2 H2) : Kg N H N2 H2 := ⟨fun x h => b.n x (a.n x h), fun x o h e => b.z x o (a.n x h) (a.z x o h e), fun x h => b.gg x (a.gg x h)⟩
theorem Kg.of {N N1 : Rg} {H H1 : Hp} (g : Ev N H N1 H1) : Kg N H N1 H1 := ⟨g.n, g.pz, g.gg⟩
inductive Fl where
  | nx (ρ : Es) | rt (d : Da) | er (c : Str) (d : Da) | bad | any (n : Nat) (k : Nat → Fl)
def Ou.fl {α : Type} (o : Ou α) (k : α → Fl) : Fl := match o with
  | .ok a => k a
  | .er c d => .er c d
  | .bad => .bad
  | .any n q => .any n fun i => (q i).fl k
def Fl.seq (f : Fl) (k : Es → Fl) : Fl := match f with
  | .nx ρ => k ρ
  | .rt d => .rt d
  | .er c d => .er c d
  | .bad => .bad
  | .any n q => .any n fun i => (q i).seq k
def RzB (K : PySem.W.Frag) (E : XK) (B : Bs) (b : Nat) (c : Str) (d : Da) : Prop := ∀ v dd N' H', Rn B N' H' → N'.b = b → N' dd → DV K H' N' v d → H' dd = some (.xd [(efld c, v)]) → E (.ref (He.ga K c)) (some dd) H'
def WSb (K : PySem.W.Frag) (E : XK) (B : Bs) (N : Rg) (H : Hp) (b : Nat) (f : Fl) (nx : St → Hp → Prop) (rt : VK) : Prop := match f with
  | .nx ρ' => ∀ N' H' O' σ', Kg N H N' H' → N'.b = b → EnvS K B H' N' ρ' σ' O' → nx σ' H'
  | .rt d => ∀ v N' H', Rn B N' H' → N'.b = b → DV K H' N' v d → rt v H'
  | .er c d => RzB K E B b c d
  | .bad => False
  | .any n k => b < 10 ^ 10 ∧ ∀ i, i < n → WSb K E B N H (b + 1) (k i) nx rt
abbrev WS (K : PySem.W.Frag) (E : XK) (B : Bs) (N : Rg) (H : Hp) (f : Fl) (nx : St → Hp → Prop) (rt : VK) : Prop := WSb K E B N H N.b f nx rt
def DS (K : PySem.W.Frag) (E : XK) (t : TS) (g : Es → Fl) : Prop := ∀ (B : Bs) (H : Hp) (N : Rg) (ρ : Es) (σ : St) (O : Nat → Option Addr) (D : Ends), EnvS K B H N ρ σ O → WS K E B N H (g ρ) D.nx D.rt → t D σ H
/-- N, its generators and draws as N1's -/
def Rg.to (N N1 : Rg) : Rg := ⟨N.n, N1.g, N1.b⟩
/-- N and the lists that are slots' own -/
def Nf (N : Rg) (O : Nat → Option Addr) : Rg := ⟨fun a => N a ∨ ∃ i, O i = some a, N.g, N.b⟩
section
variable {K : PySem.W.Frag} {E : XK} {B : Bs} {N N' N1 : Rg} {H H' H1 : Hp} {ρ : Es} {σ : St} {O : Nat → Option Addr} {f : Fl} {nx : St → Hp → Prop} {rt : VK}
theorem EnvS.h0 (e : EnvS K B H N ρ σ O) {a : Addr} (h : H a = none) : B.H0 a = none := by
  cases q : B.H0 a with
  | none => rfl
  | some o =>
    by_cases hx : B.x = some a
    · exact absurd h (e.xal a hx).1
    · by_cases hg : B.N0.g a
      · obtain ⟨u, e2, _⟩ := e.al.g a (e.g0 a hg)
        rw [h] at e2
        cases e2
      · rw [e.keep a o q hx hg] at h
        cases h
theorem EnvS.ng0 (e : EnvS K B H N ρ σ O) {a : Addr} {o : HO} (h : B.H0 a = some o) (n : ¬ B.N0.g a) : ¬ N.g a := fun q => (e.gw a q).elim n fun z => by rw [h] at z; cases z
theorem EnvS.g (e : EnvS K B H N ρ σ O) (g : Ev N H N' H') : EnvS K B H' N' ρ σ O :=
  have al : ∀ a, H a ≠ none → H' a ≠ none := fun a h z => h (g.free z)
  ⟨g.al, e.len, fun i d q => let ⟨v, h1, h2⟩ := e.sh i d q; ⟨v, h1, h2.g g⟩,
    fun i ds q => let ⟨a, xs, h1, h2, h3, h4⟩ := e.ow i ds q; ⟨a, xs, h1, h2, g.s _ _ h3 (e.outg i a h1), h4.g g⟩,
    fun c ks vs q => let ⟨a, dx, fs, h1, h2, h3, h4, h5⟩ := e.sf c ks vs q; ⟨a, dx, fs, h1, h2, g.s _ _ h3 (e.outxg a h1), h4, h5.g g⟩,
    fun i a h n => (g.w a n).elim (e.out i a h) (e.oal i a h), fun a h n => (g.w a n).elim (e.outx a h) (e.xal a h).1, e.new, e.inj, fun i a h => al a (e.oal i a h), fun a h => ⟨al a (e.xal a h).1, (e.xal a h).2⟩,
    fun a h => g.n a (e.n0 a h), fun a h => (g.w a h).elim (e.w a) fun z => .inr (e.h0 z), fun a o h1 h2 h3 => g.s _ _ (e.keep a o h1 h2 h3) (e.ng0 h1 h3),
    fun a h => g.gg a (e.g0 a h), fun a h => (g.gw a h).elim (e.gw a) fun z => .inr (e.h0 z), fun i a h n => (g.gw a n).elim (e.outg i a h) (e.oal i a h), fun a h n => (g.gw a n).elim (e.outxg a h) (e.xal a h).1, Nat.le_trans e.tb g.tb⟩
theorem EnvS.rn0 (e : EnvS K B H N ρ σ O) : Rn B N H := ⟨e.al, e.n0, e.w, e.keep, e.outx, e.g0, e.gw, e.outxg, e.tb⟩
theorem EnvS.rn (e : EnvS K B H N ρ σ O) (g : Ev N H N' H') : Rn B N' H' := (e.g g).rn0
theorem EnvS.r (e : EnvS K B H N ρ σ O) : EnvR K H N (shs ρ) σ := ⟨e.al, by unfold shs; rw [List.length_map, e.len], fun i d q => by
  unfold shs at q
  rw [List.getElem?_map, Option.map_eq_some_iff] at q
  obtain ⟨s, q1, q2⟩ := q
  cases s with
  | sh d' =>
    cases q2
    exact e.sh i _ q1
  | _ => cases q2⟩
theorem EnvS.alf (e : EnvS K B H N ρ σ O) : Al (Nf N O) H := ⟨fun a h => h.elim (e.al.n a) fun ⟨i, h⟩ => e.oal i a h, e.al.g, fun a h n => n.elim (e.al.d a h) fun ⟨i, q⟩ => e.outg i a q h⟩
theorem EnvS.fu (e : EnvS K B H N ρ σ O) : EnvR K H (Nf N O) (fus ρ) σ := ⟨e.alf, by unfold fus; rw [List.length_map, e.len], fun i d q => by
  unfold fus at q
  rw [List.getElem?_map, Option.map_eq_some_iff] at q
  obtain ⟨s, q1, q2⟩ := q
  cases s with
  | sh d' =>
    cases q2
    obtain ⟨v, h1, h2⟩ := e.sh i _ q1
    exact ⟨v, h1, h2.fr (N' := Nf N O) (fun _ _ _ e => e) fun a h _ => .inl h⟩
  | own ds =>
    cases q2
    obtain ⟨a, xs, h1, h2, h3, h4⟩ := e.ow i _ q1
    exact ⟨_, h2, .l ⟨.inr ⟨i, h1⟩, h3⟩ (h4.fr (N' := Nf N O) (fun _ _ _ e => e) fun a h _ => .inl h)⟩
  | _ => cases q2⟩
/-- the slots' own lists were read, too -/
theorem EnvS.evf (e : EnvS K B H N ρ σ O) (g : Ev (Nf N O) H N' H') : Ev N H (N.to N') H' := ⟨g.s, fun _ h => h, g.gg, fun _ h => .inl h, g.gw, g.tb, ⟨fun a h => g.al.n a (g.n a (.inl h)), g.al.g, fun a h n => g.al.d a h (g.n a (.inl n))⟩⟩
theorem EnvS.rnf (e : EnvS K B H N ρ σ O) (g : Ev (Nf N O) H N' H') : Rn B N' H' :=
  have r := (e.g (e.evf g)).rn0
  ⟨g.al, fun a h => g.n a (.inl (e.n0 a h)), fun a h => (g.w a h).elim (fun q => q.elim (e.w a) fun ⟨i, q⟩ => .inr (e.new i a q)) fun z => .inr (e.h0 z), r.keep, fun a h n => (g.w a n).elim (fun q => q.elim (e.outx a h) fun ⟨i, q⟩ => (e.xal a h).2 (e.new i a q)) (e.xal a h).1, r.g0, r.gw, r.outxg, r.tb⟩
theorem WSb.kg {N1 : Rg} {H1 : Hp} : ∀ {f : Fl} {b : Nat}, WSb K E B N H b f nx rt → Kg N H N1 H1 → WSb K E B N1 H1 b f nx rt
  | .nx ρ', _, w, k => fun N' H' O' σ' k' z => w N' H' O' σ' (k.trans k') z
  | .rt d, _, w, _ => w
  | .er c d, _, w, _ => w
  | .bad, _, w, _ => w
  | .any n q, _, w, k => ⟨w.1, fun i hi => WSb.kg (w.2 i hi) k⟩
theorem WSb.ex {α : Type} {k : α → Fl} (e : EnvS K B H N ρ σ O) : ∀ {o : Ou α} {b : Nat}, WSb K E B N H b (o.fl k) nx rt → WnB K E N H b o (fun a N' H' => WS K E B N' H' (k a) nx rt)
  | .ok a, b, w => fun N' H' g z => by
    show WSb K E B N' H' N'.b (k a) nx rt
    rw [z]
    exact WSb.kg (f := k a) w (.of g)
  | .er c d, _, w => fun v dd N' H' g => w v dd N' H' (e.rn g)
  | .bad, _, w => w
  | .any n q, _, w => ⟨w.1, fun i hi => WSb.ex e (w.2 i hi)⟩
theorem WS.ex {α : Type} {o : Ou α} {k : α → Fl} (e : EnvS K B H N ρ σ O) (w : WS K E B N H (o.fl k) nx rt) : Wn K E N H o (fun a N' H' => WS K E B N' H' (k a) nx rt) := WSb.ex e w
/-- where the slots' own lists are read, too: N stays -/
theorem WSb.exf {α : Type} {k : α → Fl} (e : EnvS K B H N ρ σ O) : ∀ {o : Ou α} {b : Nat}, WSb K E B N H b (o.fl k) nx rt → WnB K E (Nf N O) H b o (fun a N' H' => Ev (Nf N O) H N' H' ∧ WS K E B (N.to N') H' (k a) nx rt)
  | .ok a, b, w => fun N' H' g z => ⟨g, by
    show WSb K E B (N.to N') H' N'.b (k a) nx rt
    rw [z]
    exact WSb.kg (f := k a) w (.of (e.evf g))⟩
  | .er c d, _, w => fun v dd N' H' g => w v dd N' H' (e.rnf g)
  | .bad, _, w => w
  | .any n q, _, w => ⟨w.1, fun i hi => WSb.exf e (w.2 i hi)⟩
theorem WS.exf {α : Type} {o : Ou α} {k : α → Fl} (e : EnvS K B H N ρ σ O) (w : WS K E B N H (o.fl k) nx rt) : Wn K E (Nf N O) H o (fun a N' H' => Ev (Nf N O) H N' H' ∧ WS K E B (N.to N') H' (k a) nx rt) := WSb.exf e w
theorem WS.nb (w : WS K E B N H f nx rt) : f ≠ .bad := fun e => by
  subst e
  exact w
theorem WS.ng {p : Prop} (w : WS K E B N H .bad nx rt) : p := absurd rfl (WS.nb w)
/-- now at the next statement -/
theorem WS.nxt {ρ' : Es} (w : WS K E B N H (.nx ρ') nx rt) {N' : Rg} {H' : Hp} {O' : Nat → Option Addr} {σ' : St} (k : Kg N H N' H') (z : N'.b = N.b) (e : EnvS K B H' N' ρ' σ' O') : nx σ' H' := w N' H' O' σ' k z e
theorem WS.ret {d : Da} (w : WS K E B N H (.rt d) nx rt) {v : V} {N' : Rg} {H' : Hp} (r : Rn B N' H') (z : N'.b = N.b) (h : DV K H' N' v d) : rt v H' := w v N' H' r z h
end
section
variable {K : PySem.W.Frag} {E : XK} {t u : TS} {g k : Es → Fl} {te ta : TE} {ge : En' → Ou Da} {tt : TT} {gt : En' → Ou Bool}
def gNx : Es → Fl := .nx
theorem ds_nil : DS K E tNext gNx := fun B H N ρ σ O D e w => WS.nxt w .refl rfl e
def gSeq (g k : Es → Fl) : Es → Fl := fun ρ => (g ρ).seq k
theorem WSb.seq {B : Bs} {N : Rg} {H : Hp} {nx : St → Hp → Prop} {rt : VK} {k : Es → Fl} {nx' : St → Hp → Prop} : ∀ {f : Fl} {b : Nat}, WSb K E B N H b (f.seq k) nx rt →
    (∀ ρ' N' H' O' σ', Kg N H N' H' → EnvS K B H' N' ρ' σ' O' → WS K E B N' H' (k ρ') nx rt → nx' σ' H') → WSb K E B N H b f nx' rt
  | .nx ρ', b, w, q => fun N' H' O' σ' kg z e => q ρ' N' H' O' σ' kg e (by
    show WSb K E B N' H' N'.b (k ρ') nx rt
    rw [z]
    exact WSb.kg (f := k ρ') w kg)
  | .rt d, _, w, _ => w
  | .er c d, _, w, _ => w
  | .bad, _, w, _ => w
  | .any n p, _, w, q => ⟨w.1, fun i hi => WSb.seq (w.2 i hi) q⟩
theorem ds_seq (h1 : DS K E t g) (h2 : DS K E u k) : DS K E (tSeq t u) (gSeq g k) := by
  intro B H N ρ σ O D e w
  exact h1 B H N ρ σ O _ e (WSb.seq w fun ρ' N' H' O' σ' _ e' w' => h2 B H' N' ρ' σ' O' D e' w')
def gIfS (c : En' → Ou Bool) (g k : Es → Fl) : Es → Fl := fun ρ => (c (fus ρ)).fl fun b => if b = true then g ρ else k ρ
theorem ds_if (hc : DT K E tt gt) (h1 : DS K E t g) (h2 : DS K E u k) : DS K E (tIfS tt t u) (gIfS gt g k) := by
  intro B H N ρ σ O D e w
  refine hc _ (fus ρ) σ H _ e.fu ((WS.exf e w).mono fun b N1 H1 _ w1 => ?_)
  obtain ⟨g1, w1⟩ := w1
  cases b with
  | true => exact h1 B H1 _ ρ σ O D (e.g (e.evf g1)) w1
  | false => exact h2 B H1 _ ρ σ O D (e.g (e.evf g1)) w1
def gRet (ge : En' → Ou Da) : Es → Fl := fun ρ => (ge (fus ρ)).fl .rt
theorem ds_ret (he : DE K E te ge) : DS K E (tRet te) (gRet ge) := by
  intro B H N ρ σ O D e w
  refine he _ (fus ρ) σ H _ e.fu ((WS.exf e w).mono fun d N1 H1 g0 w1 v hv => ?_)
  exact WS.ret w1.2 (e.rnf w1.1) rfl hv
def gRetN : Es → Fl := fun _ => .rt .non
theorem ds_retN : DS K E tRetN gRetN := fun B H N ρ σ O D e w => WS.ret w e.rn0 rfl .non
def gDrop (ge : En' → Ou Da) : Es → Fl := fun ρ => (ge (fus ρ)).fl fun _ => .nx ρ
theorem ds_drop (he : DE K E te ge) : DS K E (tDrop te) (gDrop ge) := by
  intro B H N ρ σ O D e w
  refine he _ (fus ρ) σ H _ e.fu ((WS.exf e w).mono fun d N1 H1 g0 w1 v hv => ?_)
  exact WS.nxt w1.2 .refl rfl (e.g (e.evf w1.1))
/-! ### stores to names -/
def clrO (O : Nat → Option Addr) (i : Nat) : Nat → Option Addr := fun j => if j = i then none else O j
def setO (O : Nat → Option Addr) (i : Nat) (a : Addr) : Nat → Option Addr := fun j => if j = i then some a else O j
theorem clrO_some {O : Nat → Option Addr} {i j : Nat} {a : Addr} (h : clrO O i j = some a) : j ≠ i ∧ O j = some a := by
  unfold clrO at h
  by_cases e : j = i
  · rw [if_pos e] at h
    cases h
  · rw [if_neg e] at h
    exact ⟨e, h⟩
theorem get_set {α : Type} {l : List α} {i j : Nat} {x y : α} (h : (l.set i x)[j]? = some y) : (j = i ∧ i < l.length ∧ y = x) ∨ (j ≠ i ∧ l[j]? = some y) := by
  by_cases e : i = j
  · subst e
    by_cases hl : i < l.length
    · rw [List.getElem?_set_self hl] at h
      exact .inl ⟨rfl, hl, (Option.some.inj h).symm⟩
    · rw [List.getElem?_eq_none (by rw [List.length_set]; omega)] at h
      cases h
  · rw [List.getElem?_set_ne e] at h
    exact .inr ⟨fun z => e z.symm, h⟩
section
variable {B : Bs} {N N' N1 : Rg} {H H' H1 : Hp} {ρ : Es} {σ : St} {O : Nat → Option Addr}
theorem EnvS.set (e : EnvS K B H N ρ σ O) {v : V} {d : Da} (hv : DV K H N v d) (i : Nat) : EnvS K B H N (ρ.set i (.sh d)) (σ.set i (some v)) (clrO O i) := by
  refine ⟨e.al, by rw [List.length_set, List.length_set, e.len], fun j d' q => ?_, fun j ds q => ?_, fun c ks vs q => ?_, fun j a h => e.out j a (clrO_some h).2, e.outx, fun j a h => e.new j a (clrO_some h).2, fun j k a h1 h2 => e.inj j k a (clrO_some h1).2 (clrO_some h2).2,
    fun j a h => e.oal j a (clrO_some h).2, e.xal, e.n0, e.w, e.keep, e.g0, e.gw, fun j a h => e.outg j a (clrO_some h).2, e.outxg, e.tb⟩
  · rcases get_set q with ⟨rfl, hl, hd⟩ | ⟨ne, q⟩
    · cases hd
      exact ⟨v, by rw [List.getElem?_set_self (by rw [← e.len]; exact hl)], hv⟩
    · rw [List.getElem?_set_ne (Ne.symm ne)]
      exact e.sh j d' q
  · rcases get_set q with ⟨rfl, hl, hd⟩ | ⟨ne, q⟩
    · cases hd
    · rw [List.getElem?_set_ne (Ne.symm ne)]
      obtain ⟨a, xs, h1, h2⟩ := e.ow j ds q
      exact ⟨a, xs, by unfold clrO; rw [if_neg ne]; exact h1, h2⟩
  · rcases get_set q with ⟨rfl, hl, hd⟩ | ⟨ne, q⟩
    · cases hd
    · rw [List.getElem?_set_ne (Ne.symm ne)]
      exact e.sf c ks vs q
def setSs : Es → List Nat → List Da → Es
  | ρ, i :: is, d :: ds => setSs (ρ.set i (.sh d)) is ds
  | ρ, _, _ => ρ
theorem EnvS.sets : ∀ {is : List Nat} {ρ : Es} {σ : St} {O : Nat → Option Addr} {vs : List V} {ds : List Da}, EnvS K B H N ρ σ O → DA K H N vs ds → ∃ O', EnvS K B H N (setSs ρ is ds) (setVs σ is vs) O'
  | [], _, _, O, _, _, h, _ => ⟨O, h⟩
  | i :: is, ρ, σ, O, vs, [], h, q => by
    rw [q.inv0]
    exact ⟨O, h⟩
  | i :: is, ρ, σ, O, vs, d :: ds, h, q => by
    obtain ⟨v, us, rfl, h1, h2⟩ := q.inv
    exact EnvS.sets (is := is) (h.set h1 i) h2
end
def gSet (i : Nat) (ge : En' → Ou Da) : Es → Fl := fun ρ => (ge (shs ρ)).fl fun d => .nx (ρ.set i (.sh d))
theorem ds_set {i : Nat} (he : DE K E te ge) : DS K E (tAsg te (gName i)) (gSet i ge) := by
  intro B H N ρ σ O D e w
  refine he N (shs ρ) σ H _ e.r ((WS.ex e w).mono fun d N1 H1 g1 w1 v hv => ?_)
  exact WS.nxt w1 .refl rfl ((e.g g1).set hv i)
/-- a plain value, where the slots' own lists may be read -/
def plain : Da → Bool
  | .non => true | .bl _ => true | .int _ => true | .str _ => true
  | _ => false
theorem plain_any {H H' : Hp} {N N' : Rg} {v : V} {d : Da} (h : plain d = true) (q : DV K H N v d) : DV K H' N' v d := by
  cases q with
  | non => exact .non
  | bl b => exact .bl b
  | int i => exact .int i
  | str x => exact .str x
  | _ => cases h
def gSetP (i : Nat) (ge : En' → Ou Da) : Es → Fl := fun ρ => (ge (fus ρ)).fl fun d => if plain d = true then .nx (ρ.set i (.sh d)) else .bad
theorem ds_setP {i : Nat} (he : DE K E te ge) : DS K E (tAsg te (gName i)) (gSetP i ge) := by
  intro B H N ρ σ O D e w
  refine he _ (fus ρ) σ H _ e.fu ((WS.exf e w).mono fun d N1 H1 _ w1 v hv => ?_)
  obtain ⟨g1, w1⟩ := w1
  split at w1
  · rename_i hp
    exact WS.nxt w1 .refl rfl ((e.g (e.evf g1)).set (plain_any hp hv) i)
  · exact WS.ng w1
/-- several names -/
def gAsg (is : List Nat) (m : Da → Option (List Da)) (ge : En' → Ou Da) : Es → Fl := fun ρ => (ge (shs ρ)).fl fun d => match m d with
  | some ds => .nx (setSs ρ is ds)
  | none => .bad
theorem ds_asg {gg : TG} {is : List Nat} {m : Da → Option (List Da)} (he : DE K E te ge) (hg : DGt K gg is m) : DS K E (tAsg te gg) (gAsg is m ge) := by
  intro B H N ρ σ O D e w
  refine he N (shs ρ) σ H _ e.r ((WS.ex e w).mono fun d N1 H1 g1 w1 v hv => ?_)
  split at w1
  · rename_i ds em
    refine hg.run N1 H1 v d ds σ _ hv em fun vs hvs => ?_
    obtain ⟨O', e'⟩ := (e.g g1).sets (is := is) hvs
    exact WS.nxt w1 .refl rfl e'
  · exact WS.ng w1
/-- a, b = x, y -/
def gPar (i j : Nat) (gs : En' → Ou (List Da)) : Es → Fl := fun ρ => (gs (shs ρ)).fl fun ds => match ds with
  | [d, e] => .nx ((ρ.set i (.sh d)).set j (.sh e))
  | _ => .bad
theorem ds_par {i j : Nat} {ts : TA} {gs : En' → Ou (List Da)} (he : DAr K E ts gs) : DS K E (tPar i j ts) (gPar i j gs) := by
  intro B H N ρ σ O D e w
  refine he N (shs ρ) σ H _ e.r ((WS.ex e w).mono fun ds N1 H1 g1 w1 vs hv => ?_)
  split at w1
  · obtain ⟨v, u, rfl, h1, h2⟩ := hv.two
    exact ⟨v, u, rfl, WS.nxt w1 .refl rfl (((e.g g1).set h1 i).set h2 j)⟩
  · exact WS.ng w1
/-! ### lists that are a slot's own -/
/-- an expression that makes a new list -/
def DF (K : PySem.W.Frag) (E : XK) (t : TE) (g : En' → Ou (List Da)) : Prop := ∀ (N : Rg) (ρ : En') (σ : St) (H : Hp) (Q : VK), EnvR K H N ρ σ →
  Wn K E N H (g ρ) (fun ds N' H' => ∀ p xs, ¬ N' p → ¬ N'.g p → H p = none → H' p = some (.lst xs) → DA K H' N' xs ds → Q (.ref p) H') → t σ H Q
def mkF (xs : List Da) : Ou (List Da) := if fit xs = true then .ok xs else .bad
def nLst (gs : En' → Ou (List Da)) : En' → Ou (List Da) := fun ρ => (gs ρ).bind mkF
theorem Wn.mkF {N : Rg} {H : Hp} {xs : List Da} {Q : List Da → (Rg) → Hp → Prop} (w : Wn K E N H (mkF xs) Q) : xs.length ≤ sizeLine ∧ ∀ N' H', Grow N H N' H' → Q xs N' H' := by
  unfold Dc.mkF at w
  split at w
  · rename_i h
    exact ⟨fit_line h, fun N' H' g => w.now g⟩
  · exact absurd rfl w.nb
theorem Al.gone {N : Rg} {H : Hp} (al : Al N H) {p : Addr} (h : H p = none) : ¬ N.g p := fun q => let ⟨_, e, _⟩ := al.g p q; by rw [h] at e; cases e
theorem df_lst {ts : TA} {gs : En' → Ou (List Da)} (hr : DAr K E ts gs) : DF K E (tLst ts) (nLst gs) := by
  intro N ρ σ H Q en w
  refine hr N ρ σ H _ en (w.bind.mono fun ds N1 H1 g1 w1 vs hv => ?_)
  obtain ⟨hl, q⟩ := Wn.mkF w1
  refine ⟨by rw [hv.1]; exact hl, fun p np => q _ _ (.apart g1.al np _) p vs (fun h => g1.al.n p h np) (g1.al.gone np) (g1.free np) upd_same (hv.g (Grow.apart g1.al np _).toEv)⟩
def nList (ge : En' → Ou Da) : En' → Ou (List Da) := fun ρ => (ge ρ).bind fun d => Ou.of (seqOf d)
theorem df_list (he : DE K E te ge) : DF K E (tCB (rListOf K) (tCons te tNil)) (nList ge) := by
  intro N ρ σ H Q en w
  refine he N ρ σ H _ en (w.bind.mono fun d N1 H1 g1 w1 v hv => ?_)
  obtain ⟨ds, e, q⟩ := w1.of
  obtain ⟨a, xs, rfl, h1, h2⟩ := seq_inv hv e
  exact ⟨a, xs, rfl, h1, fun p np => q _ _ (.apart g1.al np _) p xs (fun h => g1.al.n p h np) (g1.al.gone np) (g1.free np) upd_same (h2.g (Grow.apart g1.al np _).toEv)⟩
def gOwn (i : Nat) (g : En' → Ou (List Da)) : Es → Fl := fun ρ => (g (shs ρ)).fl fun ds => .nx (ρ.set i (.own ds))
theorem ds_own {i : Nat} {gf : En' → Ou (List Da)} (he : DF K E te gf) : DS K E (tAsg te (gName i)) (gOwn i gf) := by
  intro B H N ρ σ O D e w
  refine he N (shs ρ) σ H _ e.r ((WS.ex e w).mono fun ds N1 H1 g1 w1 p xs np npg hp hp1 hx => ?_)
  refine WS.nxt w1 (O' := setO O i p) .refl rfl ?_
  have e1 := e.g g1
  have hO : ∀ {j : Nat} {a : Addr}, setO O i p j = some a → (j = i ∧ a = p) ∨ (j ≠ i ∧ O j = some a) := fun {j a} h => by
    unfold setO at h
    by_cases q : j = i
    · rw [if_pos q] at h
      exact .inl ⟨q, (Option.some.inj h).symm⟩
    · rw [if_neg q] at h
      exact .inr ⟨q, h⟩
  have pO : ∀ {j : Nat}, O j ≠ some p := fun {j} h => e.oal j p h hp
  refine ⟨e1.al, by rw [List.length_set, List.length_set, e1.len], fun j d' q => ?_, fun j ds q => ?_, fun c ks vs q => ?_, fun j a h => ?_, e1.outx, fun j a h => ?_, fun j k a h1 h2 => ?_, fun j a h => ?_, e1.xal, e1.n0, e1.w, e1.keep, e1.g0, e1.gw, fun j a h => ?_, e1.outxg, e1.tb⟩
  · rcases get_set q with ⟨rfl, hl, hd⟩ | ⟨ne, q⟩
    · cases hd
    · rw [List.getElem?_set_ne (Ne.symm ne)]
      exact e1.sh j d' q
  · rcases get_set q with ⟨rfl, hl, hd⟩ | ⟨ne, q⟩
    · cases hd
      exact ⟨p, xs, by unfold setO; rw [if_pos rfl], by rw [List.getElem?_set_self (by rw [← e1.len]; exact hl)], hp1, hx⟩
    · rw [List.getElem?_set_ne (Ne.symm ne)]
      obtain ⟨a, xs, h1, h2⟩ := e1.ow j ds q
      exact ⟨a, xs, by unfold setO; rw [if_neg ne]; exact h1, h2⟩
  · rcases get_set q with ⟨rfl, hl, hd⟩ | ⟨ne, q⟩
    · cases hd
    · rw [List.getElem?_set_ne (Ne.symm ne)]
      exact e1.sf c ks vs q
  · rcases hO h with ⟨rfl, rfl⟩ | ⟨_, h⟩
    · exact np
    · exact e1.out j a h
  · rcases hO h with ⟨rfl, rfl⟩ | ⟨_, h⟩
    · exact e.h0 hp
    · exact e1.new j a h
  · rcases hO h1 with ⟨z1, z2⟩ | ⟨_, h1'⟩
    · rcases hO h2 with ⟨z3, _⟩ | ⟨_, h2'⟩
      · rw [z1, z3]
      · rw [z2] at h2'
        exact absurd h2' pO
    · rcases hO h2 with ⟨_, z4⟩ | ⟨_, h2'⟩
      · rw [z4] at h1'
        exact absurd h1' pO
      · exact e1.inj j k a h1' h2'
  · rcases hO h with ⟨rfl, rfl⟩ | ⟨_, h⟩
    · rw [hp1]
      simp
    · exact e1.oal j a h
  · rcases hO h with ⟨rfl, rfl⟩ | ⟨_, h⟩
    · exact npg
    · exact e1.outg j a h
/-- the slot's list is given free: it may be known elsewhere from here on -/
def gRel (i : Nat) (g : Es → Fl) : Es → Fl := fun ρ => match ρ[i]? with
  | some (.own ds) => g (ρ.set i (.sh (.lst ds)))
  | _ => g ρ
theorem ds_rel {i : Nat} (h : DS K E t g) : DS K E t (gRel i g) := by
  intro B H N ρ σ O D e w
  unfold gRel at w
  split at w
  · rename_i ds q
    obtain ⟨a, xs, h1, h2, h3, h4⟩ := e.ow i ds q
    have hl : i < ρ.length := (List.getElem?_eq_some_iff.mp q).1
    have up : ∀ b, N b → (N.add a) b := fun b h => .inl h
    refine h B H (N.add a) _ σ (clrO O i) D ?_ (WSb.kg w ⟨up, .refl, fun _ h => h⟩)
    refine ⟨⟨fun b h => ?_, e.al.g, fun b h n => n.elim (e.al.d b h) fun z => e.outg i a h1 (by rw [← z]; exact h)⟩, by rw [List.length_set, e.len], fun j d' q => ?_, fun j ds q => ?_, fun c ks vs q => ?_, fun j b h hn => ?_, fun b h hn => ?_, fun j a h => e.new j a (clrO_some h).2, fun j k a h1 h2 => e.inj j k a (clrO_some h1).2 (clrO_some h2).2,
      fun j a h => e.oal j a (clrO_some h).2, e.xal, fun b h => .inl (e.n0 b h), fun b h => ?_, e.keep, e.g0, e.gw, fun j b h => e.outg j b (clrO_some h).2, e.outxg, e.tb⟩
    · rcases h with h | rfl
      · exact e.al.n b h
      · exact e.oal i b h1
    · rcases get_set q with ⟨rfl, hl, hd⟩ | ⟨ne, q⟩
      · cases hd
        exact ⟨_, h2, .l ⟨.inr rfl, h3⟩ (h4.fr (N' := N.add a) (fun _ _ _ e => e) fun a h _ => .inl h)⟩
      · obtain ⟨v, k1, k2⟩ := e.sh j d' q
        exact ⟨v, k1, k2.fr (N' := N.add a) (fun _ _ _ e => e) fun a h _ => .inl h⟩
    · rcases get_set q with ⟨rfl, hl, hd⟩ | ⟨ne, q⟩
      · cases hd
      · obtain ⟨b, xs, k1, k2, k3, k4⟩ := e.ow j ds q
        exact ⟨b, xs, by unfold clrO; rw [if_neg ne]; exact k1, k2, k3, k4.fr (N' := N.add a) (fun _ _ _ e => e) fun a h _ => .inl h⟩
    · rcases get_set q with ⟨rfl, hl, hd⟩ | ⟨ne, q⟩
      · cases hd
      · obtain ⟨b, dx, fs, k1, k2, k3, k4, k5⟩ := e.sf c ks vs q
        exact ⟨b, dx, fs, k1, k2, k3, k4, k5.fr (N' := N.add a) (fun _ _ _ e => e) fun a h _ => .inl h⟩
    · obtain ⟨ne, h⟩ := clrO_some h
      rcases hn with hn | rfl
      · exact e.out j b h hn
      · exact ne (e.inj j i b h h1)
    · rcases hn with hn | rfl
      · exact e.outx b h hn
      · exact (e.xal b h).2 (e.new i b h1)
    · rcases h with h | rfl
      · exact e.w b h
      · exact .inr (e.new i b h1)
  · exact h B H N ρ σ O D e w
/-- x.append(e), x a slot's own list -/
def gApp (i : Nat) (ge : En' → Ou Da) : Es → Fl := fun ρ => match ρ[i]? with
  | some (.own ds) => (ge (shs ρ)).fl fun y => if Nat.ble ds.length 999999 = true then .nx (ρ.set i (.own (ds ++ [y]))) else .bad
  | _ => .bad
theorem ds_app {i : Nat} (he : DE K E te ge) : DS K E (tDrop (tBM K "list" rAppend (tVar i) (tCons te tNil))) (gApp i ge) := by
  intro B H N ρ σ O D e w
  unfold gApp at w
  split at w
  · rename_i ds q
    obtain ⟨a, xs, h1, h2, h3, h4⟩ := e.ow i ds q
    refine ⟨_, h2, .inl ⟨rfl, xs, .of h3⟩, ?_⟩
    refine he N (shs ρ) σ H _ e.r ((WS.ex e w).mono fun y N1 H1 g1 w1 v hv => ?_)
    have e1 := e.g g1
    obtain ⟨a', xs', h1', h2', h3', h4'⟩ := e1.ow i ds q
    rw [h1] at h1'
    cases h1'
    split at w1
    · rename_i hb
      refine ⟨a, xs', v, rfl, rfl, h3', ?_, ?_⟩
      · have := Nat.le_of_ble_eq_true hb
        rw [h4'.1, sizeLine_eq]
        omega
      · have hl : i < ρ.length := (List.getElem?_eq_some_iff.mp q).1
        have nN := e1.out i a h1
        have fr : ∀ b o, N1 b → H1 b = some o → upd H1 a (.lst (xs' ++ [v])) b = some o := fun b o n q => by rw [upd_ne (fun z => nN (by rw [← z]; exact n))]; exact q
        have al : ∀ b, H1 b ≠ none → upd H1 a (.lst (xs' ++ [v])) b ≠ none := fun b h => by
          by_cases z : b = a
          · rw [z, upd_same]; simp
          · rw [upd_ne z]; exact h
        refine WS.nxt w1 (N' := N1) (O' := O) ⟨fun _ h => h, fr, fun _ h => h⟩ rfl ?_
        refine ⟨⟨fun b h => al b (e1.al.n b h), fun b h => ?_, e1.al.d⟩, by rw [List.length_set, e1.len], fun j d' q => ?_, fun j ds' q' => ?_, fun c ks vs q => ?_, e1.out, e1.outx, e1.new, e1.inj, fun j b h => al b (e1.oal j b h), fun b h => ⟨al b (e1.xal b h).1, (e1.xal b h).2⟩, e1.n0, e1.w, fun b o k1 k2 k3 => ?_, e1.g0, e1.gw, e1.outg, e1.outxg, e1.tb⟩
        · rw [upd_ne (fun z => e1.outg i a h1 (by rw [← z]; exact h))]
          exact e1.al.g b h
        · rcases get_set q with ⟨rfl, hl, hd⟩ | ⟨ne, q⟩
          · cases hd
          · obtain ⟨u, k1, k2⟩ := e1.sh j d' q
            exact ⟨u, k1, k2.fr fr fun _ h _ => h⟩
        · rcases get_set q' with ⟨rfl, hl, hd⟩ | ⟨ne, q'⟩
          · cases hd
            exact ⟨a, _, h1, h2, upd_same, (h4'.append (.cons hv .nil)).fr fr fun _ h _ => h⟩
          · obtain ⟨b, ys, k1, k2, k3, k4⟩ := e1.ow j ds' q'
            exact ⟨b, ys, k1, k2, by rw [upd_ne (fun z => ne (e1.inj j i a (by rw [← z]; exact k1) h1))]; exact k3, k4.fr fr fun _ h _ => h⟩
        · rcases get_set q with ⟨rfl, hl, hd⟩ | ⟨ne, q⟩
          · cases hd
          · obtain ⟨b, dx, fs, k1, k2, k3, k4, k5⟩ := e1.sf c ks vs q
            exact ⟨b, dx, fs, k1, k2, by rw [upd_ne (fun z => (e1.xal b k1).2 (by rw [z]; exact e1.new i a h1))]; exact k3, k4, k5.fr fr fun _ h _ => h⟩
        · rw [upd_ne (fun z => by rw [z, e1.new i a h1] at k1; cases k1)]
          exact e1.keep b o k1 k2 k3
    · exact WS.ng w1
  · exact WS.ng w
/-! ### for -/
def forM (is : List Nat) (m : Da → Option (List Da)) (body : Es → Fl) : List Da → Es → Fl
  | [], ρ => .nx ρ
  | d :: r, ρ => match m d with
    | none => .bad
    | some ds => (body (setSs ρ is ds)).seq (forM is m body r)
theorem forM_cons {is : List Nat} {m : Da → Option (List Da)} {body : Es → Fl} {d : Da} {r : List Da} {ρ : Es} : forM is m body (d :: r) ρ = match m d with
    | none => .bad
    | some ds => (body (setSs ρ is ds)).seq (forM is m body r) := rfl
def gFor (gi : En' → Ou (List Da)) (is : List Nat) (m : Da → Option (List Da)) (body : Es → Fl) : Es → Fl := fun ρ => (gi (shs ρ)).fl fun xs => forM is m body xs ρ
theorem ds_for {wi : TI} {gi : En' → Ou (List Da)} {gg : TG} {is : List Nat} {m : Da → Option (List Da)} (hi : DI K E wi gi) (hg : DGt K gg is m) (hb : DS K E t g) : DS K E (tFor wi gg t) (gFor gi is m g) := by
  intro B H N ρ σ O D e w
  refine hi N (shs ρ) σ H _ e.r ((WS.ex e w).mono fun items N1 H1 g1 w1 J hJ => ?_)
  refine ⟨fun i k σ' H' => k = items.length - i ∧ i ≤ items.length ∧ ∃ ρ' N' O', Kg N1 H1 N' H' ∧ EnvS K B H' N' ρ' σ' O' ∧ WS K E B N' H' (forM is m g (items.drop i) ρ') D.nx D.rt, ⟨_, rfl, Nat.zero_le _, ρ, N1, O, .refl, e.g g1, w1⟩, ?_⟩
  rintro i k σ2 H2 ⟨rfl, hle, ρ2, N2, O2, kg, e2, w2⟩
  by_cases hlt : i < items.length
  · refine .inr ⟨hJ.go i H2 kg.z hlt, fun σ' H' => i + 1 ≤ items.length ∧ ∃ ρ' N' O', Kg N1 H1 N' H' ∧ EnvS K B H' N' ρ' σ' O' ∧ WS K E B N' H' (forM is m g (items.drop (i + 1)) ρ') D.nx D.rt, ?_, ?_⟩
    · rintro σ' H' ⟨h1, h2⟩
      exact ⟨items.length - (i + 1), by omega, rfl, h1, h2⟩
    · intro x H3 yx
      obtain ⟨N3, g3, hx⟩ := hJ.yld i N2 H2 x H3 items[i] kg.z kg.n kg.gg e2.al yx (by simp)
      rw [List.drop_eq_getElem_cons hlt, forM_cons] at w2
      split at w2
      · exact WS.ng w2
      · rename_i ds em
        refine hg.run N3 H3 x items[i] ds σ2 _ hx em fun vs hv => ?_
        obtain ⟨O3, e3⟩ := (e2.g g3.toEv).sets (is := is) hv
        have w3 : WS K E B N3 H3 ((g (setSs ρ2 is ds)).seq (forM is m g (items.drop (i + 1)))) D.nx D.rt := by
          show WSb K E B N3 H3 N3.b _ _ _
          rw [g3.bq]
          exact WSb.kg w2 (.of g3.toEv)
        exact hb B H3 N3 _ _ O3 _ e3 (WSb.seq w3 fun ρ4 N4 H4 O4 σ4 kg4 e4 w5 => ⟨by omega, ρ4, N4, O4, (kg.trans (.of g3.toEv)).trans kg4, e4, w5⟩)
  · have ei : i = items.length := by omega
    subst ei
    refine .inl ⟨hJ.stop _ H2 kg.z (Nat.le_refl _), ?_⟩
    rw [List.drop_length] at w2
    exact WS.nxt w2 (N' := N2) (O' := O2) .refl rfl e2
/-! ### raise C(e) -/
def tRz (K : PySem.W.Frag) (E : XK) (c : Str) (ts : TA) : TS := fun _ σ H => tMkX (He.ga K c) (efld c) ts σ H fun cls d H' => E cls d H'
def gRz (c : Str) (ge : En' → Ou Da) : Es → Fl := fun ρ => (ge (fus ρ)).fl fun d => .er c d
theorem ds_raise {c : Str} (he : DE K E te ge) : DS K E (tRz K E c (tCons te tNil)) (gRz c ge) := by
  intro B H N ρ σ O D e w
  refine he _ (fus ρ) σ H _ e.fu ((WS.exf e w).mono fun d N1 H1 g1 w1 v hv => ?_)
  refine ⟨v, rfl, fun dd nd => ?_⟩
  have ga := (Grow.new g1.al nd (.xd [(efld c, v)])).toEv
  exact w1.2 v dd (N1.add dd) _ (e.rnf (g1.trans ga)) rfl (.inr rfl) (hv.g ga) upd_same
end
/-! ### a def -/
/-- the slots at a call -/
def ini (n : Nat) (ds : List Da) : Es := ds.map .sh ++ List.replicate (n - ds.length) .no
theorem envS_start {K : PySem.W.Frag} {N : Rg} {H : Hp} {M : List Str} {vs : List V} {ds : List Da} (al : Al N H) (h : DA K H N vs ds) : EnvS K ⟨N, H, none⟩ H N (ini M.length ds) (start M vs) (fun _ => none) := by
  refine ⟨al, ?_, fun i d q => ?_, fun i d q => ?_, fun c ks us q => ?_, (fun _ _ q => nomatch q), (fun _ q => nomatch q), (fun _ _ q => nomatch q), (fun _ _ _ q => nomatch q), (fun _ _ q => nomatch q), (fun _ q => nomatch q), fun _ h => h, fun _ h => .inl h, fun _ _ h _ _ => h, fun _ h => h, fun _ h => .inl h, (fun _ _ q => nomatch q), (fun _ q => nomatch q), Nat.le_refl _⟩
  · unfold ini start
    simp only [List.length_append, List.length_map, List.length_replicate, h.1]
  · unfold ini at q
    unfold start
    by_cases hi : i < ds.length
    · rw [List.getElem?_append_left (by simpa using hi), List.getElem?_map, Option.map_eq_some_iff] at q
      obtain ⟨d', q1, q2⟩ := q
      cases q2
      have hv : vs[i]? = some (vs[i]'(by rw [h.1]; exact hi)) := by simp
      exact ⟨_, by rw [List.getElem?_append_left (by rw [List.length_map, h.1]; exact hi), List.getElem?_map, hv]; rfl, h.2 i _ d hv q1⟩
    · rw [List.getElem?_append_right (by simp; omega)] at q
      have := List.mem_of_getElem? q
      simp at this
  · unfold ini at q
    have := List.mem_of_getElem? q
    simp at this
  · unfold ini at q
    have := List.mem_of_getElem? q
    simp at this
def fin (f : Fl) : Ou Da := match f with
  | .nx _ => .ok .non
  | .rt d => .ok d
  | .er c d => .er c d
  | .bad => .bad
  | .any n k => .any n fun i => fin (k i)
/-- a def by its body -/
def mDef (n : Nat) (k : Nat) (g : Es → Fl) (ds : List Da) : Ou Da := if ds.length = k then fin (g (ini n ds)) else .bad
theorem spD_len {K : PySem.W.Frag} {n k : Nat} {g : Es → Fl} {vs : List V} {H : Hp} {Q : VK} {E : XK} (h : spD K (mDef n k g) vs H Q E) : vs.length = k := by
  obtain ⟨N, ds, al, hd, w⟩ := h
  unfold mDef at w
  split at w
  · rename_i hl
    rw [hd.1, hl]
  · exact w.ng
theorem WSb.fin {K : PySem.W.Frag} {E : XK} {N : Rg} {H : Hp} {Q : VK} : ∀ {f : Fl} {b : Nat}, WnB K E N H b (fin f) (fun d N' H' => ∀ v, DV K H' N' v d → Q v H') → WSb K E ⟨N, H, none⟩ N H b f (fun _ H' => Q .non H') Q
  | .nx ρ, b, w => fun N' H' O' σ' _ z e => w N' H' (e.rn0.ev rfl) z .non .non
  | .rt d, b, w => fun v N' H' r z h => w N' H' (r.ev rfl) z v h
  | .er c d, b, w => fun v dd N' H' r => w v dd N' H' (r.ev rfl)
  | .bad, b, w => w
  | .any n k, b, w => ⟨w.1, fun i hi => WSb.fin (w.2 i hi)⟩
theorem spD_run {K : PySem.W.Frag} {M : List Str} {k : Nat} {g : Es → Fl} {vs : List V} {H : Hp} {Q : VK} {E : XK} {t : TS} (ht : DS K E t g) (h : spD K (mDef M.length k g) vs H Q E) : t { nx := fun _ H' => Q .non H', rt := Q } (start M vs) H := by
  obtain ⟨N, ds, al, hd, w⟩ := h
  unfold mDef at w
  split at w
  · exact ht ⟨N, H, none⟩ H N _ _ _ { nx := fun _ H' => Q .non H', rt := Q } (envS_start al hd) (WSb.fin w)
  · exact w.ng
end L2.Dc
/-! instances made; methods -/
namespace L2.Dc
open PySem PySem.Spec PyProof.Rows L2.Fw
/-- the heap has grown but for x -/
structure GrowX (x : Addr) (N : Rg) (H : Hp) (N' : Rg) (H' : Hp) : Prop where
  s : ∀ a o, H a = some o → a ≠ x → ¬ N.g a → H' a = some o
  n : ∀ a, N a → N' a
  gg : ∀ a, N.g a → N'.g a
  w : ∀ a, N' a → N a ∨ H a = none
  gw : ∀ a, N'.g a → N.g a ∨ H a = none
  tb : N.b ≤ N'.b
  al : Al N' H'
  out : ¬ N' x
  outg : ¬ N'.g x
/-- what is wanted of an __init__ that makes fields -/
def WnX (K : PySem.W.Frag) (E : XK) (N : Rg) (H : Hp) (x : Addr) (c : Str) (b : Nat) (o : Ou (List Str × List Da)) (Q : VK) : Prop := match o with
  | .ok p => ∀ N' H' dx' fs, GrowX x N H N' H' → N'.b = b → H' x = some (.ins (He.ga K c) dx' fs) → fs.map (·.1) = p.1 → DA K H' N' (fs.map (·.2)) p.2 → Q .non H'
  | .er e d => ∀ v dd N' H', GrowX x N H N' H' → N'.b = b → N' dd → DV K H' N' v d → H' dd = some (.xd [(efld e, v)]) → E (.ref (He.ga K e)) (some dd) H'
  | .bad => False
  | .any n k => b < 10 ^ 10 ∧ ∀ i, i < n → WnX K E N H x c (b + 1) (k i) Q
/-- an __init__ that makes the fields m tells -/
def spI (K : PySem.W.Frag) (c : Str) (m : List Da → Ou (List Str × List Da)) : Sp := fun vs H Q E => ∃ N x dx us ds, vs = .ref x :: us ∧ Al N H ∧ ¬ N x ∧ ¬ N.g x ∧ H x = some (.ins (He.ga K c) dx []) ∧ DA K H N us ds ∧ WnX K E N H x c N.b (m ds) Q
def gMake (c : Str) (m : List Da → Ou (List Str × List Da)) (gs : En' → Ou (List Da)) : En' → Ou Da := fun ρ => (gs ρ).bind fun ds => (m ds).bind fun p => .ok (.ins c p.1 p.2)
section
variable {K : PySem.W.Frag} {E : XK} {ts : TA} {gs : En' → Ou (List Da)} {c : Str} {m : List Da → Ou (List Str × List Da)}
theorem WnX.of {E' : XK} {N : Rg} {H H2 : Hp} {x : Addr} {Q : VK} (al : Al N H) (nx : H x = none) (s1 : Same H H2) (hx : ∀ a, H a = none → a ≠ x → H2 a = none ∨ True) : ∀ {o : Ou (List Str × List Da)} {b : Nat}, WnB K E' N H b (o.bind fun p => .ok (.ins c p.1 p.2)) (fun d N' H' => ∀ v, DV K H' N' v d → Q v H') → WnX K E' N H2 x c b o (fun v H2 => v = .non ∧ Q (.ref x) H2)
  | .ok (ks, es), b, w => fun N' H' dx' fs g z hx hk hd => ⟨rfl, by
    have hal : Al (N'.add x) H' := ⟨fun a h => h.elim (g.al.n a) fun e => by rw [e, hx]; simp, g.al.g, fun a h1 h2 => h2.elim (g.al.d a h1) fun e => g.outg (by rw [← e]; exact h1)⟩
    refine w (N'.add x) H' ⟨fun a o e n => g.s a o (s1 _ _ e) (ne_of_none e nx) n, fun a h => .inl (g.n a h), g.gg, fun a h => ?_, fun a h => (g.gw a h).imp id fun z => s1.free z, g.tb, hal⟩ z _ ?_
    · rcases h with h | rfl
      · exact (g.w a h).imp id fun z => s1.free z
      · exact .inr nx
    · refine .ins (.inr rfl) hx hk (by simpa using hd.1) fun i p d e1 e2 => ?_
      exact (hd.2 i p.2 d (by rw [List.getElem?_map, e1]; rfl) e2).fr (N' := N'.add x) (fun _ _ _ e => e) fun a h _ => .inl h⟩
  | .er e d, b, w => fun v dd N' H' g z nd hv hdd => w v dd N' H' ⟨fun a o e n => g.s a o (s1 _ _ e) (ne_of_none e nx) n, g.n, g.gg, fun a h => (g.w a h).imp id fun z => s1.free z, fun a h => (g.gw a h).imp id fun z => s1.free z, g.tb, g.al⟩ z nd hv hdd
  | .bad, _, w => w
  | .any n k, _, w => ⟨w.1, fun i hi => WnX.of al nx s1 hx (w.2 i hi)⟩
theorem make_core {N1 : Rg} {H1 : Hp} {vs : List V} {ds : List Da} {Q : VK} {E' : XK} (al : Al N1 H1) (hv : DA K H1 N1 vs ds) (w : Wn K E' N1 H1 ((m ds).bind fun p => .ok (.ins c p.1 p.2)) (fun d N' H' => ∀ v, DV K H' N' v d → Q v H')) :
    ∀ x dx, H1 x = none → H1 dx = none → dx ≠ x → spI K c m (.ref x :: (vs ++ [])) (upd (upd H1 dx (.own x)) x (.ins (He.ga K c) dx [])) (fun v H2 => v = .non ∧ Q (.ref x) H2) E' := by
  intro x dx nx ndx ne
  have s1 : Same H1 (upd (upd H1 dx (.own x)) x (.ins (He.ga K c) dx [])) := same_own (same_new (Same.refl _) ndx) nx
  exact ⟨N1, x, dx, vs, ds, by rw [List.append_nil], al.same s1, fun h => al.n x h nx, al.gone nx, upd_same, hv.same s1 fun _ h => h, WnX.of al nx s1 (fun _ _ _ => .inr trivial) w⟩
theorem de_make (hr : DAr K E ts gs) : DE K E (tMake (He.ga K c) (spI K c m) [] E ts) (gMake c m gs) := by
  intro N ρ σ H Q en w
  refine hr N ρ σ H _ en (w.bind.mono fun ds N1 H1 g1 w1 vs hv => ?_)
  exact make_core g1.al hv w1
def gMakeZ (c : Str) (m : List Da → Ou (List Str × List Da)) (gs : En' → Ou (List Da)) : En' → Ou Da := fun ρ => (gs ρ).bind fun ds => (noEr (m ds)).bind fun p => .ok (.ins c p.1 p.2)
theorem noErB {α β : Type} {E' : XK} {N : Rg} {H : Hp} {f : α → Ou β} {Q : β → Rg → Hp → Prop} (hf : ∀ a, noEr (f a) = f a) {o : Ou α} (w : Wn K E N H ((noEr o).bind f) Q) : Wn K E' N H (o.bind f) Q := by
  refine Wn.noEr (E := E) ?_
  rw [noEr_bind, funext hf]
  exact w
theorem de_makeZ (hr : DAr K E ts gs) : DE K E (tMake (He.ga K c) (spI K c m) [] E0 ts) (gMakeZ c m gs) := by
  intro N ρ σ H Q en w
  refine hr N ρ σ H _ en (w.bind.mono fun ds N1 H1 g1 w1 vs hv => ?_)
  exact make_core (E' := E0) g1.al hv (noErB (fun _ => rfl) w1)
/-- self.f = e in an __init__ -/
def gFldS (c f : Str) (ge : En' → Ou Da) : Es → Fl := fun ρ => match (ρ[0]? : Option Sl) with
  | some (Sl.slf c' ks vs) => if c' = c ∧ f ∉ ks ∧ ks.length < 900 then (ge (shs ρ)).fl fun d => .nx (ρ.set 0 (.slf c (ks ++ [f]) (vs ++ [d]))) else .bad
  | _ => .bad
theorem putF_new {f : Str} {v : V} : ∀ {fs : List (Str × V)}, f ∉ fs.map (·.1) → putF f v fs = fs ++ [(f, v)]
  | [], _ => rfl
  | (g, x) :: r, h => by
    have h1 : g ≠ f := fun e => h (by rw [← e]; exact List.mem_cons_self)
    have h2 : f ∉ r.map (·.1) := fun e => h (List.mem_cons_of_mem _ e)
    show (if g = f then (g, v) :: r else (g, x) :: putF f v r) = _
    rw [if_neg h1, putF_new h2]
    rfl
theorem ds_fldS {f : Str} {te : TE} {ge : En' → Ou Da} (hc : Cls K (He.ga K c)) (hn : NoAttr K (He.ga K c) f) (he : DE K E te ge) : DS K E (sFld K (tVar 0) te f) (gFldS c f ge) := by
  intro B H N ρ σ O D e w
  unfold gFldS at w
  split at w
  · rename_i c' ks vs q
    split at w
    · rename_i hcond
      obtain ⟨rfl, hf, hl⟩ := hcond
      refine he N (shs ρ) σ H _ e.r ((WS.ex e w).mono fun d N1 H1 g1 w1 v hv => ?_)
      have e1 := e.g g1
      obtain ⟨a, dx, fs, h1, h2, h3, h4, h5⟩ := e1.sf c' ks vs q
      refine ⟨_, h2, a, _, dx, fs, rfl, h3, hc, hn, ?_, ?_⟩
      · have : fs.length = ks.length := by rw [← h4, List.length_map]
        omega
      · rw [putF_new (by rw [h4]; exact hf)]
        have nN := e1.outx a h1
        have fr : ∀ b o, N1 b → H1 b = some o → upd H1 a (.ins (He.ga K c') dx (fs ++ [(f, v)])) b = some o := fun b o n q => by rw [upd_ne (fun z => nN (by rw [← z]; exact n))]; exact q
        have al : ∀ b, H1 b ≠ none → upd H1 a (.ins (He.ga K c') dx (fs ++ [(f, v)])) b ≠ none := fun b h => by
          by_cases z : b = a
          · rw [z, upd_same]; simp
          · rw [upd_ne z]; exact h
        have hlen : 0 < ρ.length := (List.getElem?_eq_some_iff.mp q).1
        refine WS.nxt w1 (N' := N1) (O' := O) ⟨fun _ h => h, fr, fun _ h => h⟩ rfl ?_
        refine ⟨⟨fun b h => al b (e1.al.n b h), fun b h => ?_, e1.al.d⟩, by rw [List.length_set, e1.len], fun j d' q => ?_, fun j ds' q' => ?_, fun c2 ks2 vs2 q2 => ?_, e1.out, e1.outx, e1.new, e1.inj, fun j b h => al b (e1.oal j b h), fun b h => ⟨al b (e1.xal b h).1, (e1.xal b h).2⟩, e1.n0, e1.w, fun b o k1 k2 k3 => ?_, e1.g0, e1.gw, e1.outg, e1.outxg, e1.tb⟩
        · rw [upd_ne (fun z => e1.outxg a h1 (by rw [← z]; exact h))]
          exact e1.al.g b h
        · rcases get_set q with ⟨rfl, hl, hd⟩ | ⟨ne, q⟩
          · cases hd
          · obtain ⟨u, k1, k2⟩ := e1.sh j d' q
            exact ⟨u, k1, k2.fr fr fun _ h _ => h⟩
        · rcases get_set q' with ⟨rfl, hl, hd⟩ | ⟨ne, q'⟩
          · cases hd
          · obtain ⟨b, ys, k1, k2, k3, k4⟩ := e1.ow j ds' q'
            exact ⟨b, ys, k1, k2, by rw [upd_ne (fun z => (e1.xal a h1).2 (by rw [← z]; exact e1.new j b k1))]; exact k3, k4.fr fr fun _ h _ => h⟩
        · rcases get_set q2 with ⟨_, hl, hd⟩ | ⟨ne, q2⟩
          · cases hd
            exact ⟨a, dx, _, h1, h2, upd_same, by rw [List.map_append, h4]; rfl, by rw [List.map_append]; exact (h5.append (.cons hv .nil)).fr fr fun _ h _ => h⟩
          · exact absurd rfl ne
        · by_cases z : b = a
          · rw [z] at k2
            exact absurd h1 k2
          · rw [upd_ne z]
            exact e1.keep b o k1 k2 k3
    · exact WS.ng w
  · exact WS.ng w
/-- the slots at an __init__'s call -/
def ini1 (n : Nat) (c : Str) (ds : List Da) : Es := .slf c [] [] :: (ds.map .sh ++ List.replicate (n - 1 - ds.length) .no)
def finI (c : Str) (f : Fl) : Ou (List Str × List Da) := match f with
  | .nx ρ => match ρ with
    | .slf c' ks vs :: _ => if c' = c then .ok (ks, vs) else .bad
    | _ => .bad
  | .er c d => .er c d
  | .rt _ => .bad
  | .bad => .bad
  | .any n k => .any n fun i => finI c (k i)
def mIni (n k : Nat) (c : Str) (g : Es → Fl) (ds : List Da) : Ou (List Str × List Da) := if ds.length + 1 = k then finI c (g (ini1 n c ds)) else .bad
theorem spI_len {n k : Nat} {g : Es → Fl} {vs : List V} {H : Hp} {Q : VK} (h : spI K c (mIni n k c g) vs H Q E) : vs.length = k := by
  obtain ⟨N, x, dx, us, ds, rfl, _, _, _, _, hd, w⟩ := h
  by_cases hl : ds.length + 1 = k
  · rw [List.length_cons, hd.1, hl]
  · unfold mIni at w
    rw [if_neg hl] at w
    exact w.elim
theorem envS_start1 {N : Rg} {H : Hp} {M : List Str} {us : List V} {ds : List Da} {x dx : Addr} (al : Al N H) (nx : ¬ N x) (nxg : ¬ N.g x) (hx : H x = some (.ins (He.ga K c) dx [])) (h : DA K H N us ds) (hM : 1 ≤ M.length) : EnvS K ⟨N, H, some x⟩ H N (ini1 M.length c ds) (start M (.ref x :: us)) (fun _ => none) := by
  have e0 := envS_start (K := K) (M := M.tail) al h
  have es : start M (.ref x :: us) = some (.ref x) :: start M.tail us := by
    unfold start
    rw [List.length_tail, List.length_cons, List.map_cons, List.cons_append, show M.length - 1 - us.length = M.length - (us.length + 1) from by omega]
  have ei : ini1 M.length c ds = .slf c [] [] :: ini M.tail.length ds := by
    unfold ini1 ini
    rw [List.length_tail]
  rw [es, ei]
  refine ⟨al, by rw [List.length_cons, List.length_cons, e0.len], fun i d q => ?_, fun i d q => ?_, fun c' ks vs q => ?_, (fun _ _ q => nomatch q), fun a q => by cases q; exact nx, (fun _ _ q => nomatch q), (fun _ _ _ q => nomatch q), (fun _ _ q => nomatch q), fun a q => by cases q; exact ⟨by rw [hx]; simp, by show H x ≠ none; rw [hx]; simp⟩, fun _ h => h, fun _ h => .inl h, fun _ _ h _ _ => h, fun _ h => h, fun _ h => .inl h, (fun _ _ q => nomatch q), fun a q => by cases q; exact nxg, Nat.le_refl _⟩
  · cases i with
    | zero => cases q
    | succ i => exact e0.sh i d q
  · cases i with
    | zero => cases q
    | succ i => exact e0.ow i d q
  · cases q
    exact ⟨x, dx, [], rfl, rfl, hx, rfl, .nil⟩
theorem Rn.gx {N : Rg} {H : Hp} {x : Addr} {N' : Rg} {H' : Hp} (r : Rn ⟨N, H, some x⟩ N' H') : GrowX x N H N' H' := ⟨fun a o h1 h2 n => r.keep a o h1 (fun z => h2 (Option.some.inj z).symm) n, r.n0, r.g0, r.w, r.gw, r.tb, r.al, r.outx x rfl, r.outxg x rfl⟩
theorem WSb.finI {N : Rg} {H : Hp} {Q rt : VK} {x : Addr} : ∀ {f : Fl} {b : Nat}, WnX K E N H x c b (finI c f) Q → WSb K E ⟨N, H, some x⟩ N H b f (fun _ H' => Q .non H') rt
  | .nx ρ, b, w => fun N' H' O' σ' _ z e' => by
    cases ρ with
    | nil => exact w.elim
    | cons s0 r0 =>
      cases s0 with
      | slf c2 ks vs =>
        by_cases hcc : c2 = c
        · subst hcc
          have ef : Dc.finI c2 (.nx (.slf c2 ks vs :: r0)) = .ok (ks, vs) := if_pos rfl
          rw [ef] at w
          obtain ⟨a, dx', fs, h1, h2, h3, h4, h5⟩ := e'.sf c2 ks vs rfl
          cases h1
          exact w N' H' dx' fs e'.rn0.gx z h3 h4 h5
        · have ef : Dc.finI c (.nx (.slf c2 ks vs :: r0)) = .bad := if_neg hcc
          rw [ef] at w
          exact w.elim
      | _ => exact w.elim
  | .rt d, b, w => w.elim
  | .er c d, b, w => fun v dd N' H' r => w v dd N' H' r.gx
  | .bad, b, w => w
  | .any n k, b, w => ⟨w.1, fun i hi => WSb.finI (w.2 i hi)⟩
theorem spI_run {M : List Str} {k : Nat} {g : Es → Fl} {vs : List V} {H : Hp} {Q : VK} {t : TS} (hM : 1 ≤ M.length) (ht : DS K E t g) (h : spI K c (mIni M.length k c g) vs H Q E) : t { nx := fun _ H' => Q .non H', rt := Q } (start M vs) H := by
  obtain ⟨N, x, dx, us, ds, rfl, al, nx, nxg, hx, hd, w⟩ := h
  by_cases hl : ds.length + 1 = k
  · have e : mIni M.length k c g ds = finI c (g (ini1 M.length c ds)) := if_pos hl
    rw [e] at w
    exact ht ⟨N, H, some x⟩ H N _ _ _ { nx := fun _ H' => Q .non H', rt := Q } (envS_start1 (M := M) al nx nxg hx hd hM) (WSb.finI w)
  · unfold mIni at w
    rw [if_neg hl] at w
    exact w.elim
end
end L2.Dc
/-! operators by the data's kinds; methods; what a text's classes and constants must say -/
namespace L2.Dc
open PySem PySem.Spec PyProof.Rows L2.Fw
section
variable {K : PySem.W.Frag} {r r' : R2} {op op' : Da → Da → Option Da}
theorem DO.or (f : Da → Da → Option Da) (h : DO K r op) (h' : DO K r' op') (e : ∀ x y d, f x y = some d → op x y = some d ∨ op' x y = some d) : DO K (fun x y H Q => r x y H Q ∨ r' x y H Q) f := fun N H x y dx dy d Q al hx hy ef q =>
  (e dx dy d ef).imp (fun z => h N H x y dx dy d Q al hx hy z q) fun z => h' N H x y dx dy d Q al hx hy z q
/-- the one where it tells, else the other -/
def els (f g : Da → Da → Option Da) : Da → Da → Option Da := fun x y => match f x y with
  | some d => some d
  | none => g x y
theorem DO.els (h : DO K r op) (h' : DO K r' op') : DO K (fun x y H Q => r x y H Q ∨ r' x y H Q) (els op op') := .or _ h h' fun x y d e => by
  unfold Dc.els at e
  split at e
  · rename_i z
    rw [z]
    exact .inl e
  · exact .inr e
def addS : Da → Da → Option Da
  | .str x, .str y => if Nat.ble (x.length + y.length) 1000000 = true then some (.str (x ++ y)) else none
  | _, _ => none
theorem do_addS : DO K rAddS addS := by
  intro N H x y dx dy d Q al hx hy e q
  unfold addS at e
  split at e
  · split at e
    · rename_i hf
      cases e
      cases hx
      cases hy
      exact ⟨_, _, rfl, rfl, by have := Nat.le_of_ble_eq_true hf; rw [sizeLine_eq]; omega, q N H (.refl al) _ (.str _)⟩
    · cases e
  · cases e
def rAddX (K : PySem.W.Frag) : R2 := fun x y H Q => rAddI x y H Q ∨ rCat x y H Q ∨ rCatA K x y H Q ∨ rAddS x y H Q
def addX : Da → Da → Option Da := els addI (els catL (els catT addS))
theorem op_addX {X : Cx} : OpR X (binaryOp .Add) (rAddX X.K) := op_add.or (op_cat.or (op_catA.or op_add_str))
theorem do_addX : DO K (rAddX K) addX := do_add.els (do_catL.els (do_catT.els do_addS))
def rMulX (K : PySem.W.Frag) : R2 := fun x y H Q => rMulI x y H Q ∨ rRep x y H Q ∨ rRepA K x y H Q
def mulX : Da → Da → Option Da := els mulI (els repL repT)
theorem op_mulX {X : Cx} : OpR X (binaryOp .Mult) (rMulX X.K) := op_mul.or (op_rep.or op_repA)
theorem do_mulX : DO K (rMulX K) mulX := do_mul.els (do_repL.els do_repT)
def eqStr : Da → Da → Option Da := fun x y => (match x, py y with
  | .str z, some _ => some (isS z y)
  | _, _ => none : Option Bool).map .bl
theorem do_eqStr : DO K (rEqS K) eqStr := .bl fun N H x y dx dy b Q hx hy e q => by
  split at e
  · rename_i z p ep
    cases e
    cases hx.str_inv
    exact ⟨z, p, rfl, hy.dd ep, by rw [isS_eq ep]; exact q⟩
  · cases e
def rEqX (K : PySem.W.Frag) : R2 := fun x y H Q => rEq x y H Q ∨ rEqD K x y H Q ∨ rEqS K x y H Q
def eqX : Da → Da → Option Da := els eqS (els eqD eqStr)
theorem op_eqX {X : Cx} (hu : X.A.units + 64 < cLine) : OpR X (compareOp .Eq) (rEqX X.K) := op_eq.or ((op_eqD hu).or (op_eqS (by omega)))
theorem do_eqX : DO K (rEqX K) eqX := do_eqS.els (do_eqD.els do_eqStr)
def rNeX (K : PySem.W.Frag) : R2 := fun x y H Q => rNe x y H Q ∨ rNeD K x y H Q
def neX : Da → Da → Option Da := els neS neD
theorem op_neX {X : Cx} (hu : X.A.units + 64 < cLine) : OpR X (compareOp .NotEq) (rNeX X.K) := op_ne.or (op_neD hu)
theorem do_neX : DO K (rNeX K) neX := do_neS.els do_neD
def rInX (K : PySem.W.Frag) : R2 := fun x y H Q => rInS K x y H Q ∨ rInD K x y H Q
def inX : Da → Da → Option Da := els inS inD
theorem op_inX {X : Cx} (hu : X.A.units + 65 < cLine) : OpR X (compareOp .In) (rInX X.K) := (op_inS' (by omega)).or (op_inD hu)
theorem do_inX : DO K (rInX K) inX := do_inS.els do_inD
end
section
variable {K : PySem.W.Frag} {E : XK} {ta tb tc : TE} {ga gb gc : En' → Ou Da} {ts : TA} {gs : En' → Ou (List Da)}
/-! ### a < b < c -/
def gChain (op op' : Da → Da → Option Da) (ga gb gc : En' → Ou Da) : En' → Ou Da := fun ρ => (ga ρ).bind fun x => (gb ρ).bind fun y => (Ou.of (op x y)).bind fun z => match z with
  | .bl true => (gc ρ).bind fun u => Ou.of (op' y u)
  | .bl false => .ok (.bl false)
  | _ => .bad
theorem de_chain {r r' : R2} {op op' : Da → Da → Option Da} (ho : DO K r op) (ho' : DO K r' op') (ha : DE K E ta ga) (hb : DE K E tb gb) (hc : DE K E tc gc) : DE K E (tChain r r' ta tb tc) (gChain op op' ga gb gc) := by
  intro N ρ σ H Q en w
  refine ha N ρ σ H _ en (w.bind.mono fun dx N1 H1 g1 w1 x hx => ?_)
  refine hb N1 ρ σ H1 _ (en.g g1) (w1.bind.mono fun dy N2 H2 g2 w2 y hy => ?_)
  have w3 := w2.bind
  obtain ⟨d, e, q⟩ := w3.of
  refine ho N2 H2 x y dx dy d _ g2.al (hx.g g2) hy e fun N3 H3 g3 v hv => ?_
  have w4 := q N3 H3 g3
  cases d with
  | bl k =>
    cases hv.bl_inv
    refine ⟨k, rfl, ?_⟩
    cases k with
    | true =>
      refine hc N3 ρ σ H3 _ (((en.g g1).g g2).g g3.toEv) (w4.bind.mono fun du N4 H4 g4 w5 u hu => ?_)
      obtain ⟨d2, e2, q2⟩ := w5.of
      exact ho' N4 H4 y u dy du d2 Q g4.al ((hy.g g3.toEv).g g4) hu e2 q2
    | false => exact w4.now (.refl g3.al) _ (.bl false)
  | _ => exact absurd rfl w4.nb
/-! ### slices of lists and tuples -/
def rSlX (K : PySem.W.Frag) : V → Option Int → Option Int → Hp → VK → Prop := fun x lo hi H Q => rSlL K x lo hi H Q ∨ rSlA K x lo hi H Q
def slA (x : Da) (lo hi : Option Int) : Option Da := match x with
  | .tup xs => some (.tup (cutD xs lo hi))
  | _ => none
theorem cutD_whole {xs : List Da} {lo hi : Option Int} (h : HT.sIx xs.length 0 lo = 0 ∧ HT.sIx xs.length xs.length hi = xs.length) : cutD xs lo hi = xs := by
  unfold cutD
  rw [h.1, h.2]
  simp
def slX (x : Da) (lo hi : Option Int) : Option Da := match slL x lo hi with
  | some d => some d
  | none => slA x lo hi
theorem sl_any {X : Cx} : SlR X (rSlX X.K) := sl_list.or sl_tupA
theorem de_slX {tl th : TO} {gl gh : En' → Ou (Option Int)} (ha : DE K E ta ga) (hl : DPo K E tl gl) (hh : DPo K E th gh) : DE K E (tSl (rSlX K) ta tl th) (gSl slX ga gl gh) := by
  intro N ρ σ H Q en w
  refine ha N ρ σ H _ en (w.bind.mono fun dx N1 H1 g1 w1 x hx => ?_)
  refine hl N1 ρ σ H1 _ (en.g g1) (w1.bind.mono fun lo N2 H2 g2 w2 => ?_)
  refine hh N2 ρ σ H2 _ ((en.g g1).g g2) (w2.bind.mono fun hi N3 H3 g3 w3 => ?_)
  obtain ⟨d, e, q⟩ := w3.of
  unfold slX at e
  split at e
  · rename_i d' e'
    cases e
    unfold slL at e'
    split at e'
    · split at e'
      · cases e'
        obtain ⟨a, xs, rfl, h1, _, h2⟩ := ((hx.g g2).g g3).lst_inv
        exact .inl ⟨a, xs, rfl, .of h1, fun p np => q _ _ (.new g3.al np _) _ (newL g3.al np (h2.cut lo hi))⟩
      · cases e'
    · cases e'
  · unfold slA at e
    split at e
    · cases e
      have hx3 := (hx.g g2).g g3
      obtain ⟨a, xs, rfl, h1, _, h2⟩ := hx3.tup_inv
      refine .inr ⟨a, xs, rfl, h1, fun hw => q _ _ (.refl g3.al) _ ?_, fun _ p np => q _ _ (.new g3.al np _) _ (newT g3.al np (h2.cut lo hi))⟩
      rw [h2.1] at hw
      rw [cutD_whole hw]
      exact hx3
    · cases e
/-! ### methods of own instances -/
def gMeth (c n : Str) (m : List Da → Ou Da) (ga : En' → Ou Da) (gs : En' → Ou (List Da)) : En' → Ou Da := fun ρ => (ga ρ).bind fun x => match x with
  | .ins c' ks vs => if c' = c ∧ n ∉ ks then (gs ρ).bind fun ds => m (.ins c' ks vs :: ds) else .bad
  | _ => .bad
theorem lookup_none {f : Str} : ∀ {fs : List (Str × V)}, f ∉ fs.map (·.1) → fs.lookup f = none
  | [], _ => rfl
  | (k, v) :: r, h => by
    have h1 : (f == k) = false := beq_eq_false_iff_ne.mpr fun e => h (by rw [e]; exact List.mem_cons_self)
    simp only [List.lookup, h1]
    exact lookup_none fun e => h (List.mem_cons_of_mem _ e)
theorem de_meth {c n : Str} {m : List Da → Ou Da} (ha : DE K E ta ga) (hr : DAr K E ts gs) : DE K E (tMeth (He.ga K c) n (spD K m) [] E ta ts) (gMeth c n m ga gs) := by
  intro N ρ σ H Q en w
  refine ha N ρ σ H _ en (w.bind.mono fun dx N1 H1 g1 w1 x hx => ?_)
  cases dx with
  | ins c' ks vs =>
    dsimp only at w1
    split at w1
    · rename_i hc
      obtain ⟨rfl, hn⟩ := hc
      obtain ⟨a, dx, fs, ex, h1, h2, h3, h4⟩ := hx.ins_inv
      refine ⟨a, dx, fs, ex, h2, lookup_none (by rw [h3]; exact hn), ?_⟩
      refine hr N1 ρ σ H1 _ (en.g g1) (w1.bind.mono fun ds N2 H2 g2 w2 us hu => ?_)
      refine ⟨N2, .ins c' ks vs :: ds, g2.al, ?_, w2⟩
      rw [List.append_nil]
      exact .cons (hx.g g2) hu
    · exact absurd rfl w1.nb
  | _ => exact absurd rfl w1.nb
def gMethZ (c n : Str) (m : List Da → Ou Da) (ga : En' → Ou Da) (gs : En' → Ou (List Da)) : En' → Ou Da := fun ρ => (ga ρ).bind fun x => match x with
  | .ins c' ks vs => if c' = c ∧ n ∉ ks then (gs ρ).bind fun ds => noEr (m (.ins c' ks vs :: ds)) else .bad
  | _ => .bad
theorem de_methZ {c n : Str} {m : List Da → Ou Da} (ha : DE K E ta ga) (hr : DAr K E ts gs) : DE K E (tMeth (He.ga K c) n (spD K m) [] E0 ta ts) (gMethZ c n m ga gs) := by
  intro N ρ σ H Q en w
  refine ha N ρ σ H _ en (w.bind.mono fun dx N1 H1 g1 w1 x hx => ?_)
  cases dx with
  | ins c' ks vs =>
    dsimp only at w1
    split at w1
    · rename_i hc
      obtain ⟨rfl, hn⟩ := hc
      obtain ⟨a, dx, fs, ex, h1, h2, h3, h4⟩ := hx.ins_inv
      refine ⟨a, dx, fs, ex, h2, lookup_none (by rw [h3]; exact hn), ?_⟩
      refine hr N1 ρ σ H1 _ (en.g g1) (w1.bind.mono fun ds N2 H2 g2 w2 us hu => ?_)
      refine ⟨N2, .ins c' ks vs :: ds, g2.al, ?_, w2.noEr⟩
      rw [List.append_nil]
      exact .cons (hx.g g2) hu
    · exact absurd rfl w1.nb
  | _ => exact absurd rfl w1.nb
/-! ### len(set(xs)) of texts -/
def gLenSet (ga : En' → Ou Da) : En' → Ou Da := fun ρ => (ga ρ).bind fun x => match x with
  | .lst ds => match strsD ds with
    | some zs => if zs.length ≤ 100 then .ok (.int (uniq zs).length) else .bad
    | none => .bad
  | _ => .bad
theorem de_lenSet (ha : DE K E ta ga) : DE K E (tLenSetS K ta) (gLenSet ga) := by
  intro N ρ σ H Q en w
  refine ha N ρ σ H _ en (w.bind.mono fun dx N1 H1 g1 w1 x hx => ?_)
  split at w1
  · split at w1
    · rename_i zs e
      split at w1
      · rename_i hl
        obtain ⟨a, xs, rfl, h1, _, h2⟩ := hx.lst_inv
        rw [strs_inv e h2] at h1
        exact ⟨a, zs, rfl, .of h1, hl, w1.now (.refl g1.al) _ (.int _)⟩
      · exact absurd rfl w1.nb
    · exact absurd rfl w1.nb
  · exact absurd rfl w1.nb
end
/-! ### what stands in the text -/
/-- an own class: its methods ms, names fs that it has not -/
structure ClF (K : PySem.W.Frag) (c : Str) (fs ms : List Str) : Prop where
  ci : CI K (He.ga K c)
  na : ∀ f ∈ fs, NoAttr K (He.ga K c) f
  me : ∀ m ∈ ms, Meth K (He.ga K c) m (He.ma K (He.ga K c) m)
  mki : PySem.W.makesIn K (He.ga K c) = true
  kp : PySem.W.keepIn K (.ref (He.ga K c)) = true
theorem ClF.mk' {K : PySem.W.Frag} {c : Str} {fs ms : List Str} (h : ClF K c fs ms) (i : ("__init__" : Str) ∈ ms) : Mk K (He.ga K c) (He.ma K (He.ga K c) "__init__") := ⟨h.mki, (h.me _ i).at_, (h.me _ i).fn, h.kp⟩
def clB (K : PySem.W.Frag) (p : Str × List Str × List Str) : Bool := PySem.W.plainGet K (He.ga K p.1) Str.empty && PySem.W.hasDictIn K (He.ga K p.1) && PySem.W.plainOver K (He.ga K p.1) &&
  decide (PySem.W.findIn K (.ref (He.ga K p.1)) "__setattr__" = some (some (.builtin "object.__setattr__"))) &&
  decide (PySem.W.findIn K (.ref (He.ga K p.1)) "__class__" = some (some (.builtin "object.__class__"))) && decide (PySem.W.specialIn K (.builtin "object.__class__") "__get__" = some (some (.builtin "getset_descriptor.__get__"))) &&
  decide (PySem.W.takesIn K (.builtin "object.__class__") = some true) && decide (PySem.W.mroIn K (He.ga K p.1) (.type "object") = some true) &&
  (p.2.1.all fun f => decide (PySem.W.findIn K (.ref (He.ga K p.1)) f = some none)) &&
  (p.2.2.all fun m => decide (PySem.W.findIn K (.ref (He.ga K p.1)) m = some (some (.ref (He.ma K (He.ga K p.1) m)))) && PySem.W.isFn K (.ref (He.ma K (He.ga K p.1) m)) && PySem.W.keepIn K (.ref (He.ma K (He.ga K p.1) m))) &&
  PySem.W.makesIn K (He.ga K p.1) && PySem.W.keepIn K (.ref (He.ga K p.1))
theorem clB_ok {K : PySem.W.Frag} {c : Str} {fs ms : List Str} (h : clB K (c, fs, ms) = true) : ClF K c fs ms := by
  unfold clB at h
  simp only [Bool.and_eq_true, decide_eq_true_eq, List.all_eq_true] at h
  obtain ⟨⟨⟨⟨⟨⟨⟨⟨⟨⟨⟨h1, h2⟩, h3⟩, h4⟩, h5⟩, h6⟩, h7⟩, h8⟩, h9⟩, h10⟩, h11⟩, h12⟩ := h
  exact ⟨⟨⟨h1, h2, h3, h4⟩, h5, h6, h7, h8⟩, fun f m => h9 f m, fun m hm => ⟨(h10 m hm).1.1, (h10 m hm).1.2, (h10 m hm).2⟩, h11, h12⟩
/-- isinstance among own classes -/
def okB (K : PySem.W.Frag) (cs : List Str) : Bool := cs.all fun c => (cs.all fun x => decide (PySem.W.kitOne K (.ref (He.ga K x)) (.ref (He.ga K c)) = some (decide (x = c)))) &&
  ((["NoneType", "bool", "int", "str", "list", "tuple", "dict"] : List String).all fun n => decide (PySem.W.kitOne K (.type n) (.ref (He.ga K c)) = some false))
theorem okB_ok {K : PySem.W.Frag} {cs : List Str} (h : okB K cs = true) (hc : ∀ x ∈ cs, CI K (He.ga K x)) {c : Str} (m : c ∈ cs) : OwnK K cs c := by
  unfold okB at h
  simp only [Bool.and_eq_true, decide_eq_true_eq, List.all_eq_true] at h
  exact ⟨hc, (h c m).1, (h c m).2⟩
/-- a constant of the module: an int, a text, a tuple of texts -/
inductive Kn where
  | ki (i : Int) | ks (x : Str) | kt (xs : List Str)
def Kn.da : Kn → Da
  | .ki i => .int i
  | .ks x => .str x
  | .kt xs => .tup (xs.map .str)
def strV : Value → Option Str
  | .str x _ => some x
  | _ => none
def knB (K : PySem.W.Frag) (p : Str × Kn) : Bool := match PySem.W.nsIn K mainGlobals p.1, p.2 with
  | some (some (.int i _)), .ki j => i == j
  | some (some (.str x _)), .ks y => x == y
  | some (some (.ref a)), .kt xs => (match K.lookup a with
    | some ⟨c, _, .seq its _, _⟩ => c == .type "tuple" && (its.toList.map strV == xs.map some) && decide (its.size ≤ 1000)
    | _ => false)
  | _, _ => false
theorem strV_vals : ∀ {us : List Value} {xs : List Str}, us.map strV = xs.map some → Vals (xs.map V.str) us
  | [], [], _ => .nil
  | [], _ :: _, h => by simp at h
  | _ :: _, [], h => by simp at h
  | u :: us, x :: xs, h => by
    simp only [List.map_cons, List.cons.injEq] at h
    obtain ⟨h1, h2⟩ := h
    refine .cons ?_ (strV_vals h2)
    cases u <;> first
      | (simp [strV] at h1; done)
      | (simp only [strV, Option.some.injEq] at h1; subst h1; exact ⟨_, rfl⟩)
theorem knB_ok {K : PySem.W.Frag} {x : Str} {k : Kn} (h : knB K (x, k) = true) : ∃ u v, PySem.W.nsIn K mainGlobals x = some (some u) ∧ RelV v u ∧ ∀ H N, DV K H N v k.da := by
  unfold knB at h
  split at h
  · rename_i i t j e1 e2
    cases e2
    refine ⟨_, .int i, e1, ⟨_, rfl⟩, fun H N => ?_⟩
    rw [beq_iff_eq.mp h]
    exact DV.int j
  · rename_i y t z e1 e2
    cases e2
    refine ⟨_, .str y, e1, ⟨_, rfl⟩, fun H N => ?_⟩
    rw [beq_iff_eq.mp h]
    exact DV.str z
  · rename_i a xs e1 e2
    cases e2
    split at h
    · rename_i c dd its n sl e3
      simp only [Bool.and_eq_true, beq_iff_eq, decide_eq_true_eq] at h
      obtain ⟨⟨h1, h2⟩, h3⟩ := h
      refine ⟨_, .ref a, e1, rfl, fun H N => ?_⟩
      have hv := strV_vals h2
      show DV K H N (.ref a) (.tup (xs.map .str))
      refine .tup (xs := xs.map V.str) (.inr ⟨_, its, n, e3, h1, rfl, ?_, hv⟩) (by simp) fun i x d q1 q2 => ?_
      · exact Nat.le_of_lt (small1000 h3)
      · rw [List.getElem?_map, Option.map_eq_some_iff] at q1 q2
        obtain ⟨y, q1, rfl⟩ := q1
        obtain ⟨z, q2, rfl⟩ := q2
        rw [q1] at q2
        cases q2
        exact .str _
    · cases h
  · cases h
/-- a constant read -/
structure Cn (K : PySem.W.Frag) (mg : Str → Option Value) (x : Str) (d : Da) : Prop where
  ex : ∃ u v, mg x = some u ∧ RelV v u ∧ ∀ H N, DV K H N v d
def tCn (K : PySem.W.Frag) (d : Da) : TE := fun _ H Q => ∀ v, (∀ H N, DV K H N v d) → Q v H
theorem pe_cn {X : Cx} {x : Str} {d : Da} {pos : Pos} (hg : Gl X x) (h : Cn X.K X.mg x d) (hd : (x == ("__debug__" : Str)) = false := by decide) : PE X (.Name x pos) (tCn X.K d) := by
  obtain ⟨u, v, h1, h2, h3⟩ := h.ex
  exact ⟨fun pins s σ H Q I q => (pe_glob (v := v) hg h1 h2 hd).run pins s σ H Q I (q v h3)⟩
theorem de_cn {K : PySem.W.Frag} {E : XK} {d : Da} : DE K E (tCn K d) (gC d) := fun N ρ σ H Q en w v hv => w.now (.refl en.al) v (hv H N)
end L2.Dc
/-! defs and methods that keep a promise over data -/
namespace L2.Dc
open PySem PySem.Spec PyProof.Rows L2.Fw
section
variable {P : Program} {w : World} {K : PySem.W.Frag} {mg : Str → Option Value} {base : Heap} {x qual : Str} {params : Arguments} {body : List Stmt} {scope : Scope} {dvs : List V} {kws : List (Str × V)} {f : Addr} {fd : FuncData}
abbrev TkE (X : Cx) (E : XK) : Prop := Takes X (fun cls d _ H => E cls d H)
theorem okT {N ps : List Str} {k : Nat} {sp : Sp} (F : FunD K x qual params body scope dvs kws f fd) (S : FnScope N ps scope) (len : ∀ vs H Q E, sp vs H Q E → vs.length = ps.length)
    (hbody : ∀ (cdv : Value) (A : Around) (outer : List Env) (s : Shared) (H : Hp) (vs : List V) (Q : VK) (E : XK), Room k (A.deeper (envOfC qual scope s.heap.objs.size f cdv)) → TkE (cxOf (L2.CX P w) P w K mg base N qual scope f cdv A outer s H E) E → sp vs H Q E →
      ∃ t, PSs (cxOf (L2.CX P w) P w K mg base N qual scope f cdv A outer s H E) body t ∧ t { nx := fun _ H' => Q .non H', rt := Q } (start N vs) H) : FnOk P w K mg base (L2.CX P w) (k + 1) f fd ps sp :=
  FunD.ok F S len fun cdv A outer s H vs Q E hr h => hbody cdv A outer s H vs Q E hr (takes_of rfl rfl rfl rfl) h
theorem okGT {N ps : List Str} {k : Nat} {sp : Sp} (F : FunD K x qual params body scope dvs kws f fd) (S : FnScope N ps scope) (len : ∀ vs H Q E, sp vs H Q E → vs.length = ps.length)
    (hbody : ∀ (cdv : Value) (A : Around) (outer : List Env) (s : Shared) (H : Hp) (vs : List V) (Q : VK) (E : XK), (A.deeper (envOfC qual scope s.heap.objs.size f cdv)).guards = some [] → Room k (A.deeper (envOfC qual scope s.heap.objs.size f cdv)) → TkE (cxOf (L2.CX P w) P w K mg base N qual scope f cdv A outer s H E) E → sp vs H Q E →
      ∃ t, PSs (cxOf (L2.CX P w) P w K mg base N qual scope f cdv A outer s H E) body t ∧ t { nx := fun _ H' => Q .non H', rt := Q } (start N vs) H) : FnG P w K mg base (k + 1) f fd ps sp :=
  okG F S len fun cdv A outer s H vs Q E hg hr h => hbody cdv A outer s H vs Q E hg hr (takes_of rfl rfl rfl rfl) h
/-- a method of an own class -/
structure MetO (P : Program) (w : World) (K : PySem.W.Frag) (mg : Str → Option Value) (base : Heap) (k : Nat) (c m : Str) (ps : List Str) (sp : Sp) : Prop where
  ex : ∃ fd, FnOk P w K mg base (L2.CX P w) k (He.ma K (He.ga K c) m) fd ps sp ∧ Binds K fd ps []
theorem passT {X : Cx} {E : XK} (tk : TkE X E) : Passes (L2.CX X.prog X.w) X E := fun pins σ H s e s' I c => passAt tk σ pins H s e s' I c
theorem passS {X : Cx} {E : XK} (tk : TkE X E) (σ : St) : PassesAt (L2.CX X.prog X.w) X σ E := passAt tk σ
end
section
variable {X : Cx} {k j : Nat} {ps : List Str} {sp : Sp} {E : XK} {x : Str} {p pos : Pos} {e : Expr} {es : List Expr} {t : TA}
theorem pe_callT (C : CalO X.prog X.w X.K X.mg X.base k x ps sp) (hr : Room j X.A) (tk : TkE X E) (hg : Gl X x) (ha : PA X (e :: es) t) (hkj : k ≤ j := by decide)
    (hdb : (x == ("__debug__" : Str)) = false := by decide) (he : starEach (e :: es) X.env = (false, eval e X.env) :: starEach es X.env := by rfl) (hpl : (backTo pos (starEach es X.env)).any (·.1) = false := by rfl) :
    PE X (.Call (.Name x p) (e :: es) [] pos) (tCallX sp (fun _ => E) t) := pe_callO C hr hg (passS tk) ha hkj hdb he hpl
theorem pe_callT0 (C : CalO X.prog X.w X.K X.mg X.base k x ps sp) (hr : Room j X.A) (tk : TkE X E) (hg : Gl X x) (hkj : k ≤ j := by decide)
    (hdb : (x == ("__debug__" : Str)) = false := by decide) : PE X (.Call (.Name x p) [] [] pos) (tCallX sp (fun _ => E) tNil) := pe_callO0 C hr hg (passS tk) hkj hdb
theorem pe_callL (C : CalO X.prog X.w X.K X.mg X.base k x ps sp) (hr : Room j X.A) (hg : Gl X x) (ha : PA X (e :: es) t) (hkj : k ≤ j := by decide)
    (hdb : (x == ("__debug__" : Str)) = false := by decide) (he : starEach (e :: es) X.env = (false, eval e X.env) :: starEach es X.env := by rfl) (hpl : (backTo pos (starEach es X.env)).any (·.1) = false := by rfl) :
    PE X (.Call (.Name x p) (e :: es) [] pos) (tCallX sp Z0 t) := pe_callO C hr hg (fun σ => passZ σ) ha hkj hdb he hpl
theorem pe_gcallT (C : CalG X.prog X.w X.K X.mg X.base k x ps sp) (hgd : X.A.guards = some []) (hr : Room j X.A) (tk : TkE X E) (hg : Gl X x) (ha : PA X (e :: es) t) (hkj : k ≤ j := by decide)
    (hdb : (x == ("__debug__" : Str)) = false := by decide) (he : starEach (e :: es) X.env = (false, eval e X.env) :: starEach es X.env := by rfl) (hpl : (backTo pos (starEach es X.env)).any (·.1) = false := by rfl) :
    PE X (.Call (.Name x p) (e :: es) [] pos) (tCallX sp (fun _ => E) t) := pe_callG C hgd hr hg (passS tk) ha hkj hdb he hpl
theorem pe_gcallL (C : CalG X.prog X.w X.K X.mg X.base k x ps sp) (hgd : X.A.guards = some []) (hr : Room j X.A) (hg : Gl X x) (ha : PA X (e :: es) t) (hkj : k ≤ j := by decide)
    (hdb : (x == ("__debug__" : Str)) = false := by decide) (he : starEach (e :: es) X.env = (false, eval e X.env) :: starEach es X.env := by rfl) (hpl : (backTo pos (starEach es X.env)).any (·.1) = false := by rfl) :
    PE X (.Call (.Name x p) (e :: es) [] pos) (tCallX sp Z0 t) := pe_callG C hgd hr hg (fun σ => passZ σ) ha hkj hdb he hpl
/-- raise C(e) -/
theorem ps_rz {f : Str} {c : Str} {C : Addr} (T : XC X.prog X.w X.K X.mg X.base c f C 1) (hC : C = He.ga X.K c) (hf : f = efld c) (hr : Room 2 X.A) (tk : TkE X E) (hc : X.calm = true) (hg : Gl X c) (ha : PA X [e] t)
    (hdb : (c == ("__debug__" : Str)) = false := by decide) (he : starEach [e] X.env = (false, eval e X.env) :: starEach [] X.env := by rfl) (hpl : (backTo pos (starEach [] X.env)).any (·.1) = false := by rfl) {pos2 : Pos} :
    PS X (.Raise (some (.Call (.Name c p) [e] [] pos)) none pos2) (tRz X.K E c t) := by
  subst hC hf
  exact ps_raise hc tk (pmk_xc T hr hg ha hdb he hpl)
end
end L2.Dc
namespace L2.Dc
open PySem PySem.Spec PyProof.Rows L2.Fw
theorem pe_cs {X : Cx} {x s : Str} {pos : Pos} (hg : Gl X x) (h : ∃ t, X.mg x = some (.str s t)) (hd : (x == ("__debug__" : Str)) = false := by decide) : PE X (.Name x pos) (tC (.str s)) := by
  obtain ⟨t, h⟩ := h
  exact pe_glob (v := .str s) hg h ⟨t, rfl⟩ hd
theorem knS_ok {K : PySem.W.Frag} {x s : Str} (h : knB K (x, .ks s) = true) : ∃ t, PySem.W.nsIn K mainGlobals x = some (some (.str s t)) := by
  unfold knB at h
  split at h
  · rename_i e2; cases e2
  · rename_i y t z e1 e2
    cases e2
    refine ⟨t, ?_⟩
    rw [← beq_iff_eq.mp h]
    exact e1
  · rename_i e2; cases e2
  · cases h
end L2.Dc
/-! == of own instances with anything -/
namespace L2.Dq
open PySem PySem.Spec PyProof.Rows PySem.SeqAt PySem.W L2 L2.Fw
open AutoSeq1 (wpAny_loadPart')
open MeetsSeq
section
variable {K : Frag} {C x dx : Addr}
def Dcl (K : Frag) (C x dx : Addr) : PySem.Spec := fun _ R s => s.heap.get? x = some (instObj C dx) ∧ K.In s.heap ∧ R (.ok (.ret .notImplemented)) s
theorem none_own : Meets (Builtin.«NoneType.__eq__» ⟨[.none, .ref x], []⟩) (Dcl K C x dx) := .of_wp fun prog w A R s h => by
  obtain ⟨hp, g, d, tk, os⟩ := s
  obtain ⟨I, X, h⟩ := h
  wp_walk
  exact ⟨_, rfl, h⟩
theorem str_own (b : Str) (u : Tok) : Meets (Builtin.«str.__eq__» ⟨[.str b u, .ref x], []⟩) (Dcl K C x dx) := .of_wp fun prog w A R s h => by
  obtain ⟨hp, g, d, tk, os⟩ := s
  obtain ⟨I, X, h⟩ := h
  wp_walk
  exact ⟨_, rfl, h⟩
theorem int_own (b : Int) (u : Tok) : Meets (Builtin.«int.__eq__» ⟨[.int b u, .ref x], []⟩) (Dcl K C x dx) := .of_wp fun prog w A R s h => by
  obtain ⟨hp, g, d, tk, os⟩ := s
  obtain ⟨I, X, h⟩ := h
  wp_walk
  exact ⟨_, rfl, h⟩
theorem bool_own (b : Bool) : Meets (Builtin.«int.__eq__» ⟨[.bool b, .ref x], []⟩) (Dcl K C x dx) := .of_wp fun prog w A R s h => by
  obtain ⟨hp, g, d, tk, os⟩ := s
  obtain ⟨I, X, h⟩ := h
  wp_walk
  exact ⟨_, rfl, h⟩
theorem list_own {l : Addr} {items : Array Value} {n : Nat} {dd : Option Addr} {sl : Array (Option Value)} (e : subIn K (.ref C) (.type "list") = some false) : Meets (Builtin.«list.__eq__» ⟨[.ref l, .ref x], []⟩) (fun A R s => s.heap.get? l = some ⟨.type "list", dd, .seq items n, sl⟩ ∧ Dcl K C x dx A R s) := .of_wp fun prog w A R s h => by
  obtain ⟨hp, g, d, tk, os⟩ := s
  obtain ⟨hl, I, X, h⟩ := h
  unfold instObj at I
  wp_walk using wpAny_loadPart' hl, wpAny_loadPart' I
  refine (looks_subIn X e).here ?_
  wp_walk
  exact ⟨_, rfl, h⟩
theorem tup_own {l : Addr} {items : Array Value} {n : Nat} {dd : Option Addr} {sl : Array (Option Value)} (e : subIn K (.ref C) (.type "tuple") = some false) : Meets (Builtin.«tuple.__eq__» ⟨[.ref l, .ref x], []⟩) (fun A R s => s.heap.get? l = some ⟨.type "tuple", dd, .seq items n, sl⟩ ∧ Dcl K C x dx A R s) := .of_wp fun prog w A R s h => by
  obtain ⟨hp, g, d, tk, os⟩ := s
  obtain ⟨hl, I, X, h⟩ := h
  unfold instObj at I
  wp_walk using wpAny_loadPart' hl, wpAny_loadPart' I
  refine (looks_subIn X e).here ?_
  wp_walk
  exact ⟨_, rfl, h⟩
theorem dict_own {l : Addr} {es : Array DictEntry} {ep : Nat} {dd : Option Addr} {sl : Array (Option Value)} (e : subIn K (.ref C) (.type "dict") = some false) : Meets (Builtin.«dict.__eq__» ⟨[.ref l, .ref x], []⟩) (fun A R s => s.heap.get? l = some ⟨.type "dict", dd, .dict es ep, sl⟩ ∧ Dcl K C x dx A R s) := .of_wp fun prog w A R s h => by
  obtain ⟨hp, g, d, tk, os⟩ := s
  obtain ⟨hl, I, X, h⟩ := h
  unfold instObj at I
  wp_walk using wpAny_loadPart' hl, wpAny_loadPart' I
  refine (looks_subIn X e).here ?_
  wp_walk
  exact ⟨_, rfl, h⟩
end
section
variable {prog : Program} {w : World} {A : Around} {E : Value → Shared → Prop} {s : Shared} {K : Frag} {C x f : Addr} {ox : Obj} {od : Option Obj} {Q : Value → Shared → Prop}
theorem one_K {a : Value} (X : K.In s.heap) (I : InstAt s.heap x ox C od) (hs : findIn K (.ref C) "__eq__" = some (some (.ref f))) (hf : isFn K (.ref f) = true) (h : wpAny (model prog w) A (call (.ref f) [.ref x, a]) (PySem.W.CmpBack Q) E s) :
    wpAny (model prog w) A (tryCompare (.ref x) "__eq__" a) (fun r s' => ∃ v, r = some v ∧ Q v s') E s := by
  unfold tryCompare
  refine wpAny_bind (ifBound_K X I hs hf (wpAny_mono h (fun v s' hv => ?_) fun _ _ e => e))
  cases v <;> first | exact hv.elim | exact wpAny_pure ⟨_, rfl, hv⟩
/-- a == o, a of a built-in type that declines -/
theorem left_own {a : Value} {Ta ida : String} (hu : A.units < cLine) (X : K.In s.heap) (I : InstAt s.heap x ox C od) (ha : s.TypeIs a Ta) (hsub : subIn K (.ref C) (.type Ta) = some false) (h1 : Slot Ta (cmpInfo .Eq).2.1 ida)
    (hc1 : ∀ Q' : Value → Shared → Prop, Q' .notImplemented s → wpAny (model prog w) A (call (.builtin ida) [a, .ref x]) Q' E s) (hs : findIn K (.ref C) "__eq__" = some (some (.ref f))) (hf : isFn K (.ref f) = true)
    (h : wpAny (model prog w) A (call (.ref f) [.ref x, a]) (PySem.W.CmpBack Q) E s) : wpAny (model prog w) A (richCompare .Eq a (.ref x)) Q E s := by
  simp only [richCompare, ha.oneThing_none, cmpInfo_Eq]
  try with_reducible refine wpAny_holding ?_
  refine wpAny_bind (wpAny_cRoomFor hu ?_)
  refine wpAny_bind (wpAny_typeOf ha (wpAny_bind (I.type.here ?_)))
  have hne : (Value.type Ta != Value.ref C) = true := by simp
  simp only [hne, if_true]
  refine wpAny_bind ((looks_subIn X hsub).here ?_)
  simp only [Bool.false_eq_true, if_false, Bool.not_false, if_true]
  refine wpAny_bind (m := tryCompare a _ (.ref x)) (wpAny_tryCompare_declines ha h1 (hc1 _ ⟨rfl, ?_⟩))
  show wpAny _ _ (tryCompare (.ref x) _ a >>= _) _ _ _
  refine wpAny_bind (wpAny_mono (one_K X I hs hf h) (fun r s' z => ?_) fun _ _ e => e)
  obtain ⟨v, rfl, hq⟩ := z
  exact wpAny_pure hq
end
section
variable {prog : Program} {w : World} {A : Around} {E : Value → Shared → Prop} {s : Shared} {K : Frag} {C x f L : Addr} {ox : Obj} {od : Option Obj} {Q : Value → Shared → Prop} {h₀ : Heap} {mN : Str → Option Value}
theorem ifBound_B {M : Model} {name : Str} {B id : String} {args : List Value} {Q : Option Value → Shared → Prop} (X : K.In s.heap) (I : InstAt s.heap x ox C od) (hs : findIn K (.ref C) name = some (some (.builtin id))) (S : Slot B name id)
    (h : wpAny M A (call (.builtin id) (.ref x :: args)) (fun v => Q (some v)) E s) : wpAny M A (callSpecialIfBound? (.ref x) name args) Q E s := by
  simp only [callSpecialIfBound?, bindSpecialIfBound?]
  refine wpAny_holding (wpAny_bind (wpAny_bind (wpAny_bind (I.type.here ((looks_findIn X hs).here ?_)))))
  simp only [S.bind]
  refine wpAny_bind (wpAny_askSetting (wpAny_ite ?_))
  have fin : wpAny M A (call (.builtin id) ([.ref x] ++ args) >>= fun v => pure (some v)) Q E s := wpAny_bind (wpAny_mono h (fun v s' h' => wpAny_pure h') fun _ _ h' => h')
  split
  · exact wpAny_bind (wpAny_pure (wpAny_pure fin))
  · exact wpAny_tryCatch (wpAny_bind (wpAny_pure (wpAny_pure fin)))
theorem check_K {M : Model} {id owner n : String} {rest : List Value} {Q : Unit → Shared → Prop} (hk : builtinKind id = some .slot) (hs : splitId id = some (owner, n)) (ha : argsOk id ⟨.ref x :: rest, []⟩) (X : K.In s.heap) (I : InstAt s.heap x ox C od)
    (hob : subIn K (.ref C) (.type owner) = some true) (hq : Q () s) : wpAny M A (checkBuiltinCall id ⟨.ref x :: rest, []⟩) Q E s := by
  simp only [checkBuiltinCall, hk, hs]
  refine wpAny_bind ?_
  unfold isInstance
  refine wpAny_bind (I.type.here ((looks_subIn X hob).here ?_))
  cases hsig : Manifest.signature? id with
  | none => exact wpAny_pure hq
  | some sig =>
    simp only [argsOk, hsig] at ha
    have h2 : Bind.checkArgs id sig ⟨.ref x :: rest, []⟩ = pure () := ha
    show wpAny M A (Bind.checkArgs id sig ⟨.ref x :: rest, []⟩) Q E _
    rw [h2]; exact wpAny_pure hq
theorem objNe_K {b : Value} {Q : Fin → Shared → Prop} (hu : A.units < cLine) (X : K.In s.heap) (I : InstAt s.heap x ox C od) (hs : findIn K (.ref C) "__eq__" = some (some (.ref f))) (hf : isFn K (.ref f) = true)
    (h : wpAny (model prog w) A (call (.ref f) [.ref x, b]) (fun v s' => ∃ r, v = .bool r ∧ Q (.done (.ret (.bool (!r)))) s') E s) : wpAny (model prog w) A (Builtin.«object.__ne__» ⟨[.ref x, b], []⟩) Q E s := by
  obtain ⟨hp, g, d, tk, os⟩ := s
  unfold Builtin.«object.__ne__»
  repeat (first
    | with_reducible refine wpAny_cRoomFor hu ?_
    | (refine wpAny_bind (m := callSpecialIfBound? (.ref x) (Str.ofString "__eq__") [b])
        (ifBound_K X I hs hf (wpAny_mono h (fun r s' hr => by
          obtain ⟨k, rfl, hq⟩ := hr
          repeat (first | exact hq | exact wpAny_pure hq | exact wpAny_truthy_bool hq | (refine wpAny_bind (m := truthy (.bool _)) (wpAny_truthy_bool ?_)) | wp_step)) fun _ _ e => e)))
    | wp_step)
theorem ne_K {b tb : Value} (hu : A.units + 1 < cLine) (F : Fr h₀ L s.heap mN) (X₀ : K.In h₀) (I : InstAt s.heap x ox C od) (hb : Looks (model prog w) s.heap (typeOf b) tb) (hn : notFirst K C tb = true)
    (hne : findIn K (.ref C) "__ne__" = some (some (.builtin "object.__ne__"))) (hob : subIn K (.ref C) (.type "object") = some true)
    (hs : findIn K (.ref C) "__eq__" = some (some (.ref f))) (hf : isFn K (.ref f) = true)
    (h : wpAny (model prog w) A.in1 (call (.ref f) [.ref x, b]) (fun v s' => ∃ r, v = .bool r ∧ Q (.bool (!r)) s') E s) : wpAny (model prog w) A (richCompare .NotEq (.ref x) b) Q E s := by
  have X := X₀.keeps F.keep
  have one : wpAny (model prog w) A (tryCompare (.ref x) "__ne__" b) (fun r s' => ∃ v, r = some v ∧ Q v s') E s := by
    unfold tryCompare
    refine wpAny_bind (ifBound_B X I hne PySem.F.cmp_object.ne (wpAny_call (codeAny_call_builtin PySem.F.cmp_object.ne.plain PySem.F.cmpEntry_ne
      (check_K PySem.F.cmpKind_ne PySem.F.cmpSplit_ne (PySem.F.cmpArgs_ne _ _) X I hob (objNe_K (A := A.in1) hu X I hs hf (wpAny_mono h (fun v s' hv => ?_) fun _ _ e => e))))))
    obtain ⟨r, rfl, hq⟩ := hv
    exact ⟨r, rfl, wpAny_pure ⟨_, rfl, hq⟩⟩
  unfold richCompare
  simp only [oneThing_ref]
  refine wpAny_holding (wpAny_bind (wpAny_cRoomFor (Nat.lt_of_succ_lt hu) ?_))
  rw [cmpInfo_NotEq]
  dsimp only
  refine wpAny_bind (I.type.here (wpAny_bind (hb.here ?_)))
  split
  · rename_i q
    have e : subIn K tb (.ref C) = some false := by
      rcases Bool.or_eq_true_iff.mp hn with e | e
      · rw [beq_iff_eq.mp e] at q; simp at q
      · exact beq_iff_eq.mp e
    refine wpAny_bind ((looks_subIn X e).here ?_)
    simp only [Bool.false_eq_true, if_false]
    refine wpAny_bind (wpAny_mono one (fun r s' z => ?_) fun _ _ e => e)
    obtain ⟨v, rfl, hq⟩ := z
    exact wpAny_pure hq
  · refine wpAny_bind (wpAny_pure ?_)
    simp only [Bool.false_eq_true, if_false]
    refine wpAny_bind (wpAny_mono one (fun r s' z => ?_) fun _ _ e => e)
    obtain ⟨v, rfl, hq⟩ := z
    exact wpAny_pure hq
end
/-! ### over data -/
section
variable {X : Cx} {c : Str} {k : Nat} {cs : List Str} {m : List Dc.Da → Dc.Ou Dc.Da} {E : XK}
open L2.Dc
/-- what an own class with its own == must say -/
structure EqF (K : Frag) (c : Str) : Prop where
  me : Meth K (He.ga K c) "__eq__" (He.ma K (He.ga K c) "__eq__")
  ty : ∀ n ∈ (["NoneType", "bool", "int", "str", "list", "tuple", "dict"] : List String), subIn K (.ref (He.ga K c)) (.type n) = some false
  nf : ∀ n ∈ (["NoneType", "bool", "int", "str", "list", "tuple", "dict"] : List String), notFirst K (He.ga K c) (.type n) = true
def eqfB (K : Frag) (c : Str) : Bool := (["NoneType", "bool", "int", "str", "list", "tuple", "dict"] : List String).all fun n => decide (subIn K (.ref (He.ga K c)) (.type n) = some false) && notFirst K (He.ga K c) (.type n)
theorem eqfB_ok {K : Frag} {c : Str} {fs ms : List Str} (h : eqfB K c = true) (F : ClF K c fs ms) (i : ("__eq__" : Str) ∈ ms) : EqF K c := by
  unfold eqfB at h
  simp only [Bool.and_eq_true, decide_eq_true_eq, List.all_eq_true] at h
  exact ⟨F.me _ i, fun n q => (h n q).1, fun n q => (h n q).2⟩
/-- the own == of two data, the first an instance of c -/
def rEqO (K : Frag) (c : Str) (m : List Da → Ou Da) : R2 := fun x y H Q => ∃ N dx dy ks vs b, Al N H ∧ DV K H N x dx ∧ DV K H N y dy ∧ noX dx = true ∧ noX dy = true ∧
  ((dx = .ins c ks vs ∧ (∀ c' ks' vs', dy = .ins c' ks' vs' → c' = c) ∧ m [dx, dy] = .ok (.bl b)) ∨ (dy = .ins c ks vs ∧ (∀ c' ks' vs', dx ≠ .ins c' ks' vs') ∧ m [dy, dx] = .ok (.bl b))) ∧ ∀ N' H', Grow N H N' H' → Q (.bl b) H'
theorem back_of {P : Value → Shared → Prop} {b : Bool} {s' : Shared} (h : P (.bool b) s') : PySem.W.CmpBack P (.bool b) s' := h
theorem looks_typ {M : Model} {h : Heap} {g : Array GenState} {d : Drawn} {t : Nat} {os : OsState} {v : Value} {n : String} (h1 : (⟨h, g, d, t, os⟩ : Shared).TypeIs v n) : Looks M h (typeOf v) (.type n) := by
  cases v <;> first
    | exact Looks.of_pure h1
    | (obtain ⟨o, ho, hc⟩ := h1; exact hc ▸ (Looks.ld ho).andThen .now)
theorem typ_of {pins : List (Addr × Obj)} {σ : St} {H : Hp} {s : Shared} {N : Rg} {y : V} {dy : Da} {u : Value} (I : Inv X pins σ H s) (hy : DV X.K H N y dy) (r : RelV y u) (hb : ∀ c' ks' vs', dy ≠ .ins c' ks' vs') (nx : noX dy = true) :
    ∃ n ∈ (["NoneType", "bool", "int", "str", "list", "tuple", "dict"] : List String), s.TypeIs u n := by
  cases hy with
  | non => cases r; exact ⟨"NoneType", by decide, rfl⟩
  | bl b => cases r; exact ⟨"bool", by decide, rfl⟩
  | int i => obtain ⟨t, rfl⟩ := r; exact ⟨"int", by decide, typeIs_int s i t⟩
  | str z => obtain ⟨t, rfl⟩ := r; exact ⟨"str", by decide, typeIs_str s z t⟩
  | lst na hs hl _ =>
    cases r
    obtain ⟨its, _, pl, _⟩ := I.list (.of hs)
    exact ⟨"list", by decide, pl.isList.typeIs⟩
  | tup hs hl _ =>
    cases r
    obtain ⟨its, _, ⟨o, ho, hc, _⟩, _⟩ := I.tuple (hs.elim (fun q => .of q.2) .inr)
    exact ⟨"tuple", by decide, o, ho, hc⟩
  | dct na hs hk hl _ =>
    cases r
    have z : ObjOk X.prog X.w H s.heap _ (.dK _) := I.hok _ _ hs
    obtain ⟨_, _, vs, _, o, dd, ep, ho, hc, _⟩ := z
    exact ⟨"dict", by decide, o, ho, hc.1⟩
  | ins na hs hk hl _ => exact absurd rfl (hb _ _ _)
  | lt na hs hl _ =>
    cases r
    obtain ⟨its, _, pl, _⟩ := I.list (.of hs)
    exact ⟨"list", by decide, pl.isList.typeIs⟩
  | gen => cases nx
  | scr => cases nx
  | exc => cases nx
theorem op_eqO (F : EqF X.K c) (G : MetO X.prog X.w X.K X.mg X.base k c "__eq__" ["self", "other"] (spD X.K m)) (hr : Room k X.A) (tk : Dc.TkE X E) : OpR X (compareOp .Eq) (rEqO X.K c m) := by
  intro pins s σ H x y v u Q I rx ry h
  obtain ⟨N, dx, dy, ks, vs, b, al, hx, hy, nxx, nxy, hc, q⟩ := h
  obtain ⟨fd, G, hb⟩ := G.ex
  have hu := hr.units0
  obtain ⟨mF, hF⟩ := I.fr
  have run : ∀ (p q : V) (pv qv : Value) (dp dq : Da), RelV p pv → RelV q qv → DV X.K H N p dp → DV X.K H N q dq → m [dp, dq] = .ok (.bl b) → wpAny (model X.prog X.w) X.A (call (.ref (He.ma X.K (He.ga X.K c) "__eq__")) [pv, qv]) (PySem.W.CmpBack (EP X pins σ Q)) X.xe s := fun p q' pv qv dp dq rp rq hp hq em => by
    refine wpAny_mono (run_fn (us := [pv, qv]) (vs := [p, q']) (dvs := []) (ds := []) G hr hb .nil (passT tk) I (.cons rp (.cons rq .nil)) (Q := fun v H' => v = .bl b ∧ ∃ N', Grow N H N' H') ?_) (fun r s' z => ?_) fun _ _ e => e
    · exact ⟨N, [dp, dq], al, .cons hp (.cons hq .nil), Wn.okk em fun N' H' g v hv => ⟨hv.bl_inv, N', g⟩⟩
    · obtain ⟨v, H', I', rv, ev, N', sm⟩ := z
      subst ev
      cases rv
      exact back_of ⟨.bl b, H', I', rfl, q N' H' sm⟩
  show wpAny (model X.prog X.w) X.A (richCompare .Eq v u) (EP X pins σ Q) X.xe s
  rcases hc with ⟨rfl, ho, em⟩ | ⟨rfl, ho, em⟩
  · obtain ⟨a, da, fs, ex, _, ha, _⟩ := hx.ins_inv
    subst ex
    cases rx
    obtain ⟨mA, J, _⟩ := ins_get I.hok ha
    obtain ⟨od, J, _⟩ := J.look
    have rn := run (.ref a) y (.ref a) _ _ _ rfl ry hx hy em
    cases dy with
    | ins c' ks' vs' =>
      cases ho c' ks' vs' rfl
      obtain ⟨a2, da2, fs2, ex2, _, ha2, _⟩ := hy.ins_inv
      subst ex2
      cases ry
      obtain ⟨mA2, J2, _⟩ := ins_get I.hok ha2
      obtain ⟨od2, J2, _⟩ := J2.look
      exact PySem.W.cmp_K (op := .Eq) (tb := .ref (He.ga X.K c)) hu hF I.ok.mod.kin J J2.type (by simp [PySem.W.notFirst]) F.me.at_ F.me.fn rn
    | _ =>
      obtain ⟨n, hn, ht⟩ := typ_of I hy ry (by intro c' ks' vs' z; cases z) nxy
      exact PySem.W.cmp_K (op := .Eq) (tb := .type n) hu hF I.ok.mod.kin J (looks_typ ht) (F.nf n hn) F.me.at_ F.me.fn rn
  · obtain ⟨a, da, fs, ex, _, ha, _⟩ := hy.ins_inv
    subst ex
    cases ry
    obtain ⟨mA, J0, _⟩ := ins_get I.hok ha
    obtain ⟨od, J, _⟩ := J0.look
    have rn := run (.ref a) x (.ref a) _ _ _ rfl rx hy hx em
    have X' := I.kIn
    have ob := J0.obj
    cases hx with
    | non =>
      cases rx
      exact left_own hu X' J (Ta := "NoneType") rfl (F.ty _ (by decide)) PySem.F.slot_NoneType_eq (fun Q' q => call_meets PySem.F.slot_NoneType_eq rfl PySem.F.entry_NoneType_eq (PySem.F.args_NoneType_eq_2 _ _) (none_own (K := X.K)) ⟨ob, X', q⟩) F.me.at_ F.me.fn rn
    | bl b' =>
      cases rx
      exact left_own hu X' J (Ta := "bool") rfl (F.ty _ (by decide)) PySem.F.slot_bool_eq (fun Q' q => call_meets PySem.F.slot_bool_eq rfl PySem.F.entry_int_eq (PySem.F.args_int_eq_2 _ _) (bool_own (K := X.K) b') ⟨ob, X', q⟩) F.me.at_ F.me.fn rn
    | int i =>
      obtain ⟨t, rfl⟩ := rx
      exact left_own hu X' J (typeIs_int s i t) (F.ty _ (by decide)) PySem.F.slot_int_eq (fun Q' q => call_meets PySem.F.slot_int_eq (typeIs_int s i t) PySem.F.entry_int_eq (PySem.F.args_int_eq_2 _ _) (int_own (K := X.K) i t) ⟨ob, X', q⟩) F.me.at_ F.me.fn rn
    | str z =>
      obtain ⟨t, rfl⟩ := rx
      exact left_own hu X' J (typeIs_str s z t) (F.ty _ (by decide)) PySem.F.slot_str_eq (fun Q' q => call_meets PySem.F.slot_str_eq (typeIs_str s z t) PySem.F.entry_str_eq (PySem.F.args_str_eq_2 _ _) (str_own (K := X.K) z t) ⟨ob, X', q⟩) F.me.at_ F.me.fn rn
    | lst na hs hl _ =>
      cases rx
      obtain ⟨its, _, ⟨⟨oc, odd, oda, osl⟩, n, ho, hc, hd, hdd⟩, _⟩ := I.list (.of hs)
      simp only at hc hdd
      subst hc hdd
      exact left_own hu X' J (Ta := "list") ⟨_, ho, rfl⟩ (F.ty _ (by decide)) PySem.F.slot_list_eq (fun Q' q => call_meets PySem.F.slot_list_eq ⟨_, ho, rfl⟩ PySem.F.entry_list_eq (PySem.F.args_list_eq_2 _ _) (list_own (K := X.K) (F.ty _ (by decide))) ⟨ho, ob, X', q⟩) F.me.at_ F.me.fn rn
    | tup hs hl _ =>
      cases rx
      obtain ⟨its, _, ⟨⟨oc, odd, oda, osl⟩, ho, hc, n, hdd⟩, _⟩ := I.tuple (hs.elim (fun q => .of q.2) .inr)
      simp only at hc hdd
      subst hc hdd
      exact left_own hu X' J (Ta := "tuple") ⟨_, ho, rfl⟩ (F.ty _ (by decide)) PySem.F.slot_tuple_eq (fun Q' q => call_meets PySem.F.slot_tuple_eq ⟨_, ho, rfl⟩ PySem.F.entry_tuple_eq (PySem.F.args_tuple_eq_2 _ _) (tup_own (K := X.K) (F.ty _ (by decide))) ⟨ho, ob, X', q⟩) F.me.at_ F.me.fn rn
    | dct na hs hk hl _ =>
      cases rx
      have z : ObjOk X.prog X.w H s.heap _ (.dK _) := I.hok _ _ hs
      obtain ⟨_, _, vs, _, ⟨oc, odd, oda, osl⟩, dd, ep, ho, hc, hd, _⟩ := z
      have hc1 := hc.1
      simp only at hc1 hd
      subst hc1 hd
      exact left_own hu X' J (Ta := "dict") ⟨_, ho, rfl⟩ (F.ty _ (by decide)) PySem.F.slot_dict_eq (fun Q' q => call_meets PySem.F.slot_dict_eq ⟨_, ho, rfl⟩ PySem.F.entry_dict_eq (PySem.F.args_dict_eq_2 _ _) (dict_own (K := X.K) (F.ty _ (by decide))) ⟨ho, ob, X', q⟩) F.me.at_ F.me.fn rn
    | ins na hs hk hl _ => exact absurd rfl (ho _ _ _)
    | lt na hs hl _ =>
      cases rx
      obtain ⟨its, _, ⟨⟨oc, odd, oda, osl⟩, n, ho, hc, hd, hdd⟩, _⟩ := I.list (.of hs)
      simp only at hc hdd
      subst hc hdd
      exact left_own hu X' J (Ta := "list") ⟨_, ho, rfl⟩ (F.ty _ (by decide)) PySem.F.slot_list_eq (fun Q' q => call_meets PySem.F.slot_list_eq ⟨_, ho, rfl⟩ PySem.F.entry_list_eq (PySem.F.args_list_eq_2 _ _) (list_own (K := X.K) (F.ty _ (by decide))) ⟨ho, ob, X', q⟩) F.me.at_ F.me.fn rn
    | gen => cases nxx
    | scr => cases nxx
    | exc => cases nxx
end
end L2.Dq
/-! == and != of own instances as operators over data -/
namespace L2.Dq
open PySem PySem.Spec PyProof.Rows PySem.W L2 L2.Fw L2.Dc
def okb : Ou Da → Option Bool
  | .ok (.bl b) => some b
  | _ => none
/-- is the data an instance, of which class -/
def insOf : Da → Option Str
  | .ins c _ _ => some c
  | _ => none
def eqo (c : Str) (m : List Da → Ou Da) (x y : Da) : Option Bool := if insOf x = some c then (if (insOf y = none ∨ insOf y = some c) ∧ noX y = true then okb (m [x, y]) else none) else if (insOf x = none ∧ insOf y = some c) ∧ noX x = true then okb (m [y, x]) else none
def neo (c : Str) (m : List Da → Ou Da) (x y : Da) : Option Bool := if (insOf x = some c ∧ (insOf y = none ∨ insOf y = some c)) ∧ noX y = true then (okb (m [x, y])).map (!·) else none
def eqO (c : Str) (m : List Da → Ou Da) : Da → Da → Option Da := fun x y => (eqo c m x y).map .bl
def neO (c : Str) (m : List Da → Ou Da) : Da → Da → Option Da := fun x y => (neo c m x y).map .bl
theorem okb_some {o : Ou Da} {b : Bool} (h : okb o = some b) : o = .ok (.bl b) := by
  unfold okb at h
  split at h
  · cases h
    rfl
  · cases h
theorem insOf_some {x : Da} {c : Str} (h : insOf x = some c) : ∃ ks vs, x = .ins c ks vs := by
  cases x <;> cases h
  exact ⟨_, _, rfl⟩
theorem insOf_none {x : Da} (h : insOf x = none) : ∀ c ks vs, x ≠ .ins c ks vs := fun c ks vs e => by
  subst e
  cases h
theorem do_eqO {K : Frag} {c : Str} {m : List Da → Ou Da} : DO K (rEqO K c m) (eqO c m) := by
  intro N H x y dx dy d Q al hx hy e q
  obtain ⟨b, e2, rfl⟩ := Option.map_eq_some_iff.mp e
  have fin : ∀ N' H', Grow N H N' H' → Q (.bl b) H' := fun N' H' g => q N' H' g _ (.bl b)
  unfold eqo at e2
  split at e2
  · rename_i h1
    split at e2
    · rename_i h2
      obtain ⟨ks, vs, rfl⟩ := insOf_some h1
      refine ⟨N, _, dy, ks, vs, b, al, hx, hy, rfl, h2.2, .inl ⟨rfl, fun c' ks' vs' z => ?_, okb_some e2⟩, fin⟩
      subst z
      rcases h2.1 with h2 | h2 <;> cases h2
      rfl
    · cases e2
  · split at e2
    · rename_i h2
      obtain ⟨ks, vs, rfl⟩ := insOf_some h2.1.2
      exact ⟨N, dx, _, ks, vs, b, al, hx, hy, h2.2, rfl, .inr ⟨rfl, insOf_none h2.1.1, okb_some e2⟩, fin⟩
    · cases e2
/-- the own != of two data -/
def rNeO (K : Frag) (c : Str) (m : List Da → Ou Da) : R2 := fun x y H Q => ∃ N dx dy ks vs b, Al N H ∧ DV K H N x dx ∧ DV K H N y dy ∧ noX dy = true ∧ dx = .ins c ks vs ∧ (∀ c' ks' vs', dy = .ins c' ks' vs' → c' = c) ∧ m [dx, dy] = .ok (.bl b) ∧ ∀ N' H', Grow N H N' H' → Q (.bl (!b)) H'
theorem do_neO {K : Frag} {c : Str} {m : List Da → Ou Da} : DO K (rNeO K c m) (neO c m) := by
  intro N H x y dx dy d Q al hx hy e q
  obtain ⟨b, e2, rfl⟩ := Option.map_eq_some_iff.mp e
  unfold neo at e2
  split at e2
  · rename_i h1
    obtain ⟨b', e3, rfl⟩ := Option.map_eq_some_iff.mp e2
    obtain ⟨ks, vs, rfl⟩ := insOf_some h1.1.1
    refine ⟨N, _, dy, ks, vs, b', al, hx, hy, h1.2, rfl, fun c' ks' vs' z => ?_, okb_some e3, fun N' H' g => q N' H' g _ (.bl _)⟩
    subst z
    rcases h1.1.2 with h2 | h2 <;> cases h2
    rfl
  · cases e2
/-- the class has object's != -/
structure NeF (K : Frag) (c : Str) : Prop where
  ne : findIn K (.ref (He.ga K c)) "__ne__" = some (some (.builtin "object.__ne__"))
  ob : subIn K (.ref (He.ga K c)) (.type "object") = some true
def nefB (K : Frag) (c : Str) : Bool := decide (findIn K (.ref (He.ga K c)) "__ne__" = some (some (.builtin "object.__ne__"))) && decide (subIn K (.ref (He.ga K c)) (.type "object") = some true)
theorem nefB_ok {K : Frag} {c : Str} (h : nefB K c = true) : NeF K c := by
  unfold nefB at h
  simp only [Bool.and_eq_true, decide_eq_true_eq] at h
  exact ⟨h.1, h.2⟩
section
variable {X : Cx} {c : Str} {k : Nat} {m : List Da → Ou Da}
theorem run_in1 {pins : List (Addr × Obj)} {σ : St} {H : Hp} {s : Shared} {f : Addr} {fd : FuncData} {ps : List Str} {sp : Sp} {Q : VK} {us : List Value} {vs : List V} (F : FnOk X.prog X.w X.K X.mg X.base (L2.CX X.prog X.w) k f fd ps sp) (hr : Room (k + 1) X.A) (hb : Binds X.K fd ps [])
    (I : Inv X pins σ H s) (r : Vals vs us) (h : sp vs H Q E0) : wpAny (model X.prog X.w) X.A.in1 (call (.ref f) us) (EP X pins σ Q) X.xe s := by
  have hl : us.length = ps.length := by rw [← r.length]; exact F.len _ _ _ _ h
  have b := hb s us I.kIn (by rw [List.append_nil]; exact hl)
  rw [List.append_nil] at b
  refine wpAny_call (codeAny_mono (F.run X.A.in1 X.stack s H ⟨us, []⟩ us vs Q E0 hr.in1 I.env0.in1 b r h) fun z s' hq => ?_)
  cases z with
  | error er => exact passL (X := X) pins σ H s er s' I hq
  | ok fl => cases fl with
    | ret u => exact I.after hq
    | _ => exact False.elim hq
theorem op_neO (F : EqF X.K c) (F2 : NeF X.K c) (G : MetO X.prog X.w X.K X.mg X.base k c "__eq__" ["self", "other"] (spD X.K m)) (hr : Room (k + 1) X.A) : OpR X (compareOp .NotEq) (rNeO X.K c m) := by
  intro pins s σ H x y v u Q I rx ry h
  obtain ⟨N, dx, dy, ks, vs, b, al, hx, hy, nxy, rfl, ho, em, q⟩ := h
  obtain ⟨fd, G, hb⟩ := G.ex
  have hu : X.A.units + 1 < cLine := by have := hr.units; omega
  obtain ⟨mF, hF⟩ := I.fr
  show wpAny (model X.prog X.w) X.A (richCompare .NotEq v u) (EP X pins σ Q) X.xe s
  obtain ⟨a, da, fs, ex, _, ha, _⟩ := hx.ins_inv
  subst ex
  cases rx
  obtain ⟨mA, J, _⟩ := ins_get I.hok ha
  obtain ⟨od, J, _⟩ := J.look
  have rn : wpAny (model X.prog X.w) X.A.in1 (call (.ref (He.ma X.K (He.ga X.K c) "__eq__")) [.ref a, u]) (fun v s' => ∃ r, v = .bool r ∧ EP X pins σ Q (.bool (!r)) s') X.xe s := by
    refine wpAny_mono (run_in1 (us := [.ref a, u]) (vs := [.ref a, y]) G hr hb I (.cons rfl (.cons ry .nil)) (Q := fun v H' => v = .bl b ∧ ∃ N', Grow N H N' H') ?_) (fun r s' z => ?_) fun _ _ e => e
    · exact ⟨N, [.ins c ks vs, dy], al, .cons hx (.cons hy .nil), Wn.okk em fun N' H' g v hv => ⟨hv.bl_inv, N', g⟩⟩
    · obtain ⟨v, H', I', rv, ev, N', sm⟩ := z
      subst ev
      cases rv
      exact ⟨b, rfl, .bl (!b), H', I', rfl, q N' H' sm⟩
  cases dy with
  | ins c' ks' vs' =>
    cases ho c' ks' vs' rfl
    obtain ⟨a2, da2, fs2, ex2, _, ha2, _⟩ := hy.ins_inv
    subst ex2
    cases ry
    obtain ⟨mA2, J2, _⟩ := ins_get I.hok ha2
    obtain ⟨od2, J2, _⟩ := J2.look
    exact ne_K hu hF I.ok.mod.kin J (J2.type) (by simp [PySem.W.notFirst]) F2.ne F2.ob F.me.at_ F.me.fn rn
  | _ =>
    obtain ⟨n, hn, ht⟩ := typ_of I hy ry (by intro c' ks' vs' z; cases z) nxy
    exact ne_K hu hF I.ok.mod.kin J (looks_typ ht) (F.nf n hn) F2.ne F2.ob F.me.at_ F.me.fn rn
theorem op_eqO' (F : EqF X.K c) (G : MetO X.prog X.w X.K X.mg X.base k c "__eq__" ["self", "other"] (spD X.K m)) (hr : Room k X.A) : OpR X (compareOp .Eq) (rEqO X.K c m) := op_eqO (E := E0) F G hr takes0
/-- == of any data -/
def rEqY (K : Frag) (c : Str) (m : List Da → Ou Da) : R2 := fun x y H Q => rEqX K x y H Q ∨ rEqO K c m x y H Q
theorem op_eqY {j : Nat} (F : EqF X.K c) (G : MetO X.prog X.w X.K X.mg X.base k c "__eq__" ["self", "other"] (spD X.K m)) (hr : Room j X.A) (hk : k ≤ j := by decide) : OpR X (compareOp .Eq) (rEqY X.K c m) := (op_eqX hr.units).or (op_eqO' F G (hr.mono hk))
theorem do_eqY {K : Frag} : DO K (rEqY K c m) (els eqX (eqO c m)) := do_eqX.els do_eqO
def rNeY (K : Frag) (c : Str) (m : List Da → Ou Da) : R2 := fun x y H Q => rNeX K x y H Q ∨ rNeO K c m x y H Q
theorem op_neY {j : Nat} (F : EqF X.K c) (F2 : NeF X.K c) (G : MetO X.prog X.w X.K X.mg X.base k c "__eq__" ["self", "other"] (spD X.K m)) (hr : Room j X.A) (hk : k + 1 ≤ j := by decide) : OpR X (compareOp .NotEq) (rNeY X.K c m) := (op_neX hr.units).or (op_neO F F2 G (hr.mono hk))
theorem do_neY {K : Frag} : DO K (rNeY K c m) (els neX (neO c m)) := do_neX.els do_neO
end
end L2.Dq
/-! draws, new dicts -/
namespace L2.Dc
open PySem PySem.Spec PyProof.Rows L2.Fw
section
variable {K : PySem.W.Frag} {E : XK} {ts : TA} {gs : En' → Ou (List Da)}
def gGenr (gs : En' → Ou (List Da)) : En' → Ou Da := fun ρ => (gs ρ).bind fun ds => match ds with
  | [.scr, .int i] => if 0 ≤ i ∧ i < 1000 then .ok .gen else .bad
  | _ => .bad
theorem scr_sq {H : Hp} {N : Rg} {v : V} (h : DV K H N v .scr) : ∃ (l : Addr) (ns : List Int), v = .ref l ∧ SqL K H l (ns.map V.int) := by
  cases h with
  | scr hs => exact ⟨_, _, rfl, hs.elim (fun ⟨o, q1, q2⟩ => .inl (.inr ⟨o, q2⟩)) .inr⟩
def Rg.addG (N : Rg) (p : Addr) : Rg := ⟨N.n, fun a => N.g a ∨ a = p, N.b⟩
theorem Grow.newG {N : Rg} {H : Hp} {p : Addr} {o : HO} (al : Al N H) (h : H p = none) (g : GnO N.b o) : Grow N H (N.addG p) (upd H p o) := by
  refine ⟨⟨fun a u e _ => same_new (Same.refl _) h a u e, fun _ h => h, fun _ h => .inl h, fun _ h => .inl h, fun a q => q.imp id fun e => by rw [e]; exact h, Nat.le_refl _, ⟨(al.up h o).n, fun a q => ?_, fun a q n => ?_⟩⟩, rfl⟩
  · rcases q with q | rfl
    · exact (al.up h o).g a q
    · exact ⟨o, upd_same, g⟩
  · rcases q with q | rfl
    · exact al.d a q n
    · exact al.n a n h
theorem de_genr {X : St → XK} (hr : DAr K E ts gs) : DE K E (tCallX (sp_law_generator K) X ts) (gGenr gs) := by
  intro N ρ σ H Q en w
  refine hr N ρ σ H _ en (w.bind.mono fun ds N1 H1 g1 w1 vs hv => ?_)
  split at w1
  · split at w1
    · rename_i i hi
      obtain ⟨v, u, rfl, h1, h2⟩ := hv.two
      obtain ⟨l, ns, rfl, hs⟩ := scr_sq h1
      cases h2.int_inv
      refine ⟨l, ns, i, rfl, hs, hi.1, hi.2, fun p a b np a0 a1 b0 b1 => ?_⟩
      exact w1.now (.newG g1.al np ⟨a, b, 1000 * i, rfl, a0, a1, b0, b1, by omega, by omega⟩) _ (.gen (.inr rfl))
    · exact w1.ng
  · exact w1.ng
def gRand (gs : En' → Ou (List Da)) : En' → Ou Da := fun ρ => (gs ρ).bind fun ds => match ds with
  | [.gen, .int n] => if 1 ≤ n ∧ n < 1000000 then .any n.toNat fun i => .ok (.int i) else .bad
  | _ => .bad
theorem de_rand {X : St → XK} (hr : DAr K E ts gs) : DE K E (tCallX (sp_law_random K) X ts) (gRand gs) := by
  intro N ρ σ H Q en w
  refine hr N ρ σ H _ en (w.bind.mono fun ds N1 H1 g1 w1 vs hv => ?_)
  split at w1
  · split at w1
    · rename_i n hn
      obtain ⟨v, u, rfl, h1, h2⟩ := hv.two
      cases h2.int_inv
      cases h1 with
      | gen hg =>
        rename_i p
        obtain ⟨o, ho, a, b, c, rfl, a0, a1, b0, b1, c0, c1⟩ := g1.al.g p hg
        obtain ⟨hb, w2⟩ := w1
        refine ⟨p, a, b, c, n, rfl, ho, a0, a1, b0, b1, c0, by omega, hn.1, by omega, fun d a' c' d0 d1 a0' a1' c0' c1' => ?_⟩
        obtain ⟨k, rfl⟩ := Int.eq_ofNat_of_zero_le d0
        have hk : k < n.toNat := by omega
        refine w2 k hk ⟨N1.n, N1.g, N1.b + 1⟩ _ ⟨fun x u e ng => ?_, fun _ h => h, fun _ h => h, fun _ h => .inl h, fun _ h => .inl h, Nat.le_succ _, ⟨fun x h => ?_, fun x h => ?_, g1.al.d⟩⟩ rfl _ (.int _)
        · rw [upd_ne (fun z => ng (by rw [z]; exact hg))]
          exact e
        · by_cases z : x = p
          · rw [z, upd_same]; simp
          · rw [upd_ne z]
            exact g1.al.n x h
        · by_cases z : x = p
          · rw [z]
            exact ⟨_, upd_same, a', b, c', rfl, a0', a1', b0, b1, by omega, by push_cast; omega⟩
          · rw [upd_ne z]
            obtain ⟨u, e, gn⟩ := g1.al.g x h
            exact ⟨u, e, gn.mono (Nat.le_succ _)⟩
    · exact w1.ng
  · exact w1.ng
theorem de_dnew : DE K E tDNewK (gC (.dct [] [])) := by
  intro N ρ σ H Q en w p np
  refine w.now (N' := N.add p) (.new en.al np _) _ (.dct (.inr rfl) upd_same rfl rfl fun i p d e => by simp at e)
end
end L2.Dc
namespace L2.Dc.K20
open PySem PySem.Spec PyProof.Rows L2.Fw

def top (i : Nat) : Stmt := PySem.Challenge.pw_tickcounts_k20_rules_made.main.body.getD i (.Pass ⟨0, 0, 0, 0⟩)
abbrev s_InvalidWord_init : Stmt := inClass (top 2) 0
theorem sc_InvalidWord_init : FnScope ["self", "value"] ["self", "value"] (defScope s_InvalidWord_init) := ⟨rfl, rfl, rfl, by decide +kernel, rfl, by decide +kernel, by decide +kernel⟩
def d_InvalidWord_init : He.DefD := ⟨("InvalidWord", some "__init__"), "__init__", "InvalidWord.__init__", defArgs s_InvalidWord_init, defBody s_InvalidWord_init, defScope s_InvalidWord_init, [.non], []⟩
abbrev s_Rule_init : Stmt := inClass (top 7) 0
theorem sc_Rule_init : FnScope ["self", "own", "others", "bears", "counts", "less"] ["self", "own", "others", "bears", "counts", "less"] (defScope s_Rule_init) := ⟨rfl, rfl, rfl, by decide +kernel, rfl, by decide +kernel, by decide +kernel⟩
def d_Rule_init : He.DefD := ⟨("Rule", some "__init__"), "__init__", "Rule.__init__", defArgs s_Rule_init, defBody s_Rule_init, defScope s_Rule_init, [], []⟩
abbrev s_Rule_eq : Stmt := inClass (top 7) 1
theorem sc_Rule_eq : FnScope ["self", "other"] ["self", "other"] (defScope s_Rule_eq) := ⟨rfl, rfl, rfl, by decide +kernel, rfl, by decide +kernel, by decide +kernel⟩
def d_Rule_eq : He.DefD := ⟨("Rule", some "__eq__"), "__eq__", "Rule.__eq__", defArgs s_Rule_eq, defBody s_Rule_eq, defScope s_Rule_eq, [], []⟩
abbrev s_need_word : Stmt := top 8
theorem sc_need_word : FnScope ["value", "fits"] ["value", "fits"] (defScope s_need_word) := ⟨rfl, rfl, rfl, by decide +kernel, rfl, by decide +kernel, by decide +kernel⟩
def d_need_word : He.DefD := ⟨("need_word", none), "need_word", "need_word", defArgs s_need_word, defBody s_need_word, defScope s_need_word, [], []⟩
abbrev s_law_cell : Stmt := top 10
theorem sc_law_cell : FnScope ["script", "index"] ["script", "index"] (defScope s_law_cell) := ⟨rfl, rfl, rfl, by decide +kernel, rfl, by decide +kernel, by decide +kernel⟩
def d_law_cell : He.DefD := ⟨("_law_cell", none), "_law_cell", "_law_cell", defArgs s_law_cell, defBody s_law_cell, defScope s_law_cell, [], []⟩
abbrev s_law_hash : Stmt := top 11
theorem sc_law_hash : FnScope ["seed", "index", "mixed"] ["seed", "index"] (defScope s_law_hash) := ⟨rfl, rfl, rfl, by decide +kernel, rfl, by decide +kernel, by decide +kernel⟩
def d_law_hash : He.DefD := ⟨("_law_hash", none), "_law_hash", "_law_hash", defArgs s_law_hash, defBody s_law_hash, defScope s_law_hash, [], []⟩
abbrev s_law_generator : Stmt := top 12
theorem sc_law_generator : FnScope ["script", "index", "seed"] ["script", "index"] (defScope s_law_generator) := ⟨rfl, rfl, rfl, by decide +kernel, rfl, by decide +kernel, by decide +kernel⟩
def d_law_generator : He.DefD := ⟨("_law_generator", none), "_law_generator", "_law_generator", defArgs s_law_generator, defBody s_law_generator, defScope s_law_generator, [], []⟩
abbrev s_law_random : Stmt := top 13
theorem sc_law_random : FnScope ["generator", "bound", "drawn", "turn"] ["generator", "bound"] (defScope s_law_random) := ⟨rfl, rfl, rfl, by decide +kernel, rfl, by decide +kernel, by decide +kernel⟩
def d_law_random : He.DefD := ⟨("_law_random", none), "_law_random", "_law_random", defArgs s_law_random, defBody s_law_random, defScope s_law_random, [], []⟩
abbrev s_law_rule_parts : Stmt := top 14
theorem sc_law_rule_parts : FnScope ["generator", "own", "others", "counts"] ["generator"] (defScope s_law_rule_parts) := ⟨rfl, rfl, rfl, by decide +kernel, rfl, by decide +kernel, by decide +kernel⟩
def d_law_rule_parts : He.DefD := ⟨("_law_rule_parts", none), "_law_rule_parts", "_law_rule_parts", defArgs s_law_rule_parts, defBody s_law_rule_parts, defScope s_law_rule_parts, [], []⟩
abbrev s_law_made_rule : Stmt := top 15
theorem sc_law_made_rule : FnScope ["words"] ["words"] (defScope s_law_made_rule) := ⟨rfl, rfl, rfl, by decide +kernel, rfl, by decide +kernel, by decide +kernel⟩
def d_law_made_rule : He.DefD := ⟨("_law_made_rule", none), "_law_made_rule", "_law_made_rule", defArgs s_law_made_rule, defBody s_law_made_rule, defScope s_law_made_rule, [], []⟩
abbrev s_law_all_rules : Stmt := top 16
theorem sc_law_all_rules : FnScope ["found", "own", "others", "bears", "counts", "less"] [] (defScope s_law_all_rules) := ⟨rfl, rfl, rfl, by decide +kernel, rfl, by decide +kernel, by decide +kernel⟩
def d_law_all_rules : He.DefD := ⟨("_law_all_rules", none), "_law_all_rules", "_law_all_rules", defArgs s_law_all_rules, defBody s_law_all_rules, defScope s_law_all_rules, [], []⟩
abbrev s_law_caught : Stmt := top 17
theorem sc_law_caught : FnScope ["words", "caught", "error"] ["words"] (defScope s_law_caught) := ⟨rfl, rfl, rfl, by decide +kernel, rfl, by decide +kernel, by decide +kernel⟩
def d_law_caught : He.DefD := ⟨("_law_caught", none), "_law_caught", "_law_caught", defArgs s_law_caught, defBody s_law_caught, defScope s_law_caught, [], []⟩
abbrev s_law : Stmt := top 18
theorem sc_law : FnScope ["script", "every", "rules", "at", "index", "rule", "twin", "words", "thing", "odd", "bad", "other"] ["script"] (defScope s_law) := ⟨rfl, rfl, rfl, by decide +kernel, rfl, by decide +kernel, by decide +kernel⟩
def d_law : He.DefD := ⟨("law", none), "law", "law", defArgs s_law, defBody s_law, defScope s_law, [], []⟩
def fn : List He.DefD := [d_InvalidWord_init, d_Rule_init, d_Rule_eq, d_need_word, d_law_cell, d_law_hash, d_law_generator, d_law_random, d_law_rule_parts, d_law_made_rule, d_law_all_rules, d_law_caught, d_law]
def exs : List Str := ["InvalidWord"]
def exV : List Str := ["InvalidWord"]
def exN : List Str := []
def gls : List Str := ["TickError", "InvalidWord", "Rule", "need_word", "_law_cell", "_law_hash", "_law_generator", "_law_random", "_law_rule_parts", "_law_made_rule", "_law_all_rules", "_law_caught", "law"]
def frs : List Str := ["len", "int", "max", "range", "isinstance", "list", "dict", "repr", "ValueError", "tuple", "str", "zip", "enumerate", "all", "any", "sorted", "set", "bool", "min", "sum"]
def ownCls : List Str := ["Rule"]
def clsF : List (Str × List Str × List Str) := [("Rule", ["own", "others", "bears", "counts", "less"], ["__init__", "__eq__"])]
def knF : List (Str × Kn) := [("OWN", .kt ["keep", "leave", "add", "only"]), ("OTHERS", .kt ["keep", "leave"]), ("COUNTS", .kt ["things", "models"])]
def chk2 (K : PySem.W.Frag) : Bool := Dq.eqfB K "Rule" && Dq.nefB K "Rule" && decide (PySem.W.exmOne K (.ref (He.ga K "InvalidWord")) (.ref (He.ga K "TickError")) = some true) && decide (PySem.W.kitOne K (.ref (He.ga K "InvalidWord")) (.ref (He.ga K "InvalidWord")) = some true)
def chk (K : PySem.W.Frag) : Bool := (gls.all fun x => decide (PySem.W.nsIn K mainGlobals x = some (some (.ref (He.ga K x))))) && (frs.all fun x => decide (PySem.W.nsIn K mainGlobals x = some none)) && (exV.all (xcB "value" K)) && (exN.all (xcB "name" K)) &&
  (clsF.all (clB K)) && okB K ownCls && (knF.all (knB K)) && chk2 K &&
  (match K.lookup sysModules with
   | some o => decide (o.cls = .type "dict")
   | none => false)
abbrev R : PySem.W.OpenRow := PySem.W.OpenLaw.row PySem.Challenge.rw_tickcounts_k20_rules_made
abbrev lawAt : Nat := 18
abbrev hk : PySem.W.Hook := hookK 5 chk fn
def ob (s : PySem.W.SharedT) : He.AlD := obG 5 chk fn (HandSHeadRun.getT s)
theorem ob_eq (s : PySem.W.SharedT) : ob s = hk.obs s.abs := obG_eq (HandSHeadRun.getT_eq s)
def loose : List Str := ["TickError", "InvalidWord", "Rule", "need_word", "_law_cell", "_law_hash", "_law_generator", "_law_random", "_law_rule_parts", "_law_made_rule", "_law_all_rules", "_law_caught", "OWN", "OTHERS", "COUNTS"]
theorem run (w : World) : HandSHeadRun.RunEq R (PySem.W.view R.prog [lawAt]) hk ob 6000 loose w := by
  intro os
  kernel_rfl
end L2.Dc.K20
namespace L2.Dc.K20
open PySem PySem.Spec PyProof.Rows L2.Fw
structure Txt (P : Program) (w : World) (K : PySem.W.Frag) (mg : Str → Option Value) (base : Heap) : Prop where
  gl : ∀ x : Str, x ∈ gls → mg x = some (.ref (He.ga K x))
  fr : ∀ x : Str, x ∈ frs → mg x = none
  sm : SM K
  ck2 : chk2 K = true
  x_InvalidWord : XC P w K mg base "InvalidWord" "value" (He.ga K "InvalidWord") 1
  c_Rule : ClF K "Rule" ["own", "others", "bears", "counts", "less"] ["__init__", "__eq__"]
  o_Rule : OwnK K ownCls "Rule"
  k_OWN : Cn K mg "OWN" (.tup [.str "keep", .str "leave", .str "add", .str "only"])
  k_OTHERS : Cn K mg "OTHERS" (.tup [.str "keep", .str "leave"])
  k_COUNTS : Cn K mg "COUNTS" (.tup [.str "things", .str "models"])
  f_Rule_init : ∃ fd, FunD K "__init__" "Rule.__init__" (defArgs s_Rule_init) (defBody s_Rule_init) (defScope s_Rule_init) [] [] (He.ma K (He.ga K "Rule") "__init__") fd
  f_Rule_eq : ∃ fd, FunD K "__eq__" "Rule.__eq__" (defArgs s_Rule_eq) (defBody s_Rule_eq) (defScope s_Rule_eq) [] [] (He.ma K (He.ga K "Rule") "__eq__") fd
  f_need_word : ∃ fd, FunD K "need_word" "need_word" (defArgs s_need_word) (defBody s_need_word) (defScope s_need_word) [] [] (He.ga K "need_word") fd
  f_law_cell : ∃ fd, FunD K "_law_cell" "_law_cell" (defArgs s_law_cell) (defBody s_law_cell) (defScope s_law_cell) [] [] (He.ga K "_law_cell") fd
  f_law_hash : ∃ fd, FunD K "_law_hash" "_law_hash" (defArgs s_law_hash) (defBody s_law_hash) (defScope s_law_hash) [] [] (He.ga K "_law_hash") fd
  f_law_generator : ∃ fd, FunD K "_law_generator" "_law_generator" (defArgs s_law_generator) (defBody s_law_generator) (defScope s_law_generator) [] [] (He.ga K "_law_generator") fd
  f_law_random : ∃ fd, FunD K "_law_random" "_law_random" (defArgs s_law_random) (defBody s_law_random) (defScope s_law_random) [] [] (He.ga K "_law_random") fd
  f_law_rule_parts : ∃ fd, FunD K "_law_rule_parts" "_law_rule_parts" (defArgs s_law_rule_parts) (defBody s_law_rule_parts) (defScope s_law_rule_parts) [] [] (He.ga K "_law_rule_parts") fd
  f_law_made_rule : ∃ fd, FunD K "_law_made_rule" "_law_made_rule" (defArgs s_law_made_rule) (defBody s_law_made_rule) (defScope s_law_made_rule) [] [] (He.ga K "_law_made_rule") fd
  f_law_all_rules : ∃ fd, FunD K "_law_all_rules" "_law_all_rules" (defArgs s_law_all_rules) (defBody s_law_all_rules) (defScope s_law_all_rules) [] [] (He.ga K "_law_all_rules") fd
  f_law_caught : ∃ fd, FunD K "_law_caught" "_law_caught" (defArgs s_law_caught) (defBody s_law_caught) (defScope s_law_caught) [] [] (He.ga K "_law_caught") fd
  f_law : ∃ fd, FunD K "law" "law" (defArgs s_law) (defBody s_law) (defScope s_law) [] [] (He.ga K "law") fd
section
variable {P : Program} {w : World} {K : PySem.W.Frag} {mg : Str → Option Value} {base : Heap} {h : Heap}
theorem txt (X : K.In h) (G : h.Ns mainGlobals mg) (c : SayK chk fn K) : Txt P w K mg base := by
  have k := c.ok
  unfold chk at k
  simp only [Bool.and_eq_true, List.all_eq_true, decide_eq_true_eq] at k
  obtain ⟨⟨⟨⟨⟨⟨⟨⟨k1, k2⟩, k3⟩, k4⟩, k5⟩, k6⟩, k7⟩, k8⟩, k9⟩ := k
  have kc : ∀ x ∈ ownCls, CI K (He.ga K x) := fun x m => by
    simp only [ownCls, List.mem_cons, List.not_mem_nil, or_false] at m
    rcases m with rfl
    · exact (clB_ok (k5 _ (List.mem_of_getElem? (i := 0) rfl))).ci
  refine { gl := fun x m => PySem.W.mg_of X G (k1 x m), fr := fun x m => PySem.W.mg_none_of X G (k2 x m), sm := ?_, ck2 := k8, x_InvalidWord := ?x_InvalidWord, c_Rule := clB_ok (k5 _ (List.mem_of_getElem? (i := 0) rfl)), o_Rule := okB_ok k6 kc (by decide), k_OWN := ?k_OWN, k_OTHERS := ?k_OTHERS, k_COUNTS := ?k_COUNTS, f_Rule_init := c.fd 1 (d := d_Rule_init) rfl, f_Rule_eq := c.fd 2 (d := d_Rule_eq) rfl, f_need_word := c.fd 3 (d := d_need_word) rfl, f_law_cell := c.fd 4 (d := d_law_cell) rfl, f_law_hash := c.fd 5 (d := d_law_hash) rfl, f_law_generator := c.fd 6 (d := d_law_generator) rfl, f_law_random := c.fd 7 (d := d_law_random) rfl, f_law_rule_parts := c.fd 8 (d := d_law_rule_parts) rfl, f_law_made_rule := c.fd 9 (d := d_law_made_rule) rfl, f_law_all_rules := c.fd 10 (d := d_law_all_rules) rfl, f_law_caught := c.fd 11 (d := d_law_caught) rfl, f_law := c.fd 12 (d := d_law) rfl }
  · split at k9
    · rename_i o ho
      exact ⟨o, ho, of_decide_eq_true k9⟩
    · cases k9
  case x_InvalidWord =>
    obtain ⟨fd, F⟩ := c.fd 0 (d := d_InvalidWord_init) rfl
    exact xc_value X G (k3 "InvalidWord" (by decide)) F sc_InvalidWord_init
  case k_OWN =>
    obtain ⟨u, v, h1, h2, h3⟩ := knB_ok (k7 _ (List.mem_of_getElem? (i := 0) rfl))
    exact ⟨u, v, PySem.W.mg_of X G h1, h2, h3⟩
  case k_OTHERS =>
    obtain ⟨u, v, h1, h2, h3⟩ := knB_ok (k7 _ (List.mem_of_getElem? (i := 1) rfl))
    exact ⟨u, v, PySem.W.mg_of X G h1, h2, h3⟩
  case k_COUNTS =>
    obtain ⟨u, v, h1, h2, h3⟩ := knB_ok (k7 _ (List.mem_of_getElem? (i := 2) rfl))
    exact ⟨u, v, PySem.W.mg_of X G h1, h2, h3⟩
theorem Txt.ck (T : Txt P w K mg base) : ((Dq.eqfB K "Rule" = true ∧ Dq.nefB K "Rule" = true) ∧ PySem.W.exmOne K (.ref (He.ga K "InvalidWord")) (.ref (He.ga K "TickError")) = some true) ∧ PySem.W.kitOne K (.ref (He.ga K "InvalidWord")) (.ref (He.ga K "InvalidWord")) = some true := by
  have h := T.ck2
  unfold chk2 at h
  simpa only [Bool.and_eq_true, decide_eq_true_eq] using h
theorem Txt.q_Rule (T : Txt P w K mg base) : Dq.EqF K "Rule" := Dq.eqfB_ok T.ck.1.1.1 T.c_Rule (by decide)
theorem Txt.n_Rule (T : Txt P w K mg base) : Dq.NeF K "Rule" := Dq.nefB_ok T.ck.1.1.2
theorem Txt.xm (T : Txt P w K mg base) : PySem.W.exmOne K (.ref (He.ga K "InvalidWord")) (.ref (He.ga K "TickError")) = some true := T.ck.1.2
theorem Txt.xk (T : Txt P w K mg base) : PySem.W.kitOne K (.ref (He.ga K "InvalidWord")) (.ref (He.ga K "InvalidWord")) = some true := T.ck.2
end
end L2.Dc.K20
namespace L2.Dc.K20
open PySem PySem.Spec PyProof.Rows L2.Fw
section
variable {P : Program} {w : World} {K : PySem.W.Frag} {mg : Str → Option Value} {base : Heap}
def b_need_word : Es → Fl := gIfS (bNot (gTr (gVar 1))) (gRz "InvalidWord" (gVar 0)) (gNx)
def m_need_word : List Da → Ou Da := mDef 2 2 b_need_word
theorem ok_need_word (T : Txt P w K mg base) : CalO P w K mg base 3 "need_word" ["value", "fits"] (spD K m_need_word) := by
  obtain ⟨fd, F⟩ := T.f_need_word
  refine ⟨_, fd, okT (P := P) (w := w) (mg := mg) (base := base) (k := 2) F sc_need_word (fun vs H Q E h => spD_len h) (fun cdv A outer s H vs Q E hr tk h => ?_), T.gl "need_word" (by decide), F.kp, F.bindsN fun _ _ _ _ _ _ us hl => match us, hl with | [_, _], _ => rfl⟩
  have hr2 := hr.mono (j := 2) (by decide)
  exact ⟨_, pss_one (ps_if (pt_not (pt_truth (pv 1) (by intro _; rfl))) (pss_one (ps_rz (c := "InvalidWord") T.x_InvalidWord rfl (by decide +kernel) hr2 tk rfl rfl (pa_cons (pv 0) pa_nil))) (pss_nil)),
    spD_run (M := ["value", "fits"]) (ds_if (dt_not (dt_tru (de_var 1))) (ds_raise (de_var 0)) (ds_nil)) h⟩
def b_Rule_init : Es → Fl := gSeq (gDrop (gCall m_need_word (fCons (gVar 1) (fCons (gOp inX (gVar 1) (gC (.tup [.str "keep", .str "leave", .str "add", .str "only"]))) fNil))))
    (gSeq (gDrop (gCall m_need_word (fCons (gVar 2) (fCons (gOp inX (gVar 2) (gC (.tup [.str "keep", .str "leave"]))) fNil))))
    (gSeq (gDrop (gCall m_need_word (fCons (gVar 3) (fCons (gIs (isT "bool") (gVar 3)) fNil))))
    (gSeq (gDrop (gCall m_need_word (fCons (gVar 4) (fCons (gOp inX (gVar 4) (gC (.tup [.str "things", .str "models"]))) fNil))))
    (gSeq (gDrop (gCall m_need_word (fCons (gVar 5) (fCons (gIs (isT "bool") (gVar 5)) fNil))))
    (gSeq (gFldS "Rule" "own" (gVar 1))
    (gSeq (gFldS "Rule" "others" (gVar 2))
    (gSeq (gFldS "Rule" "bears" (gVar 3))
    (gSeq (gFldS "Rule" "counts" (gVar 4))
    (gFldS "Rule" "less" (gVar 5))))))))))
def m_Rule_init : List Da → Ou (List Str × List Da) := mIni 6 6 "Rule" b_Rule_init
theorem ok_Rule_init (T : Txt P w K mg base) : MetO P w K mg base 4 "Rule" "__init__" ["self", "own", "others", "bears", "counts", "less"] (spI K "Rule" m_Rule_init) := by
  obtain ⟨fd, F⟩ := T.f_Rule_init
  refine ⟨fd, okT (P := P) (w := w) (mg := mg) (base := base) (k := 3) F sc_Rule_init (fun vs H Q E h => spI_len h) (fun cdv A outer s H vs Q E hr tk h => ?_), F.bindsN fun _ _ _ _ _ _ us hl => match us, hl with | [_, _, _, _, _, _], _ => rfl⟩
  have hv := units65 hr
  exact ⟨_, pss_cons (ps_expr (pe_callT (E := E) (ok_need_word T) hr tk rfl (pa_cons (pv 1) (pa_cons (pe_cmpR (op_inX hv) (pv 1) (pe_cn rfl (T.k_OWN)) (by rfl)) pa_nil))))
      (pss_cons (ps_expr (pe_callT (E := E) (ok_need_word T) hr tk rfl (pa_cons (pv 2) (pa_cons (pe_cmpR (op_inX hv) (pv 2) (pe_cn rfl (T.k_OTHERS)) (by rfl)) pa_nil))))
      (pss_cons (ps_expr (pe_callT (E := E) (ok_need_word T) hr tk rfl (pa_cons (pv 3) (pa_cons (pe_callB call_isi rfl (T.fr "isinstance" (by decide)) (by decide +kernel) (pa_cons (pv 3) (pa_cons (pe_bltn (v := .ty "bool") rfl (T.fr "bool" (by decide)) PyProof.Rows.Boot.«bool» rfl) pa_nil))) pa_nil))))
      (pss_cons (ps_expr (pe_callT (E := E) (ok_need_word T) hr tk rfl (pa_cons (pv 4) (pa_cons (pe_cmpR (op_inX hv) (pv 4) (pe_cn rfl (T.k_COUNTS)) (by rfl)) pa_nil))))
      (pss_cons (ps_expr (pe_callT (E := E) (ok_need_word T) hr tk rfl (pa_cons (pv 5) (pa_cons (pe_callB call_isi rfl (T.fr "isinstance" (by decide)) (by decide +kernel) (pa_cons (pv 5) (pa_cons (pe_bltn (v := .ty "bool") rfl (T.fr "bool" (by decide)) PyProof.Rows.Boot.«bool» rfl) pa_nil))) pa_nil))))
      (pss_cons (ps_fld (pv 0) (pv 1) rfl)
      (pss_cons (ps_fld (pv 0) (pv 2) rfl)
      (pss_cons (ps_fld (pv 0) (pv 3) rfl)
      (pss_cons (ps_fld (pv 0) (pv 4) rfl)
      (pss_one (ps_fld (pv 0) (pv 5) rfl)))))))))),
    spI_run (M := ["self", "own", "others", "bears", "counts", "less"]) (by decide) (ds_seq (ds_drop (de_call (da_cons (de_var 1) (da_cons (de_op do_inX (de_var 1) (de_cn)) da_nil))))
      (ds_seq (ds_drop (de_call (da_cons (de_var 2) (da_cons (de_op do_inX (de_var 2) (de_cn)) da_nil))))
      (ds_seq (ds_drop (de_call (da_cons (de_var 3) (da_cons (de_is (.ty "bool") isT_ok (de_var 3)) da_nil))))
      (ds_seq (ds_drop (de_call (da_cons (de_var 4) (da_cons (de_op do_inX (de_var 4) (de_cn)) da_nil))))
      (ds_seq (ds_drop (de_call (da_cons (de_var 5) (da_cons (de_is (.ty "bool") isT_ok (de_var 5)) da_nil))))
      (ds_seq (ds_fldS T.c_Rule.ci.cl (T.c_Rule.na "own" (by decide)) (de_var 1))
      (ds_seq (ds_fldS T.c_Rule.ci.cl (T.c_Rule.na "others" (by decide)) (de_var 2))
      (ds_seq (ds_fldS T.c_Rule.ci.cl (T.c_Rule.na "bears" (by decide)) (de_var 3))
      (ds_seq (ds_fldS T.c_Rule.ci.cl (T.c_Rule.na "counts" (by decide)) (de_var 4))
      (ds_fldS T.c_Rule.ci.cl (T.c_Rule.na "less" (by decide)) (de_var 5))))))))))) h⟩
def b_Rule_eq : Es → Fl := gRet (gAnd (gIs (isO ownCls "Rule") (gVar 1)) (gAnd (gOp eqX (gFld "Rule" "own" (gVar 0)) (gFld "Rule" "own" (gVar 1))) (gAnd (gOp eqX (gFld "Rule" "others" (gVar 0)) (gFld "Rule" "others" (gVar 1))) (gAnd (gOp eqX (gFld "Rule" "bears" (gVar 0)) (gFld "Rule" "bears" (gVar 1))) (gAnd (gOp eqX (gFld "Rule" "counts" (gVar 0)) (gFld "Rule" "counts" (gVar 1))) (gOp eqX (gFld "Rule" "less" (gVar 0)) (gFld "Rule" "less" (gVar 1))))))))
def m_Rule_eq : List Da → Ou Da := mDef 2 2 b_Rule_eq
theorem ok_Rule_eq (T : Txt P w K mg base) : MetO P w K mg base 1 "Rule" "__eq__" ["self", "other"] (spD K m_Rule_eq) := by
  obtain ⟨fd, F⟩ := T.f_Rule_eq
  refine ⟨fd, okT (P := P) (w := w) (mg := mg) (base := base) (k := 0) F sc_Rule_eq (fun vs H Q E h => spD_len h) (fun cdv A outer s H vs Q E hr tk h => ?_), F.bindsN fun _ _ _ _ _ _ us hl => match us, hl with | [_, _], _ => rfl⟩
  have hu := hr.units
  exact ⟨_, pss_one (ps_ret (pe_and (pe_callB call_isi rfl (T.fr "isinstance" (by decide)) (by decide +kernel) (pa_cons (pv 1) (pa_cons (pe_glob (v := .ref (He.ga K "Rule")) rfl (T.gl "Rule" (by decide)) rfl) pa_nil))) (pe_and (pe_cmpR (op_eqX hu) (pe_fld (pv 0) rfl) (pe_fld (pv 1) rfl) (nomark _)) (pe_and (pe_cmpR (op_eqX hu) (pe_fld (pv 0) rfl) (pe_fld (pv 1) rfl) (nomark _)) (pe_and (pe_cmpR (op_eqX hu) (pe_fld (pv 0) rfl) (pe_fld (pv 1) rfl) (nomark _)) (pe_and (pe_cmpR (op_eqX hu) (pe_fld (pv 0) rfl) (pe_fld (pv 1) rfl) (nomark _)) (pe_one (pe_cmpR (op_eqX hu) (pe_fld (pv 0) rfl) (pe_fld (pv 1) rfl) (nomark _))))))))),
    spD_run (M := ["self", "other"]) (ds_ret (de_and (de_is (.own (He.ga K "Rule")) (isO_ok T.o_Rule) (de_var 1)) (de_and (de_op do_eqX (de_fld T.c_Rule.ci.cl (T.c_Rule.na "own" (by decide)) (de_var 0)) (de_fld T.c_Rule.ci.cl (T.c_Rule.na "own" (by decide)) (de_var 1))) (de_and (de_op do_eqX (de_fld T.c_Rule.ci.cl (T.c_Rule.na "others" (by decide)) (de_var 0)) (de_fld T.c_Rule.ci.cl (T.c_Rule.na "others" (by decide)) (de_var 1))) (de_and (de_op do_eqX (de_fld T.c_Rule.ci.cl (T.c_Rule.na "bears" (by decide)) (de_var 0)) (de_fld T.c_Rule.ci.cl (T.c_Rule.na "bears" (by decide)) (de_var 1))) (de_and (de_op do_eqX (de_fld T.c_Rule.ci.cl (T.c_Rule.na "counts" (by decide)) (de_var 0)) (de_fld T.c_Rule.ci.cl (T.c_Rule.na "counts" (by decide)) (de_var 1))) (de_op do_eqX (de_fld T.c_Rule.ci.cl (T.c_Rule.na "less" (by decide)) (de_var 0)) (de_fld T.c_Rule.ci.cl (T.c_Rule.na "less" (by decide)) (de_var 1))))))))) h⟩
def b_law_made_rule : Es → Fl := gRet (gMake "Rule" m_Rule_init (fCons (gOp ix (gVar 0) (gC (.int 0))) (fCons (gOp ix (gVar 0) (gC (.int 1))) (fCons (gOp ix (gVar 0) (gC (.int 2))) (fCons (gOp ix (gVar 0) (gC (.int 3))) (fCons (gOp ix (gVar 0) (gC (.int 4))) fNil))))))
def m_law_made_rule : List Da → Ou Da := mDef 1 1 b_law_made_rule
theorem ok_law_made_rule (T : Txt P w K mg base) : CalO P w K mg base 6 "_law_made_rule" ["words"] (spD K m_law_made_rule) := by
  obtain ⟨fd, F⟩ := T.f_law_made_rule
  refine ⟨_, fd, okT (P := P) (w := w) (mg := mg) (base := base) (k := 5) F sc_law_made_rule (fun vs H Q E h => spD_len h) (fun cdv A outer s H vs Q E hr tk h => ?_), T.gl "_law_made_rule" (by decide), F.kp, F.bindsN fun _ _ _ _ _ _ us hl => match us, hl with | [_], _ => rfl⟩
  obtain ⟨fd_i0, F_i0, B_i0⟩ := (ok_Rule_init T).ex
  exact ⟨_, pss_one (ps_ret (pe_make (sp := spI K "Rule" m_Rule_init) (E := E) (T.c_Rule.mk' (by decide)) F_i0 (hr.mono (by decide)) rfl (T.gl "Rule" (by decide)) B_i0 .nil (passT tk) (pa_cons (pe_ix ix_seq (pv 0) (pe_int) (fun _ _ => rfl)) (pa_cons (pe_ix ix_seq (pv 0) (pe_int) (fun _ _ => rfl)) (pa_cons (pe_ix ix_seq (pv 0) (pe_int) (fun _ _ => rfl)) (pa_cons (pe_ix ix_seq (pv 0) (pe_int) (fun _ _ => rfl)) (pa_cons (pe_ix ix_seq (pv 0) (pe_int) (fun _ _ => rfl)) pa_nil))))))),
    spD_run (M := ["words"]) (ds_ret (de_make (da_cons (de_op do_ix (de_var 0) (de_int 0)) (da_cons (de_op do_ix (de_var 0) (de_int 1)) (da_cons (de_op do_ix (de_var 0) (de_int 2)) (da_cons (de_op do_ix (de_var 0) (de_int 3)) (da_cons (de_op do_ix (de_var 0) (de_int 4)) da_nil))))))) h⟩
def b_law_all_rules : Es → Fl := gSeq (gSet 0 (fLst fNil))
    (gSeq (gFor (giL (fLst (fCons (gC (.str "keep")) (fCons (gC (.str "leave")) (fCons (gC (.str "add")) (fCons (gC (.str "only")) fNil)))))) [1] (mOne) (gFor (giL (fLst (fCons (gC (.str "keep")) (fCons (gC (.str "leave")) fNil)))) [2] (mOne) (gFor (giL (fLst (fCons (gC (.bl false)) (fCons (gC (.bl true)) fNil)))) [3] (mOne) (gFor (giL (fLst (fCons (gC (.str "things")) (fCons (gC (.str "models")) fNil)))) [4] (mOne) (gSet 0 (gOp addX (gVar 0) (gLc [5] (giL (fLst (fCons (gC (.bl false)) (fCons (gC (.bl true)) fNil)))) [5] (mOne) ((fun _ => .ok true)) (fTup (fCons (gVar 1) (fCons (gVar 2) (fCons (gVar 3) (fCons (gVar 4) (fCons (gVar 5) fNil)))))))))))))
    (gRet (gVar 0)))
def m_law_all_rules : List Da → Ou Da := mDef 6 0 b_law_all_rules
theorem ok_law_all_rules (T : Txt P w K mg base) : CalO P w K mg base 1 "_law_all_rules" [] (spD K m_law_all_rules) := by
  obtain ⟨fd, F⟩ := T.f_law_all_rules
  refine ⟨_, fd, okT (P := P) (w := w) (mg := mg) (base := base) (k := 0) F sc_law_all_rules (fun vs H Q E h => spD_len h) (fun cdv A outer s H vs Q E hr tk h => ?_), T.gl "_law_all_rules" (by decide), F.kp, F.bindsN fun _ _ _ _ _ _ us hl => match us, hl with | [], _ => rfl⟩
  exact ⟨_, pss_cons (ps_set (i := 0) sc_law_all_rules.nd rfl (by first | exact Or.inl rfl | exact Or.inr rfl) (pe_lst pa_nil))
      (pss_cons (ps_for (passes_of rfl) rfl (pi_list (pe_lst (pa_cons (pe_str) (pa_cons (pe_str) (pa_cons (pe_str) (pa_cons (pe_str) pa_nil)))))) (pg_name (i := 1) sc_law_all_rules.nd rfl (by first | exact Or.inl rfl | exact Or.inr rfl)) (pss_one (ps_for (passes_of rfl) rfl (pi_list (pe_lst (pa_cons (pe_str) (pa_cons (pe_str) pa_nil)))) (pg_name (i := 2) sc_law_all_rules.nd rfl (by first | exact Or.inl rfl | exact Or.inr rfl)) (pss_one (ps_for (passes_of rfl) rfl (pi_list (pe_lst (pa_cons (pe_bl) (pa_cons (pe_bl) pa_nil)))) (pg_name (i := 3) sc_law_all_rules.nd rfl (by first | exact Or.inl rfl | exact Or.inr rfl)) (pss_one (ps_for (passes_of rfl) rfl (pi_list (pe_lst (pa_cons (pe_str) (pa_cons (pe_str) pa_nil)))) (pg_name (i := 4) sc_law_all_rules.nd rfl (by first | exact Or.inl rfl | exact Or.inr rfl)) (pss_one (ps_set (i := 0) sc_law_all_rules.nd rfl (by first | exact Or.inl rfl | exact Or.inr rfl) (pe_op op_addX (pv 0) (pe_lc (own := [("less", 5)]) rfl sc_law_all_rules.nd (pi_list (pe_lst (pa_cons (pe_bl) (pa_cons (pe_bl) pa_nil)))) (blkOk_by (N := ["found", "own", "others", "bears", "counts", "less"]) (own := [("less", 5)]) (sc := defScope s_law_all_rules) (by decide +kernel)) (fun _ _ _ _ _ => pg_name (i := 5) sc_law_all_rules.nd rfl (by first | exact Or.inl rfl | exact Or.inr rfl)) (fun _ _ _ _ _ => pts_nil) (fun _ _ _ _ _ => pe_tup (pa_cons (pv 1) (pa_cons (pv 2) (pa_cons (pv 3) (pa_cons (pv 4) (pa_cons (pv 5) pa_nil)))))))))))))))))
      (pss_one (ps_ret (pv 0)))),
    spD_run (M := ["found", "own", "others", "bears", "counts", "less"]) (ds_seq (ds_set (de_lst da_nil))
      (ds_seq (ds_for (di_list (de_lst (da_cons (de_str "keep") (da_cons (de_str "leave") (da_cons (de_str "add") (da_cons (de_str "only") da_nil)))))) (dg_name 1) (ds_for (di_list (de_lst (da_cons (de_str "keep") (da_cons (de_str "leave") da_nil)))) (dg_name 2) (ds_for (di_list (de_lst (da_cons (de_bl false) (da_cons (de_bl true) da_nil)))) (dg_name 3) (ds_for (di_list (de_lst (da_cons (de_str "things") (da_cons (de_str "models") da_nil)))) (dg_name 4) (ds_set (de_op do_addX (de_var 0) (de_lc (vs := [5]) (E' := E) (di_list (de_lst (da_cons (de_bl false) (da_cons (de_bl true) da_nil)))) (dg_name 5) (dt_yes) (de_tup (da_cons (de_var 1) (da_cons (de_var 2) (da_cons (de_var 3) (da_cons (de_var 4) (da_cons (de_var 5) da_nil)))))))))))))
      (ds_ret (de_var 0)))) h⟩
end
end L2.Dc.K20
namespace L2.Dc.K20
open PySem PySem.Spec PyProof.Rows L2.Fw
section
variable {P : Program} {w : World} {K : PySem.W.Frag} {mg : Str → Option Value} {base : Heap}
theorem ok_law_cell (T : Txt P w K mg base) : CalO P w K mg base 1 "_law_cell" ["script", "index"] (sp_law_cell K) := by
  obtain ⟨fd, F⟩ := T.f_law_cell
  refine ⟨_, fd, FunD.ok (CX := L2.CX P w) (P := P) (w := w) (mg := mg) (base := base) (k := 0) F sc_law_cell (fun vs H Q E h => len_law_cell h) (fun cdv A outer s H vs Q E hr h => ?_), T.gl "_law_cell" (by decide), F.kp, F.bindsN fun _ _ _ _ _ _ us hl => match us, hl with | [_, _], _ => rfl⟩
  refine ⟨t_law_cell K E, ?_, pure_law_cell h⟩
  exact pss_cons (ps_if (pt_cmpR op_lt (pv 1) (pe_callB call_len rfl (T.fr "len" (by decide)) (by decide +kernel) (pa_cons (pv 0) pa_nil)) (nomark _)) (pss_one (ps_ret (pe_ix ix_seq (pv 0) (pv 1) (fun _ _ => rfl)))) (pss_nil))
      (pss_one (ps_ret (pe_int)))

theorem ok_law_hash (T : Txt P w K mg base) : CalO P w K mg base 1 "_law_hash" ["seed", "index"] (sp_law_hash K) := by
  obtain ⟨fd, F⟩ := T.f_law_hash
  refine ⟨_, fd, FunD.ok (CX := L2.CX P w) (P := P) (w := w) (mg := mg) (base := base) (k := 0) F sc_law_hash (fun vs H Q E h => len_law_hash h) (fun cdv A outer s H vs Q E hr h => ?_), T.gl "_law_hash" (by decide), F.kp, F.bindsN fun _ _ _ _ _ _ us hl => match us, hl with | [_, _], _ => rfl⟩
  refine ⟨t_law_hash K E, ?_, pure_law_hash h⟩
  exact pss_cons (ps_set (i := 2) sc_law_hash.nd rfl (by first | exact Or.inl rfl | exact Or.inr rfl) (pe_op op_mod (pe_callTy call_int1 rfl (T.fr "int" (by decide)) (by decide +kernel) (pa_cons (pe_op op_add (pe_op op_add (pe_op op_add (pe_op op_mul (pv 0) (pe_int)) (pe_op op_mul (pe_op op_mul (pe_int) (pv 1)) (pv 1))) (pv 1)) (pe_int)) pa_nil)) (pe_int)))
      (pss_cons (ps_set (i := 2) sc_law_hash.nd rfl (by first | exact Or.inl rfl | exact Or.inr rfl) (pe_op op_mod (pe_callTy call_int1 rfl (T.fr "int" (by decide)) (by decide +kernel) (pa_cons (pe_op op_add (pe_op op_mul (pv 2) (pv 2)) (pe_int)) pa_nil)) (pe_int)))
      (pss_one (ps_ret (pe_op op_mod (pe_callTy call_int1 rfl (T.fr "int" (by decide)) (by decide +kernel) (pa_cons (pe_op op_mul (pv 2) (pe_int)) pa_nil)) (pe_int)))))

theorem ok_law_generator (T : Txt P w K mg base) : CalO P w K mg base 2 "_law_generator" ["script", "index"] (sp_law_generator K) := by
  obtain ⟨fd, F⟩ := T.f_law_generator
  refine ⟨_, fd, FunD.ok (CX := L2.CX P w) (P := P) (w := w) (mg := mg) (base := base) (k := 1) F sc_law_generator (fun vs H Q E h => len_law_generator h) (fun cdv A outer s H vs Q E hr h => ?_), T.gl "_law_generator" (by decide), F.kp, F.bindsN fun _ _ _ _ _ _ us hl => match us, hl with | [_, _], _ => rfl⟩
  refine ⟨t_law_generator K E, ?_, pure_law_generator h⟩
  exact pss_cons (ps_set (i := 2) sc_law_generator.nd rfl (by first | exact Or.inl rfl | exact Or.inr rfl) (pe_callO (ok_law_cell T)  hr rfl (fun σ => passZ σ) (pa_cons (pv 0) (pa_cons (pv 1) pa_nil))))
      (pss_one (ps_ret (pe_lst (pa_cons (pe_op op_mod (pe_callTy call_int1 rfl (T.fr "int" (by decide)) (by decide +kernel) (pa_cons (pe_callB (call_max2 rfl) rfl (T.fr "max" (by decide)) (by decide +kernel) (pa_cons (pe_op op_sub (pv 2) (pe_op op_powW (pe_int) (pe_int))) (pa_cons (pe_int) pa_nil))) pa_nil)) (pe_op op_powW (pe_op op_powW (pe_int) (pe_int)) (pe_int))) (pa_cons (pe_op op_mod (pe_callTy call_int1 rfl (T.fr "int" (by decide)) (by decide +kernel) (pa_cons (pv 2) pa_nil)) (pe_int)) (pa_cons (pe_op op_mul (pe_int) (pv 1)) pa_nil))))))

theorem ok_law_random (T : Txt P w K mg base) : CalO P w K mg base 2 "_law_random" ["generator", "bound"] (sp_law_random K) := by
  obtain ⟨fd, F⟩ := T.f_law_random
  refine ⟨_, fd, FunD.ok (CX := L2.CX P w) (P := P) (w := w) (mg := mg) (base := base) (k := 1) F sc_law_random (fun vs H Q E h => len_law_random h) (fun cdv A outer s H vs Q E hr h => ?_), T.gl "_law_random" (by decide), F.kp, F.bindsN fun _ _ _ _ _ _ us hl => match us, hl with | [_, _], _ => rfl⟩
  refine ⟨t_law_random K E, ?_, pure_law_random h⟩
  exact pss_cons (ps_if (pt_cmpR op_gt (pe_ix ix_seq (pv 0) (pe_int) (fun _ _ => rfl)) (pe_int) (nomark _)) (pss_cons (ps_set (i := 2) sc_law_random.nd rfl (by first | exact Or.inl rfl | exact Or.inr rfl) (pe_op op_mod (pe_callTy call_int1 rfl (T.fr "int" (by decide)) (by decide +kernel) (pa_cons (pe_ix ix_seq (pv 0) (pe_int) (fun _ _ => rfl)) pa_nil)) (pv 1)))
      (pss_cons (ps_asg (pe_op op_fdivW (pe_ix ix_seq (pv 0) (pe_int) (fun _ _ => rfl)) (pv 1)) (pg_sub (pv 0) (pe_int) set_list))
      (pss_one (ps_ret (pv 2))))) (pss_nil))
      (pss_cons (ps_set (i := 2) sc_law_random.nd rfl (by first | exact Or.inl rfl | exact Or.inr rfl) (pe_int))
      (pss_cons (ps_for (passes_of rfl) rfl (pi_range1 rfl (T.fr "range" (by decide)) (pa_cons (pe_op op_add (pe_int) (pe_op op_fdivW (pe_bits (pv 1)) (pe_int))) pa_nil)) (pg_name (i := 3) sc_law_random.nd rfl (by first | exact Or.inl rfl | exact Or.inr rfl)) (pss_cons (ps_asg (pe_op op_add (pe_ix ix_seq (pv 0) (pe_int) (fun _ _ => rfl)) (pe_int)) (pg_sub (pv 0) (pe_int) set_list))
      (pss_one (ps_set (i := 2) sc_law_random.nd rfl (by first | exact Or.inl rfl | exact Or.inr rfl) (pe_op op_add (pe_op op_mul (pv 2) (pe_int)) (pe_callO (ok_law_hash T)  hr rfl (fun σ => passZ σ) (pa_cons (pe_ix ix_seq (pv 0) (pe_int) (fun _ _ => rfl)) (pa_cons (pe_ix ix_seq (pv 0) (pe_int) (fun _ _ => rfl)) pa_nil))))))))
      (pss_one (ps_ret (pe_op op_mod (pe_callTy call_int1 rfl (T.fr "int" (by decide)) (by decide +kernel) (pa_cons (pv 2) pa_nil)) (pv 1))))))

def b_law_rule_parts : Es → Fl := gSeq (gSet 1 (gOp ix (fLst (fCons (gC (.str "keep")) (fCons (gC (.str "leave")) (fCons (gC (.str "add")) (fCons (gC (.str "only")) fNil))))) (gRand (fCons (gVar 0) (fCons (gC (.int 4)) fNil)))))
    (gSeq (gSet 2 (gOp ix (fLst (fCons (gC (.str "keep")) (fCons (gC (.str "keep")) (fCons (gC (.str "leave")) fNil)))) (gRand (fCons (gVar 0) (fCons (gC (.int 3)) fNil)))))
    (gSeq (gSet 3 (gOp ix (fLst (fCons (gC (.str "things")) (fCons (gC (.str "models")) fNil))) (gRand (fCons (gVar 0) (fCons (gC (.int 2)) fNil)))))
    (gRet (fTup (fCons (gVar 1) (fCons (gVar 2) (fCons (gOp eqX (gRand (fCons (gVar 0) (fCons (gC (.int 2)) fNil))) (gC (.int 0))) (fCons (gVar 3) (fCons (gOp eqX (gRand (fCons (gVar 0) (fCons (gC (.int 3)) fNil))) (gC (.int 0))) fNil)))))))))
def m_law_rule_parts : List Da → Ou Da := mDef 4 1 b_law_rule_parts
theorem ok_law_rule_parts (T : Txt P w K mg base) : CalO P w K mg base 3 "_law_rule_parts" ["generator"] (spD K m_law_rule_parts) := by
  obtain ⟨fd, F⟩ := T.f_law_rule_parts
  refine ⟨_, fd, okT (P := P) (w := w) (mg := mg) (base := base) (k := 2) F sc_law_rule_parts (fun vs H Q E h => spD_len h) (fun cdv A outer s H vs Q E hr tk h => ?_), T.gl "_law_rule_parts" (by decide), F.kp, F.bindsN fun _ _ _ _ _ _ us hl => match us, hl with | [_], _ => rfl⟩
  have hu := hr.units
  exact ⟨_, pss_cons (ps_set (i := 1) sc_law_rule_parts.nd rfl (by first | exact Or.inl rfl | exact Or.inr rfl) (pe_ix ix_seq (pe_lst (pa_cons (pe_str) (pa_cons (pe_str) (pa_cons (pe_str) (pa_cons (pe_str) pa_nil))))) (pe_callT (E := E) (ok_law_random T) hr tk rfl (pa_cons (pv 0) (pa_cons (pe_int) pa_nil))) (fun _ _ => rfl)))
      (pss_cons (ps_set (i := 2) sc_law_rule_parts.nd rfl (by first | exact Or.inl rfl | exact Or.inr rfl) (pe_ix ix_seq (pe_lst (pa_cons (pe_str) (pa_cons (pe_str) (pa_cons (pe_str) pa_nil)))) (pe_callT (E := E) (ok_law_random T) hr tk rfl (pa_cons (pv 0) (pa_cons (pe_int) pa_nil))) (fun _ _ => rfl)))
      (pss_cons (ps_set (i := 3) sc_law_rule_parts.nd rfl (by first | exact Or.inl rfl | exact Or.inr rfl) (pe_ix ix_seq (pe_lst (pa_cons (pe_str) (pa_cons (pe_str) pa_nil))) (pe_callT (E := E) (ok_law_random T) hr tk rfl (pa_cons (pv 0) (pa_cons (pe_int) pa_nil))) (fun _ _ => rfl)))
      (pss_one (ps_ret (pe_tup (pa_cons (pv 1) (pa_cons (pv 2) (pa_cons (pe_cmpR (op_eqX hu) (pe_callT (E := E) (ok_law_random T) hr tk rfl (pa_cons (pv 0) (pa_cons (pe_int) pa_nil))) (pe_int) (nomark _)) (pa_cons (pv 3) (pa_cons (pe_cmpR (op_eqX hu) (pe_callT (E := E) (ok_law_random T) hr tk rfl (pa_cons (pv 0) (pa_cons (pe_int) pa_nil))) (pe_int) (nomark _)) pa_nil)))))))))),
    spD_run (M := ["generator", "own", "others", "counts"]) (ds_seq (ds_set (de_op do_ix (de_lst (da_cons (de_str "keep") (da_cons (de_str "leave") (da_cons (de_str "add") (da_cons (de_str "only") da_nil))))) (de_rand (da_cons (de_var 0) (da_cons (de_int 4) da_nil)))))
      (ds_seq (ds_set (de_op do_ix (de_lst (da_cons (de_str "keep") (da_cons (de_str "keep") (da_cons (de_str "leave") da_nil)))) (de_rand (da_cons (de_var 0) (da_cons (de_int 3) da_nil)))))
      (ds_seq (ds_set (de_op do_ix (de_lst (da_cons (de_str "things") (da_cons (de_str "models") da_nil))) (de_rand (da_cons (de_var 0) (da_cons (de_int 2) da_nil)))))
      (ds_ret (de_tup (da_cons (de_var 1) (da_cons (de_var 2) (da_cons (de_op do_eqX (de_rand (da_cons (de_var 0) (da_cons (de_int 2) da_nil))) (de_int 0)) (da_cons (de_var 3) (da_cons (de_op do_eqX (de_rand (da_cons (de_var 0) (da_cons (de_int 3) da_nil))) (de_int 0)) da_nil)))))))))) h⟩
end
/-- the data behind a caught error's field, behind the look at it -/
def aft : Da → Da
  | .lt b xs => .lt b (xs ++ [.str "more"])
  | d => d
/-- a list whose place is known, or no list -/
def okd : Da → Bool
  | .lt _ xs => Nat.ble xs.length 100 && xs.all plain
  | .lst _ => false
  | .ins _ _ _ => false
  | .gen => false
  | .scr => false
  | .exc _ _ => false
  | _ => true
def aftH (d : Da) (H : Hp) : Hp := match d with
  | .lt b _ => match H b with
    | some (.lst zs) => upd H b (.lst (zs ++ [.str "more"]))
    | _ => H
  | _ => H
def sp_law_caught (K : PySem.W.Frag) : Sp := fun vs H Q E => ∃ N v ds d s, vs = [v] ∧ Al N H ∧ DV K H N v (.tup ds) ∧ m_law_made_rule [.tup ds] = .er "InvalidWord" d ∧ okd d = true ∧ reprD [aft d] = some (.str s) ∧
  ∀ N' H', Ev N H N' H' → N'.b = N.b → Q (.str s) (aftH d H')
theorem len_law_caught {K : PySem.W.Frag} {vs : List V} {H : Hp} {Q : VK} {E : XK} (h : sp_law_caught K vs H Q E) : vs.length = 1 := by
  obtain ⟨_, _, _, _, _, rfl, _⟩ := h
  rfl
def t_law_caught (K : PySem.W.Frag) (E : XK) : TS :=
  (tSeq (tAsg (tC .non) (gName 1))
    (tSeq (tTryK K (.ref (He.ga K "TickError")) 2 (fun W => (tDrop (tCallX (spD K m_law_made_rule) (fun σ cls d H => W cls d σ H) (tCons (tVar 0) tNil)))) (tAsg (tVar 2) (gName 1)))
    (tSeq (tIfS (tOr (tTest (tOp rIsN (tVar 1) (tC .non))) (tNot (tB (tCB (rIsX K) (tCons (tVar 1) (tCons (tC (.ref (He.ga K "InvalidWord"))) tNil)))))) (tRet (tVar 1)) tNext)
    (tSeq (tIfS (tB (tCB (rIsi K) (tCons (tXfv K "value" (tVar 1)) (tCons (tC (.ty "list")) tNil)))) (tDrop (tBM K "list" rAppend (tXfv K "value" (tVar 1)) (tCons (tC (.str "more")) tNil))) tNext)
    (tRet (tCB (rRepr K) (tCons (tXfv K "value" (tVar 1)) tNil)))))))
theorem repr_now {K : PySem.W.Frag} {H : Hp} {N : Rg} {v : V} {d : Da} {s : Str} {Q : VK} (sm : SM K) (h : DV K H N v d) (e : reprD [d] = some (.str s)) (q : Q (.str s) H) : rRepr K [v] H Q := by
  unfold reprD at e
  dsimp only at e
  split at e
  · rename_i p ep
    split at e
    · rename_i hf
      cases e
      exact ⟨v, p, rfl, h.dd ep, sm, hf.1, hf.2.1, by have := Nat.le_of_ble_eq_true hf.2.2; rw [sizeLine_eq]; omega, q⟩
    · cases e
  · cases e
def isLt : Da → Bool
  | .lt _ _ => true
  | _ => false
theorem isT_list {d : Da} (h : okd d = true) : isT "list" d = some (isLt d) := by
  cases d <;> first | rfl | cases h
theorem pure_law_caught {P : Program} {w : World} {K : PySem.W.Frag} {mg : Str → Option Value} {base : Heap} (T : Txt P w K mg base) {vs : List V} {H : Hp} {Q : VK} {E : XK} (h : sp_law_caught K vs H Q E) : t_law_caught K E (En Q) (start ["words", "caught", "error"] vs) H := by
  obtain ⟨N, v, ds, d, s, rfl, al, hv, em, hok, hs, q⟩ := h
  refine ⟨_, rfl, ?_⟩
  refine ⟨N, [.tup ds], al, .cons hv .nil, ?_⟩
  rw [em]
  intro u dd N' H' g gz _ hu hdd
  refine ⟨true, T.xm, fun _ => ⟨_, rfl, fun a na => ?_⟩, nofun⟩
  refine ⟨_, rfl, ?_⟩
  have e_ec := T.x_InvalidWord.ec
  have e_no := T.x_InvalidWord.no
  have nda : dd ≠ a := fun z => by rw [z, na] at hdd; cases hdd
  have h1 : upd H' a (exv a (He.ga K "InvalidWord") (some dd)) a = some (exv a (He.ga K "InvalidWord") (some dd)) := upd_same
  have h2 : upd H' a (exv a (He.ga K "InvalidWord") (some dd)) dd = some (.xd [("value", u)]) := by rw [upd_ne nda]; exact hdd
  have g2 : Ev N H N' (upd H' a (exv a (He.ga K "InvalidWord") (some dd))) := g.trans (Grow.apart g.al na _).toEv
  have hu2 : DV K (upd H' a (exv a (He.ga K "InvalidWord") (some dd))) N' u d := hu.g (Grow.apart g.al na _).toEv
  generalize upd H' a (exv a (He.ga K "InvalidWord") (some dd)) = H1 at h1 h2 g2 hu2
  have fld : ∀ {σ : St} {Q : VK}, σ[1]? = some (some (.ref a)) → Q u H1 → tXfv K "value" (tVar 1) σ H1 Q := fun {σ Q} e q => ⟨_, e, a, _, dd, _, u, rfl, e_ec, e_no, h1, h2, rfl, q⟩
  refine ⟨_, rfl, rfl, ⟨_, rfl, ?_⟩⟩
  refine iteF ?_
  refine ⟨_, rfl, ⟨a, _, some dd, _, _, true, rfl, .own _, e_ec, h1, fun _ e => by cases e; exact ⟨_, h2⟩, T.xk, ⟨true, rfl, ?_⟩⟩⟩
  refine iteF ?_
  have hty : ∀ {σ : St} {Q : Bool → Hp → Prop}, σ[1]? = some (some (.ref a)) → Q (isLt d) H1 → tB (tCB (rIsi K) (tCons (tXfv K "value" (tVar 1)) (tCons (tC (.ty "list")) tNil))) σ H1 Q := fun {σ Q} e q => by
    have z := isT_ok (K := K) d _ (isT_list hok)
    exact fld e ⟨u, _, _, _, _, rfl, .ty "list", ty_ok z.1.1 z.1.2 hu2, z.2, ⟨_, rfl, q⟩⟩
  refine hty rfl ?_
  cases d with
  | lt b xs =>
    refine iteT ?_
    obtain ⟨zs, rfl, hb, nb, hd⟩ := hu2.lt_inv
    have hab : a ≠ b := fun z => by rw [z, hb] at h1; cases h1
    have hdb : dd ≠ b := fun z => by rw [z, hb] at h2; cases h2
    have hlen : zs.length ≤ 100 := by rw [hd.1]; exact Nat.le_of_ble_eq_true (Bool.and_eq_true_iff.mp hok).1
    refine ⟨_, rfl, a, _, dd, _, _, rfl, e_ec, e_no, h1, h2, rfl, ?_⟩
    refine ⟨.inl ⟨rfl, zs, .of hb⟩, b, zs, _, rfl, rfl, hb, by rw [sizeLine_eq]; omega, ?_⟩
    have ez : aftH (.lt b xs) H1 = upd H1 b (.lst (zs ++ [.str "more"])) := by
      unfold aftH
      dsimp only
      rw [hb]
    have d3 : DV K (upd H1 b (.lst (zs ++ [.str "more"]))) N' (.ref b) (.lt b (xs ++ [.str "more"])) :=
      .lt nb upd_same (by rw [List.length_append, List.length_append, hd.1]; rfl) (DA.append ⟨hd.1, fun i x d e1 e2 => plain_any (List.all_eq_true.mp (Bool.and_eq_true_iff.mp hok).2 d (List.mem_of_getElem? e2)) (hd.2 i x d e1 e2)⟩ (.cons (.str _) .nil)).2
    refine ⟨_, rfl, a, _, dd, _, _, rfl, e_ec, e_no, by rw [upd_ne hab]; exact h1, by rw [upd_ne hdb]; exact h2, rfl, ?_⟩
    exact repr_now T.sm d3 hs (by rw [← ez]; exact q N' H1 g2 gz)
  | _ =>
    first
      | (cases hok; done)
      | exact ⟨_, rfl, a, _, dd, _, _, rfl, e_ec, e_no, h1, h2, rfl, repr_now T.sm hu2 hs (q N' H1 g2 gz)⟩

section
variable {P : Program} {w : World} {K : PySem.W.Frag} {mg : Str → Option Value} {base : Heap}
theorem ok_law_caught (T : Txt P w K mg base) : CalG P w K mg base 8 "_law_caught" ["words"] (sp_law_caught K) := by
  obtain ⟨fd, F⟩ := T.f_law_caught
  refine ⟨_, fd, okG (P := P) (w := w) (mg := mg) (base := base) (k := 7) F sc_law_caught (fun vs H Q E h => len_law_caught h) (fun cdv A outer s H vs Q E hgd hr h => ?_), T.gl "_law_caught" (by decide), F.kp, F.bindsN fun _ _ _ _ _ _ us hl => match us, hl with | [_], _ => rfl⟩
  have hu := hr.units
  refine ⟨t_law_caught K E, ?_, pure_law_caught T h⟩
  exact pss_cons (ps_set (i := 1) sc_law_caught.nd rfl (by first | exact Or.inl rfl | exact Or.inr rfl) (pe_non))
      (pss_cons (ps_try_keep (i := 2) (tb := fun W => (tDrop (tCallX (spD K m_law_made_rule) (fun σ cls d H => W cls d σ H) (tCons (tVar 0) tNil)))) (ts := (tAsg (tVar 2) (gName 1))) (Wout := fun _ _ _ _ => False) rfl rfl rfl sc_law_caught.nd rfl rfl ⟨rfl, by decide, .inl (T.gl "TickError" (by decide))⟩ takes0 (fun W pn xe tk hp => pss_one (ps_expr (pe_callO (ok_law_made_rule T)  hr rfl (fun σ => passAt tk σ) (pa_cons (pv 0) pa_nil)))) (fun a pn => pss_one (ps_set (i := 1) sc_law_caught.nd rfl (by first | exact Or.inl rfl | exact Or.inr rfl) (pv 2))))
      (pss_cons (ps_if (PW.pt (pw_or (pt_cmpR op_isN (pv 1) (pe_non) (nomark _)) (pw_or1 (pt_not (pt_val (pe_callB call_isX rfl (T.fr "isinstance" (by decide)) (by decide +kernel) (pa_cons (pv 1) (pa_cons (pe_glob rfl (T.gl "InvalidWord" (by decide)) rfl) pa_nil))) (by intro _; rfl)))))) (pss_one (ps_ret (pv 1))) (pss_nil))
      (pss_cons (ps_if (pt_val (pe_callB call_isi rfl (T.fr "isinstance" (by decide)) (by decide +kernel) (pa_cons (pe_xfv (pv 1)) (pa_cons (pe_bltn (v := .ty "list") rfl (T.fr "list" (by decide)) PyProof.Rows.Boot.«list» rfl) pa_nil))) (by intro _; rfl)) (pss_one (ps_expr (pe_bm PySem.F.plainAttrs_list PySem.F.slot_list_append PySem.F.type_list_append mt_append (pe_xfv (pv 1)) (pa_cons (pe_str) pa_nil)))) (pss_nil))
      (pss_one (ps_ret (pe_callB (call_repr hgd hu) rfl (T.fr "repr" (by decide)) (by decide +kernel) (pa_cons (pe_xfv (pv 1)) pa_nil)))))))

end
end L2.Dc.K20
namespace L2.Dc.K20
open PySem PySem.Spec PyProof.Rows L2.Fw
def owns : List Str := ["keep", "leave", "add", "only"]
def oths : List Str := ["keep", "leave"]
def cnts : List Str := ["things", "models"]
def wl (o t : Str) (b : Bool) (c : Str) (l : Bool) : List Da := [.str o, .str t, .bl b, .str c, .bl l]
def allW : List (List Da) := owns.flatMap fun o => oths.flatMap fun t => [false, true].flatMap fun b => cnts.flatMap fun c => [false, true].map fun l => wl o t b c l
theorem all_eq : m_law_all_rules [] = .ok (.lst (allW.map .tup)) := by kernel_rfl
/-- the bad words at place p; n looks before -/
def x1 (p : Nat) : Da := [Da.str "things", .str "add", .str "things", .str "keep", .str "keep"].getD p .non
def x2 (p : Nat) : Da := [Da.bl true, .bl false, .str "keep", .bl true, .str "models"].getD p .non
def mores (n : Nat) : List Da := List.replicate n (.str "more")
def bads (b1 b2 : Addr) (n p : Nat) : List Da := [.non, .int 3, .str "", .str "Keep", .str "none", .lt b1 (.str "keep" :: mores n), .tup [.str "keep"], .dct [] [], .int 0, .int 1, .str "True", .lt b2 (mores n), x1 p, x2 p]
def combos : List (List Da × Nat) := allW.flatMap fun w => [0, 1, 2, 3, 4].map fun p => (w, p)
def wA (w : List Da) (p : Nat) (d : Da) : List Da := w.take p ++ d :: w.drop (p + 1)
def wB (w : List Da) (p : Nat) (d : Da) : List Da := w.take p ++ d :: List.replicate (4 - p) .non
theorem badA (b1 b2 : Addr) : (combos.flatMap fun q => (bads b1 b2 0 q.2).map fun d => m_law_made_rule [.tup (wA q.1 q.2 d)]) = (combos.flatMap fun q => (bads b1 b2 0 q.2).map fun d => .er "InvalidWord" d) := by kernel_rfl
theorem badB (b1 b2 : Addr) : (combos.flatMap fun q => (bads b1 b2 1 q.2).map fun d => m_law_made_rule [.tup (wB q.1 q.2 d)]) = (combos.flatMap fun q => (bads b1 b2 1 q.2).map fun d => .er "InvalidWord" d) := by kernel_rfl
end L2.Dc.K20
namespace L2.Dc.K20
open PySem PySem.Spec PyProof.Rows L2.Fw
def gsA : En' → Ou (List Da) := fCons (gOp addX (gOp addX (gSl slX (gVar 7) (gNoPart) (gPart (gVar 3))) (fTup (fCons (gVar 10) fNil))) (gSl slX (gVar 7) (gPart (gOp addX (gVar 3) (gC (.int 1)))) (gNoPart))) fNil
def gsB : En' → Ou (List Da) := fCons (gOp addX (gOp addX (gSl slX (gVar 7) (gNoPart) (gPart (gVar 3))) (fTup (fCons (gVar 10) fNil))) (gOp mulX (fTup (fCons (gC .non) fNil)) (gOp subI (gC (.int 4)) (gVar 3)))) fNil
def ρA (w : List Da) (p : Nat) (d : Da) : En' := [none, none, none, some (.int p), none, none, none, some (.tup w), none, none, some d, none]
theorem argA (d : Da) : (combos.map fun q => gsA (ρA q.1 q.2 d)) = (combos.map fun q => .ok [.tup (wA q.1 q.2 d)]) := by kernel_rfl
theorem argB (d : Da) : (combos.map fun q => gsB (ρA q.1 q.2 d)) = (combos.map fun q => .ok [.tup (wB q.1 q.2 d)]) := by kernel_rfl
def isStr : Option Da → Bool
  | some (.str _) => true
  | _ => false
theorem badK (b1 b2 : Addr) : ([0, 1].all fun n => [0, 1, 2, 3, 4].all fun p => (bads b1 b2 n p).all fun d => okd d && isStr (reprD [aft d])) = true := by kernel_rfl
/-- all that is wanted of one bad word -/
structure Bad (gs : En' → Ou (List Da)) (w : List Da) (p : Nat) (d : Da) : Prop where
  er : ∃ ds, gs (ρA w p d) = .ok [.tup ds] ∧ m_law_made_rule [.tup ds] = .er "InvalidWord" d
  ok : okd d = true
  rp : ∃ s, reprD [aft d] = some (.str s)
theorem map_mem {α β : Type} {f g : α → β} {l : List α} (h : l.map f = l.map g) {x : α} (m : x ∈ l) : f x = g x := List.map_inj_left.mp h x m
theorem fm_mem {α β γ : Type} {k : α → List β} {f g : α → β → γ} : ∀ {l : List α}, (l.flatMap fun q => (k q).map (f q)) = (l.flatMap fun q => (k q).map (g q)) → ∀ x ∈ l, ∀ y ∈ k x, f x y = g x y
  | [], _, x, m => by cases m
  | q :: l, h, x, m => by
    rw [List.flatMap_cons, List.flatMap_cons] at h
    have z := List.append_inj h (by rw [List.length_map, List.length_map])
    rcases List.mem_cons.mp m with rfl | m
    · exact fun y hy => map_mem z.1 hy
    · exact fm_mem z.2 x m
theorem combo {w : List Da} {p : Nat} (hw : w ∈ allW) (hp : p < 5) : (w, p) ∈ combos := by
  unfold combos
  refine List.mem_flatMap.mpr ⟨w, hw, List.mem_map.mpr ⟨p, ?_, rfl⟩⟩
  match p, hp with
  | 0, _ => simp
  | 1, _ => simp
  | 2, _ => simp
  | 3, _ => simp
  | 4, _ => simp
theorem isStr_of {o : Option Da} (h : isStr o = true) : ∃ s, o = some (.str s) := by
  unfold isStr at h
  split at h
  · exact ⟨_, rfl⟩
  · cases h
theorem bad_at {b1 b2 : Addr} {n p : Nat} {d : Da} (hn : n ∈ ([0, 1] : List Nat)) (hp : p < 5) (hd : d ∈ bads b1 b2 n p) : okd d = true ∧ ∃ s, reprD [aft d] = some (.str s) := by
  have h := badK b1 b2
  rw [List.all_eq_true] at h
  have h1 := h n hn
  rw [List.all_eq_true] at h1
  have h2 := h1 p (by match p, hp with | 0, _ => simp | 1, _ => simp | 2, _ => simp | 3, _ => simp | 4, _ => simp)
  rw [List.all_eq_true] at h2
  have h3 := h2 d hd
  rw [Bool.and_eq_true] at h3
  exact ⟨h3.1, isStr_of h3.2⟩
theorem bad0 {b1 b2 : Addr} {w : List Da} {p : Nat} {d : Da} (hw : w ∈ allW) (hp : p < 5) (hd : d ∈ bads b1 b2 0 p) : Bad gsA w p d := by
  have z := bad_at (by simp) hp hd
  exact ⟨⟨_, map_mem (argA d) (combo hw hp), fm_mem (badA b1 b2) _ (combo hw hp) d hd⟩, z.1, z.2⟩
theorem bad1 {b1 b2 : Addr} {w : List Da} {p : Nat} {d : Da} (hw : w ∈ allW) (hp : p < 5) (hd : d ∈ bads b1 b2 1 p) : Bad gsB w p d := by
  have z := bad_at (by simp) hp hd
  exact ⟨⟨_, map_mem (argB d) (combo hw hp), fm_mem (badB b1 b2) _ (combo hw hp) d hd⟩, z.1, z.2⟩
end L2.Dc.K20
namespace L2.Dc.K20
open PySem PySem.Spec PyProof.Rows L2.Fw
section
variable {P : Program} {w' : World} {K : PySem.W.Frag} {mg : Str → Option Value} {base : Heap} {E : XK} {H H' Hs : Hp} {N N' : Rg} {v x : V} {d : Da} {σ : St} {B : Bs} {ρ : Es} {O : Nat → Option Addr}
theorem aft_dv (hok : okd d = true) (h : DV K H N v d) : DV K (aftH d H) N v (aft d) := by
  cases d with
  | lt b xs =>
    obtain ⟨zs, rfl, hb, nb, hd⟩ := h.lt_inv
    have ez : aftH (.lt b xs) H = upd H b (.lst (zs ++ [.str "more"])) := by
      unfold aftH
      dsimp only
      rw [hb]
    rw [ez]
    exact .lt nb upd_same (by rw [List.length_append, List.length_append, hd.1]; rfl) (DA.append ⟨hd.1, fun i x d e1 e2 => plain_any (List.all_eq_true.mp (Bool.and_eq_true_iff.mp hok).2 d (List.mem_of_getElem? e2)) (hd.2 i x d e1 e2)⟩ (.cons (.str _) .nil)).2
  | _ => exact h
theorem aftH_or : aftH d H = H ∨ ∃ b xs zs, d = .lt b xs ∧ aftH d H = upd H b (.lst zs) := by
  cases d with
  | lt b xs =>
    unfold aftH
    dsimp only
    cases e : H b with
    | none => exact .inl rfl
    | some o => cases o <;> first | exact .inl rfl | exact .inr ⟨b, xs, _, rfl, rfl⟩
  | _ => exact .inl rfl
theorem aftH_ne {a : Addr} (h : ∀ xs, d ≠ .lt a xs) : aftH d H a = H a := by
  rcases aftH_or (d := d) (H := H) with e | ⟨b, xs, zs, rfl, e⟩
  · rw [e]
  · rw [e, upd_ne (fun z => h xs (by rw [z]))]
theorem aftH_some {a : Addr} (h : H a ≠ none) : aftH d H a ≠ none := by
  rcases aftH_or (d := d) (H := H) with e | ⟨b, xs, zs, rfl, e⟩
  · rw [e]
    exact h
  · rw [e]
    by_cases z : a = b
    · rw [z, upd_same]; simp
    · rw [upd_ne z]; exact h
theorem ne_same {s : Str} : neX (.str s) (.str s) = some (.bl false) := by
  unfold neX
  simp [els, neS, eqs]
abbrev tLook (K : PySem.W.Frag) (E : XK) (ts : TA) : TS := tIfS (tTest (tOp (rNeX K) (tCallX (sp_law_caught K) (fun _ => E) ts) (tCB (rRepr K) (tCons (tVar 10) tNil)))) (tRet (tC (.bl false))) tNext
theorem look_ok {ts : TA} {gs : En' → Ou (List Da)} (sm : SM K) (hda : DAr K E ts gs) {w : List Da} {p : Nat} (B : Bad gs w p d) (en : EnvR K H N (ρA w p d) σ) {D : Ends} (q : ∀ N' H', Ev N H N' H' → N'.b = N.b → D.nx σ (aftH d H')) : tLook K E ts D σ H := by
  obtain ⟨ds, e1, e2⟩ := B.er
  obtain ⟨s, hs⟩ := B.rp
  refine hda N _ σ H _ en (Wn.okk e1 fun N1 H1 g1 vs hv => ?_)
  obtain ⟨v, rfl, hv2⟩ := hv.one
  refine ⟨N1, v, ds, d, s, rfl, g1.al, hv2, e2, B.ok, hs, fun N2 H2 g2 z2 => ?_⟩
  obtain ⟨bv, hb, hd⟩ := en.get 10 d rfl
  have hd2 : DV K (aftH d H2) N2 bv (aft d) := aft_dv B.ok (hd.g (g1.toEv.trans g2))
  refine ⟨bv, hb, ?_⟩
  show rRepr K [bv] (aftH d H2) (fun y H2 => rNeX K (V.str s) y H2 fun x H' => ∃ k, x = V.bl k ∧ (fun b H1 => if b = true then tRet (tC (V.bl false)) D σ H1 else tNext D σ H1) k H')
  refine repr_now sm hd2 hs ?_
  refine .inl ⟨rfl, ⟨_, rfl, ?_⟩⟩
  rw [decide_eq_true rfl]
  exact q N2 H2 (g1.toEv.trans g2) (z2.trans g1.bq)
/-- N and two lists of the loop's own -/
def Rg.two (N : Rg) (b1 b2 : Addr) : Rg := ⟨fun a => N a ∨ a = b1 ∨ a = b2, N.g, N.b⟩
/-- H without the two -/
def hid (H : Hp) (b1 b2 : Addr) : Hp := fun a => if a = b1 ∨ a = b2 then none else H a
theorem hid_ne {H : Hp} {b1 b2 a : Addr} (h : a ≠ b1) (h2 : a ≠ b2) : hid H b1 b2 a = H a := if_neg (by rintro (e | e); exact h e; exact h2 e)
theorem hid_same {H : Hp} {b1 b2 : Addr} : Same (hid H b1 b2) H := fun a o e => by
  unfold hid at e
  split at e
  · cases e
  · exact e
/-- what stands while the loop goes on: Hs without the two lists, H as it is -/
structure Two (K : PySem.W.Frag) (B : Bs) (Hs H : Hp) (N : Rg) (ρ : Es) (σ : St) (O : Nat → Option Addr) (b1 b2 : Addr) : Prop where
  e : EnvS K B Hs N ρ σ O
  s : Same Hs H
  n1 : Hs b1 = none
  n2 : Hs b2 = none
  h1 : H b1 ≠ none
  h2 : H b2 ≠ none
theorem Two.ne {ρ : Es} {b1 b2 : Addr} (t : Two K B Hs H N ρ σ O b1 b2) {a : Addr} (h : Hs a ≠ none) : a ≠ b1 ∧ a ≠ b2 := ⟨fun z => h (by rw [z]; exact t.n1), fun z => h (by rw [z]; exact t.n2)⟩
theorem Two.al {ρ : Es} {b1 b2 : Addr} (t : Two K B Hs H N ρ σ O b1 b2) : Al (Rg.two N b1 b2) H := ⟨fun a h => by
    rcases h with h | rfl | rfl
    · intro z
      exact t.e.al.n a h (t.s.free z)
    · exact t.h1
    · exact t.h2, fun a h => let ⟨o, e, g⟩ := t.e.al.g a h; ⟨o, t.s _ _ e, g⟩, fun a h n => by
    rcases n with n | rfl | rfl
    · exact t.e.al.d a h n
    · obtain ⟨o, e, _⟩ := t.e.al.g _ h
      rw [t.n1] at e
      cases e
    · obtain ⟨o, e, _⟩ := t.e.al.g _ h
      rw [t.n2] at e
      cases e⟩
/-- behind a look -/
theorem Two.step {ρ : Es} {b1 b2 : Addr} (t : Two K B Hs H N ρ σ O b1 b2) {N1 : Rg} {H1 : Hp} (g : Ev (Rg.two N b1 b2) H N1 H1) (hb : ∀ b xs, d = .lt b xs → b = b1 ∨ b = b2) :
    Two K B (hid (aftH d H1) b1 b2) (aftH d H1) (N.to N1) ρ σ O b1 b2 ∧ Ev N Hs (N.to N1) (hid (aftH d H1) b1 b2) := by
  have off : ∀ a, a ≠ b1 → a ≠ b2 → hid (aftH d H1) b1 b2 a = H1 a := fun a q1 q2 => by
    rw [hid_ne q1 q2]
    exact aftH_ne fun xs z => (hb _ _ z).elim q1 q2
  have gn : ∀ a, N1.g a → a ≠ b1 ∧ a ≠ b2 := fun a h => ⟨fun z => g.al.d a h (g.n a (.inr (.inl z))), fun z => g.al.d a h (g.n a (.inr (.inr z)))⟩
  have al : Al (N.to N1) (hid (aftH d H1) b1 b2) := ⟨fun a h => by
      have z := t.ne (t.e.al.n a h)
      rw [off a z.1 z.2]
      exact g.al.n a (g.n a (.inl h)), fun a h => by
      have z := gn a h
      rw [off a z.1 z.2]
      exact g.al.g a h, fun a h n => g.al.d a h (g.n a (.inl n))⟩
  have ev : Ev N Hs (N.to N1) (hid (aftH d H1) b1 b2) := by
    refine ⟨fun a o e n => ?_, fun _ h => h, fun a h => g.gg a h, fun _ h => .inl h, fun a h => (g.gw a h).imp id fun z => t.s.free z, g.tb, al⟩
    have z := t.ne (a := a) (by rw [e]; simp)
    rw [off a z.1 z.2]
    exact g.s a o (t.s _ _ e) n
  have h1 : H1 b1 ≠ none := g.al.n b1 (g.n b1 (.inr (.inl rfl)))
  have h2 : H1 b2 ≠ none := g.al.n b2 (g.n b2 (.inr (.inr rfl)))
  exact ⟨⟨t.e.g ev, hid_same, if_pos (.inl rfl), if_pos (.inr rfl), aftH_some h1, aftH_some h2⟩, ev⟩
theorem Two.look {ρ : Es} {b1 b2 : Addr} (t : Two K B Hs H N ρ σ O b1 b2) {ts : TA} {gs : En' → Ou (List Da)} (sm : SM K) (hda : DAr K E ts gs) {w : List Da} {p : Nat} (Bd : Bad gs w p d) (hb : ∀ b xs, d = .lt b xs → b = b1 ∨ b = b2)
    (hl : σ.length = 12) (h3 : σ[3]? = some (some (.int p))) (h7 : ρ[7]? = some (.sh (.tup w))) (h10 : σ[10]? = some (some x)) (hx : DV K H (Rg.two N b1 b2) x d) {D : Ends}
    (q : ∀ N' Hs' H', Two K B Hs' H' N' ρ σ O b1 b2 → Ev N Hs N' Hs' → N'.b = N.b → DV K H' (Rg.two N' b1 b2) x (aft d) → (∀ a o, (a = b1 ∨ a = b2) → (∀ xs, d ≠ .lt a xs) → H a = some o → H' a = some o) → D.nx σ H') : tLook K E ts D σ H := by
  obtain ⟨wv, hw, dw⟩ := t.e.sh 7 _ h7
  have dw2 : DV K H (Rg.two N b1 b2) wv (.tup w) := DV.same (N' := Rg.two N b1 b2) t.s (fun _ h => .inl h) dw
  have en : EnvR K H (Rg.two N b1 b2) (ρA w p d) σ := ⟨t.al, by rw [hl]; rfl, fun i d' e => by
    match i, e with
    | 3, e => cases e; exact ⟨_, h3, .int _⟩
    | 7, e => cases e; exact ⟨_, hw, dw2⟩
    | 10, e => cases e; exact ⟨_, h10, hx⟩
    | 0, e => cases e
    | 1, e => cases e
    | 2, e => cases e
    | 4, e => cases e
    | 5, e => cases e
    | 6, e => cases e
    | 8, e => cases e
    | 9, e => cases e
    | 11, e => cases e
    | i + 12, e => simp [ρA] at e⟩
  refine look_ok sm hda Bd en fun N1 H1 g z => ?_
  obtain ⟨t2, ev⟩ := t.step (d := d) g hb
  refine q _ _ _ t2 ev z ?_ fun a o ha hd e => ?_
  · have hx1 : DV K H1 (Rg.two (N.to N1) b1 b2) x d := DV.fr (N' := Rg.two (N.to N1) b1 b2) g.pz (fun a h _ => h) hx g.gg
    exact aft_dv Bd.ok hx1
  · rw [aftH_ne hd]
    exact g.s a o e fun zg => by
      have := g.al.d a (g.gg a zg) (g.n a (.inr ha))
      exact this
theorem EnvS.setNo {N : Rg} {ρ : Es} {i : Nat} (e : EnvS K B H N ρ σ O) (h : ρ[i]? = some .no) (u : Option V) : EnvS K B H N ρ (σ.set i u) O := by
  refine ⟨e.al, by rw [List.length_set, e.len], fun j d q => ?_, fun j ds q => ?_, fun c ks vs q => ?_, e.out, e.outx, e.new, e.inj, e.oal, e.xal, e.n0, e.w, e.keep, e.g0, e.gw, e.outg, e.outxg, e.tb⟩
  · have ne : i ≠ j := fun z => by rw [z, q] at h; cases h
    rw [List.getElem?_set_ne ne]
    exact e.sh j d q
  · have ne : i ≠ j := fun z => by rw [z, q] at h; cases h
    obtain ⟨a, xs, k1, k2, k3⟩ := e.ow j ds q
    exact ⟨a, xs, k1, by rw [List.getElem?_set_ne ne]; exact k2, k3⟩
  · have ne : i ≠ 0 := fun z => by rw [z, q] at h; cases h
    obtain ⟨a, dx, fs, k1, k2, k3⟩ := e.sf c ks vs q
    exact ⟨a, dx, fs, k1, by rw [List.getElem?_set_ne ne]; exact k2, k3⟩
theorem Two.setNo {ρ : Es} {b1 b2 : Addr} {i : Nat} (t : Two K B Hs H N ρ σ O b1 b2) (h : ρ[i]? = some .no) (u : Option V) : Two K B Hs H N ρ (σ.set i u) O b1 b2 := ⟨EnvS.setNo t.e h u, t.s, t.n1, t.n2, t.h1, t.h2⟩
theorem aft_eq {b1 b2 : Addr} {p : Nat} (hp : p < 5) : ∀ {i : Nat} {d : Da}, (bads b1 b2 0 p)[i]? = some d → (bads b1 b2 1 p)[i]? = some (aft d) := by
  intro i d e
  rcases p with _ | _ | _ | _ | _ | p
  iterate 5
    · rcases i with _ | _ | _ | _ | _ | _ | _ | _ | _ | _ | _ | _ | _ | _ | i
      iterate 14
        · cases e; rfl
      · simp [bads] at e
  · omega
theorem lt_at {b1 b2 : Addr} {p : Nat} (hp : p < 5) : ∀ {i : Nat} {d : Da} {b : Addr} {xs : List Da}, (bads b1 b2 0 p)[i]? = some d → d = .lt b xs → (i = 5 ∧ b = b1) ∨ (i = 11 ∧ b = b2) := by
  intro i d b xs e z
  subst z
  rcases p with _ | _ | _ | _ | _ | p
  iterate 5
    · rcases i with _ | _ | _ | _ | _ | _ | _ | _ | _ | _ | _ | _ | _ | _ | i
      iterate 14
        · cases e <;> simp
      · simp [bads] at e
  · omega
abbrev tBad (K : PySem.W.Frag) (E : XK) (tsA tsB : TA) : TS := tSeq (tLook K E tsA) (tLook K E tsB)
theorem inner_ok {tsA tsB : TA} (sm : SM K) (hA : DAr K E tsA gsA) (hB : DAr K E tsB gsB) {ρ : Es} {b1 b2 Pa : Addr} {odds : List V} {w : List Da} {p : Nat} (hw : w ∈ allW) (hp : p < 5) (hne : b1 ≠ b2) (t : Two K B Hs H N ρ σ O b1 b2)
    (hl : σ.length = 12) (h3 : σ[3]? = some (some (.int p))) (h7 : ρ[7]? = some (.sh (.tup w))) (h10 : ρ[10]? = some .no) (h9 : σ[9]? = some (some (.ref Pa))) (nP : N Pa) (hP : Hs Pa = some (.lst odds)) (hlen : odds.length = 14)
    (o5 : odds[5]? = some (.ref b1)) (o11 : odds[11]? = some (.ref b2)) (hd : ∀ (i : Nat) (x : V) (d : Da), odds[i]? = some x → (bads b1 b2 0 p)[i]? = some d → i ≠ 5 → i ≠ 11 → DV K Hs N x d)
    (c1 : H b1 = some (.lst [.str "keep"])) (c2 : H b2 = some (.lst [])) {D : Ends}
    (q : ∀ N' Hs' H' u, Two K B Hs' H' N' ρ (σ.set 10 u) O b1 b2 → Ev N Hs N' Hs' → N'.b = N.b → D.nx (σ.set 10 u) H') : tFor (iList K (tVar 9)) (gName 10) (tBad K E tsA tsB) D σ H := by
  have hPH : H Pa = some (.lst odds) := t.s _ _ hP
  refine ⟨_, h9, Pa, rfl, ⟨odds, .of hPH⟩, ?_⟩
  refine for_list (xs := odds) (fun i σ' H' => ∃ N' Hs' u, σ' = σ.set 10 u ∧ Two K B Hs' H' N' ρ σ' O b1 b2 ∧ Ev N Hs N' Hs' ∧ N'.b = N.b ∧ (i ≤ 5 → H' b1 = some (.lst [.str "keep"])) ∧ (i ≤ 11 → H' b2 = some (.lst []))) ?_ ?_ ?_ ?_
  · obtain ⟨u, hu⟩ : ∃ u, σ[10]? = some u := ⟨σ[10], by simp [hl]⟩
    refine ⟨N, Hs, u, ?_, t, .refl t.e.al, rfl, fun _ => c1, fun _ => c2⟩
    refine List.ext_getElem? fun j => ?_
    by_cases e : 10 = j
    · subst e
      rw [List.getElem?_set_self (by omega), hu]
    · rw [List.getElem?_set_ne e]
  · rintro i σ' H' _ ⟨N', Hs', u, rfl, t', ev, _⟩
    exact .of (t'.s _ _ (ev.pz _ _ nP hP))
  · rintro i x σ' H' hx ⟨N', Hs', u, rfl, t', ev, hb, k1, k2⟩
    have hi : i < 14 := by
      have := (List.getElem?_eq_some_iff.mp hx).1
      omega
    have hbl : (bads b1 b2 0 p).length = 14 := rfl
    obtain ⟨d, ed⟩ : ∃ d, (bads b1 b2 0 p)[i]? = some d := ⟨(bads b1 b2 0 p)[i]'(by rw [hbl]; exact hi), by simp⟩
    have ed1 := aft_eq hp ed
    have hlt : ∀ b xs, d = .lt b xs → b = b1 ∨ b = b2 := fun b xs z => (lt_at hp ed z).imp (·.2) (·.2)
    have n1 : i ≠ 5 → ∀ xs, d ≠ .lt b1 xs := fun hi xs z => (lt_at hp ed z).elim (fun y => hi y.1) fun y => hne y.2
    have n2 : i ≠ 11 → ∀ xs, d ≠ .lt b2 xs := fun hi xs z => (lt_at hp ed z).elim (fun y => hne y.2.symm) fun y => hi y.1
    have hdx : DV K H' (Rg.two N' b1 b2) x d := by
      by_cases e5 : i = 5
      · subst e5
        rw [o5] at hx
        cases hx
        cases ed
        exact .lt (.inr (.inl rfl)) (k1 (Nat.le_refl _)) rfl (DA.cons (.str _) .nil).2
      · by_cases e11 : i = 11
        · subst e11
          rw [o11] at hx
          cases hx
          cases ed
          exact .lt (.inr (.inr rfl)) (k2 (Nat.le_refl _)) rfl DA.nil.2
        · exact DV.same (N' := Rg.two N' b1 b2) t'.s (fun _ h => .inl h) ((hd i x d hx ed e5 e11).g ev)
    have e10 : ((σ.set 10 u).set 10 (some x)) = σ.set 10 (some x) := List.set_set ..
    have s10 : (σ.set 10 (some x))[10]? = some (some x) := List.getElem?_set_self (by omega)
    have s3 : (σ.set 10 (some x))[3]? = some (some (.int p)) := by rw [List.getElem?_set_ne (by decide)]; exact h3
    have sl : (σ.set 10 (some x)).length = 12 := by rw [List.length_set]; exact hl
    have t1 := t'.setNo h10 (some x)
    rw [e10] at t1
    have go : tBad K E tsA tsB { D with nx := fun σ' H' => ∃ N' Hs' u, σ' = σ.set 10 u ∧ Two K B Hs' H' N' ρ σ' O b1 b2 ∧ Ev N Hs N' Hs' ∧ N'.b = N.b ∧ (i + 1 ≤ 5 → H' b1 = some (.lst [.str "keep"])) ∧ (i + 1 ≤ 11 → H' b2 = some (.lst [])), ct := fun σ' H' => ∃ N' Hs' u, σ' = σ.set 10 u ∧ Two K B Hs' H' N' ρ σ' O b1 b2 ∧ Ev N Hs N' Hs' ∧ N'.b = N.b ∧ (i + 1 ≤ 5 → H' b1 = some (.lst [.str "keep"])) ∧ (i + 1 ≤ 11 → H' b2 = some (.lst [])), bk := D.nx } (σ.set 10 (some x)) H' := by
      refine t1.look sm hA (bad0 (b1 := b1) (b2 := b2) hw hp (List.mem_of_getElem? ed)) hlt sl s3 h7 s10 hdx fun N2 Hs2 H2 t2 ev2 z2 hx2 f2 => ?_
      refine t2.look sm hB (bad1 (b1 := b1) (b2 := b2) hw hp (List.mem_of_getElem? ed1)) (fun b xs z => ?_) sl s3 h7 s10 hx2 fun N3 Hs3 H3 t3 ev3 z3 _ f3 => ?_
      · cases d <;> first | (cases z; exact hlt _ _ rfl) | cases z
      · have na : ∀ b, (∀ xs, d ≠ .lt b xs) → ∀ xs, aft d ≠ .lt b xs := fun b h xs z => by
          cases d <;> first | (cases z; exact h _ rfl) | cases z
        refine ⟨N3, Hs3, _, rfl, t3, (ev.trans ev2).trans ev3, by rw [z3, z2, hb], fun h => ?_, fun h => ?_⟩
        · have h5 := n1 (by omega)
          exact f3 _ _ (.inl rfl) (na _ h5) (f2 _ _ (.inl rfl) h5 (k1 (by omega)))
        · have h5 := n2 (by omega)
          exact f3 _ _ (.inr rfl) (na _ h5) (f2 _ _ (.inr rfl) h5 (k2 (by omega)))
    show tBad K E tsA tsB _ ((σ.set 10 u).set 10 (some x)) H'
    rw [e10]
    exact go
  · rintro σ' H' ⟨N', Hs', u, rfl, t', ev, hb, _⟩
    exact q N' Hs' H' u t' ev hb
end
end L2.Dc.K20
namespace L2.Dc.K20
open PySem PySem.Spec PyProof.Rows L2.Fw
section
variable {P : Program} {w' : World} {K : PySem.W.Frag} {mg : Str → Option Value} {base : Heap} {E : XK} {H H' Hs Hf : Hp} {N N' : Rg} {v x : V} {d : Da} {σ : St} {B : Bs} {ρ : Es} {O : Nat → Option Addr}
/-- new objects L beside two that are hidden -/
def Rg.plus (N : Rg) (L : List Addr) : Rg := ⟨fun a => N a ∨ a ∈ L, N.g, N.b⟩
theorem Ev.two {b1 b2 : Addr} {L : List Addr} (al : Al N H) (s : Same H Hf) (h1 : H b1 = none) (h2 : H b2 = none) (hL : ∀ a ∈ L, H a = none ∧ Hf a ≠ none ∧ a ≠ b1 ∧ a ≠ b2) : Ev N H (Rg.plus N L) (hid Hf b1 b2) := by
  have off : ∀ {a : Addr}, H a ≠ none → a ≠ b1 ∧ a ≠ b2 := fun h => ⟨fun z => h (by rw [z]; exact h1), fun z => h (by rw [z]; exact h2)⟩
  have keep : ∀ {a : Addr} {o : HO}, H a = some o → hid Hf b1 b2 a = some o := fun {a o} e => by
    have z := off (a := a) (by rw [e]; simp)
    rw [hid_ne z.1 z.2]
    exact s _ _ e
  refine ⟨fun a o e _ => keep e, fun _ h => .inl h, fun _ h => h, fun a h => h.imp id fun m => (hL a m).1, fun _ h => .inl h, Nat.le_refl _, ⟨fun a h => ?_, fun a h => ?_, fun a h n => ?_⟩⟩
  · rcases h with h | m
    · intro z
      obtain ⟨o, e⟩ := Option.ne_none_iff_exists'.mp (al.n a h)
      rw [keep e] at z
      cases z
    · obtain ⟨_, m2, m3, m4⟩ := hL a m
      rw [hid_ne m3 m4]
      exact m2
  · obtain ⟨o, e, g⟩ := al.g a h
    exact ⟨o, keep e, g⟩
  · rcases n with n | m
    · exact al.d a h n
    · obtain ⟨o, e, _⟩ := al.g a h
      rw [(hL a m).1] at e
      cases e
theorem EnvS.clr {N : Rg} (e : EnvS K B H N ρ σ O) (i : Nat) (u : Option V) : EnvS K B H N (ρ.set i .no) (σ.set i u) (clrO O i) := by
  refine ⟨e.al, by rw [List.length_set, List.length_set, e.len], fun j d' q => ?_, fun j ds q => ?_, fun c ks vs q => ?_, fun j a h => e.out j a (clrO_some h).2, e.outx, fun j a h => e.new j a (clrO_some h).2, fun j k a h1 h2 => e.inj j k a (clrO_some h1).2 (clrO_some h2).2,
    fun j a h => e.oal j a (clrO_some h).2, e.xal, e.n0, e.w, e.keep, e.g0, e.gw, fun j a h => e.outg j a (clrO_some h).2, e.outxg, e.tb⟩
  · rcases get_set q with ⟨rfl, hl, hd⟩ | ⟨ne, q⟩
    · cases hd
    · rw [List.getElem?_set_ne (Ne.symm ne)]
      exact e.sh j d' q
  · rcases get_set q with ⟨rfl, hl, hd⟩ | ⟨ne, q⟩
    · cases hd
    · rw [List.getElem?_set_ne (Ne.symm ne)]
      obtain ⟨a, xs, k1, k2⟩ := e.ow j ds q
      exact ⟨a, xs, by unfold clrO; rw [if_neg ne]; exact k1, k2⟩
  · rcases get_set q with ⟨rfl, hl, hd⟩ | ⟨ne, q⟩
    · cases hd
    · rw [List.getElem?_set_ne (Ne.symm ne)]
      exact e.sf c ks vs q
def odd0 : TA := tCons (tC .non) (tCons (tC (.int 3)) (tCons (tC (.str "")) (tCons (tC (.str "Keep")) (tCons (tC (.str "none")) (tCons (tLst (tCons (tC (.str "keep")) tNil)) (tCons (tTup (tCons (tC (.str "keep")) tNil)) (tCons tDNewK (tCons (tC (.int 0)) (tCons (tC (.int 1)) (tCons (tC (.str "True")) (tCons (tLst tNil) tNil)))))))))))
def five1 : TA := tCons (tC (.str "things")) (tCons (tC (.str "add")) (tCons (tC (.str "things")) (tCons (tC (.str "keep")) (tCons (tC (.str "keep")) tNil))))
def five2 : TA := tCons (tC (.bl true)) (tCons (tC (.bl false)) (tCons (tC (.str "keep")) (tCons (tC (.bl true)) (tCons (tC (.str "models")) tNil))))
def tOdd (K : PySem.W.Frag) : TE := tOp (rAddX K) (tVar 9) (tLst (tCons (tOp (rIx K) (tLst five1) (tVar 3)) (tCons (tOp (rIx K) (tLst five2) (tVar 3)) tNil)))
def tS5 (K : PySem.W.Frag) (E : XK) (tsA tsB : TA) : TS := tFor (iRng1 (tCons (tC (.int 5)) tNil)) (gName 3) (tSeq (tAsg (tLst odd0) (gName 9)) (tSeq (tAsg (tOdd K) (gName 9)) (tFor (iList K (tVar 9)) (gName 10) (tBad K E tsA tsB))))
def y1 (p : Nat) : V := [V.str "things", .str "add", .str "things", .str "keep", .str "keep"].getD p .non
def y2 (p : Nat) : V := [V.bl true, .bl false, .str "keep", .bl true, .str "models"].getD p .non
theorem y_at {p : Nat} (hp : p < 5) : atI [V.str "things", .str "add", .str "things", .str "keep", .str "keep"] (p : Int) = some (y1 p) ∧ atI [V.bl true, .bl false, .str "keep", .bl true, .str "models"] (p : Int) = some (y2 p) ∧ (∀ {H : Hp} {N : Rg}, DV K H N (y1 p) (x1 p)) ∧ (∀ {H : Hp} {N : Rg}, DV K H N (y2 p) (x2 p)) := by
  rcases p with _ | _ | _ | _ | _ | p
  · exact ⟨rfl, rfl, .str _, .bl _⟩
  · exact ⟨rfl, rfl, .str _, .bl _⟩
  · exact ⟨rfl, rfl, .str _, .str _⟩
  · exact ⟨rfl, rfl, .str _, .bl _⟩
  · exact ⟨rfl, rfl, .str _, .str _⟩
  · omega
theorem Same.up {p : Addr} {u : HO} (n : H p = none) : Same H (upd H p u) := same_new (Same.refl _) n
/-- the lists as they are made -/
theorem odd_ok {t : TS} {D : Ends} {p : Nat} (hp : p < 5) (hl : σ.length = 12) (h3 : σ[3]? = some (some (.int p)))
    (q : ∀ b1 b2 t1 e1 Pa H', Same H H' → H b1 = none → H b2 = none → b1 ≠ b2 → H t1 = none → H e1 = none → H Pa = none → t1 ≠ b1 → t1 ≠ b2 → e1 ≠ b1 → e1 ≠ b2 → Pa ≠ b1 → Pa ≠ b2 →
      H' b1 = some (.lst [.str "keep"]) → H' b2 = some (.lst []) → H' t1 = some (.tup [.str "keep"]) → H' e1 = some (.dK []) → H' Pa = some (.lst [.non, .int 3, .str "", .str "Keep", .str "none", .ref b1, .ref t1, .ref e1, .int 0, .int 1, .str "True", .ref b2, y1 p, y2 p]) → t D (σ.set 9 (some (.ref Pa))) H') :
    tSeq (tAsg (tLst odd0) (gName 9)) (tSeq (tAsg (tOdd K) (gName 9)) t) D σ H := by
  refine ⟨lstLen (by show 1 ≤ 1000; decide), fun b1 n1 => ⟨lstLen (by show 1 ≤ 1000; decide), fun t1 n2 => fun e1 n3 => ⟨lstLen (by show 0 ≤ 1000; decide), fun b2 n4 => ⟨lstLen (by show 12 ≤ 1000; decide), fun P0 n5 => ?_⟩⟩⟩⟩
  have s1 := Same.up (u := .lst [.str "keep"]) n1
  have h1 : upd H b1 (.lst [.str "keep"]) b1 = _ := upd_same
  generalize upd H b1 (.lst [.str "keep"]) = Ha at s1 h1 n2 n3 n4 n5
  have s2 := Same.up (u := .tup [.str "keep"]) n2
  have h2 : upd Ha t1 (.tup [.str "keep"]) t1 = _ := upd_same
  generalize upd Ha t1 (.tup [.str "keep"]) = Hb at s2 h2 n3 n4 n5
  have s3 := Same.up (u := .dK []) n3
  have h4 : upd Hb e1 (.dK []) e1 = _ := upd_same
  generalize upd Hb e1 (.dK []) = Hc at s3 h4 n4 n5
  have s4 := Same.up (u := .lst []) n4
  have h5 : upd Hc b2 (.lst []) b2 = _ := upd_same
  generalize upd Hc b2 (.lst []) = Hd at s4 h5 n5
  have s5 := Same.up (u := .lst [.non, .int 3, .str "", .str "Keep", .str "none", .ref b1, .ref t1, .ref e1, .int 0, .int 1, .str "True", .ref b2]) n5
  have h6 : upd Hd P0 (.lst [.non, .int 3, .str "", .str "Keep", .str "none", .ref b1, .ref t1, .ref e1, .int 0, .int 1, .str "True", .ref b2]) P0 = _ := upd_same
  generalize upd Hd P0 (.lst [.non, .int 3, .str "", .str "Keep", .str "none", .ref b1, .ref t1, .ref e1, .int 0, .int 1, .str "True", .ref b2]) = He at s5 h6
  have e3 : (σ.set 9 (some (.ref P0)))[3]? = some (some (.int p)) := by rw [List.getElem?_set_ne (by decide)]; exact h3
  obtain ⟨a1, a2, _, _⟩ := y_at (K := K) hp
  refine ⟨_, List.getElem?_set_self (by omega), lstLen (by show 5 ≤ 1000; decide), fun q1 m1 => ⟨_, e3, .inl ⟨q1, _, _, _, rfl, rfl, .of upd_same, a1, ?_⟩⟩⟩
  have z1 := Same.up (u := .lst [V.str "things", .str "add", .str "things", .str "keep", .str "keep"]) m1
  refine ⟨lstLen (by show 5 ≤ 1000; decide), fun q2 m2 => ⟨_, e3, .inl ⟨q2, _, _, _, rfl, rfl, .of upd_same, a2, ?_⟩⟩⟩
  have z2 := z1.trans (Same.up (u := .lst [V.bl true, .bl false, .str "keep", .bl true, .str "models"]) m2)
  refine ⟨lstLen (by show 2 ≤ 1000; decide), fun q3 m3 => ?_⟩
  have z3 := z2.trans (Same.up (u := .lst [y1 p, y2 p]) m3)
  refine .inr (.inl ⟨P0, q3, _, _, rfl, rfl, z3 _ _ h6, upd_same, lstLen (by show 14 ≤ 1000; decide), fun Pa mP => ?_⟩)
  have z4 := z3.trans (Same.up (u := .lst [.non, .int 3, .str "", .str "Keep", .str "none", .ref b1, .ref t1, .ref e1, .int 0, .int 1, .str "True", .ref b2, y1 p, y2 p]) mP)
  have w4 := s5.trans z4
  have w3 := s4.trans w4
  have w2 := s3.trans w3
  have w1 := s2.trans w2
  have eq : (σ.set 9 (some (.ref P0))).set 9 (some (.ref Pa)) = σ.set 9 (some (.ref Pa)) := List.set_set ..
  show t D ((σ.set 9 (some (.ref P0))).set 9 (some (.ref Pa))) _
  rw [eq]
  have ne : ∀ {a b : Addr} {o : HO} {H : Hp}, H a = some o → H b = none → a ≠ b := fun e n => ne_of_none e n
  have fP : He Pa = none := z3.free mP
  refine q b1 b2 t1 e1 Pa _ (s1.trans w1) n1 ((s1.trans (s2.trans s3)).free n4) (ne ((s2.trans s3) _ _ h1) n4) (s1.free n2) ((s1.trans s2).free n3) ((s1.trans (s2.trans (s3.trans (s4.trans s5)))).free fP) (ne h1 n2).symm (ne (s3 _ _ h2) n4) (ne (s2 _ _ h1) n3).symm (ne h4 n4)
    (ne ((s2.trans (s3.trans (s4.trans s5))) _ _ h1) fP).symm (ne (s5 _ _ h5) fP).symm (w1 _ _ h1) (w4 _ _ h5) (w2 _ _ h2) (w3 _ _ h4) upd_same
theorem EnvS.clr' {N : Rg} (e : EnvS K B H N ρ σ O) (i : Nat) : EnvS K B H N (ρ.set i .no) σ (clrO O i) := by
  by_cases h : i < σ.length
  · have z := EnvS.clr e i σ[i]
    rw [List.set_getElem_self] at z
    exact z
  · have z := EnvS.clr e i none
    have h2 : σ.set i none = σ := List.set_eq_of_length_le (by omega)
    rw [h2] at z
    exact z
def isW : List Da → Bool
  | [.str o, .str t, .bl _, .str c, .bl _] => decide (o ∈ owns) && decide (t ∈ oths) && decide (c ∈ cnts)
  | _ => false
theorem isW_mem {w : List Da} (h : isW w = true) : w ∈ allW := by
  unfold isW at h
  split at h
  · rename_i o t b c l
    simp only [Bool.and_eq_true, decide_eq_true_eq] at h
    unfold allW
    refine List.mem_flatMap.mpr ⟨o, h.1.1, List.mem_flatMap.mpr ⟨t, h.1.2, List.mem_flatMap.mpr ⟨b, ?_, List.mem_flatMap.mpr ⟨c, h.2, List.mem_map.mpr ⟨l, ?_, rfl⟩⟩⟩⟩⟩
    · cases b <;> simp
    · cases l <;> simp
  · cases h
def no3 (ρ : Es) : Es := ((ρ.set 3 .no).set 9 .no).set 10 .no
def gS5 : Es → Fl := fun ρ => match (ρ[7]? : Option Sl) with
  | some (Sl.sh (Da.tup w)) => if ρ.length = 12 ∧ isW w = true then .nx (no3 ρ) else .bad
  | _ => .bad
theorem ds_S5 {tsA tsB : TA} (sm : SM K) (hA : DAr K E tsA gsA) (hB : DAr K E tsB gsB) : DS K E (tS5 K E tsA tsB) gS5 := by
  intro B H N ρ σ O D e w
  unfold gS5 at w
  split at w
  case h_2 => exact WS.ng w
  rename_i w0 q7
  split at w
  case isFalse => exact WS.ng w
  rename_i hc
  have hw := isW_mem hc.2
  have hρ : ρ.length = 12 := hc.1
  have hlen : (no3 ρ).length = 12 := by unfold no3; rw [List.length_set, List.length_set, List.length_set]; exact hρ
  have r3 : (no3 ρ)[3]? = some .no := by
    unfold no3
    rw [List.getElem?_set_ne (by decide), List.getElem?_set_ne (by decide), List.getElem?_set_self (by omega)]
  have r9 : (no3 ρ)[9]? = some .no := by
    unfold no3
    rw [List.getElem?_set_ne (by decide), List.getElem?_set_self (by rw [List.length_set]; omega)]
  have r10 : (no3 ρ)[10]? = some .no := by
    unfold no3
    rw [List.getElem?_set_self (by rw [List.length_set, List.length_set]; omega)]
  have r7 : (no3 ρ)[7]? = some (.sh (.tup w0)) := by
    unfold no3
    rw [List.getElem?_set_ne (by decide), List.getElem?_set_ne (by decide), List.getElem?_set_ne (by decide)]
    exact q7
  have e0 := EnvS.clr' (EnvS.clr' (EnvS.clr' e 3) 9) 10
  refine ⟨5, rfl, by decide, by decide, ?_⟩
  refine for_range (fun i σ' H' => ∃ N' O', EnvS K B H' N' (no3 ρ) σ' O' ∧ N'.b = N.b ∧ Kg N H N' H') ⟨N, _, e0, rfl, .refl⟩ ?_ ?_
  · rintro i σ' H' hi ⟨N', O', e', hb, kg⟩
    have hi : i < 5 := hi
    have z0 : (0 : Int) + (i : Nat) = (i : Nat) := by omega
    have sl : σ'.length = 12 := by rw [← e'.len]; exact hlen
    have e1 := EnvS.setNo e' r3 (some (.int (i : Nat)))
    refine odd_ok (σ := σ'.set 3 (some (.int (i : Nat)))) (p := i) hi (by rw [List.length_set]; exact sl) (List.getElem?_set_self (by omega)) ?_ |> fun h => by rw [← z0] at h; exact h
    intro b1 b2 t1 e1' Pa Hf s n1 n2 ne nt1 ne1 nPa x1' x2' x3 x4 x5 x6 c1 c2 ct ce cP
    have hL : ∀ a ∈ [t1, e1', Pa], H' a = none ∧ Hf a ≠ none ∧ a ≠ b1 ∧ a ≠ b2 := by
      intro a ha
      simp only [List.mem_cons, List.not_mem_nil, or_false] at ha
      rcases ha with rfl | rfl | rfl
      · exact ⟨nt1, by rw [ct]; simp, x1', x2'⟩
      · exact ⟨ne1, by rw [ce]; simp, x3, x4⟩
      · exact ⟨nPa, by rw [cP]; simp, x5, x6⟩
    have ev := Ev.two e'.al s n1 n2 hL
    have e2 := (EnvS.setNo e1 r9 (some (.ref Pa))).g ev
    have T : Two K B (hid Hf b1 b2) Hf (Rg.plus N' [t1, e1', Pa]) (no3 ρ) _ O' b1 b2 := ⟨e2, hid_same, if_pos (.inl rfl), if_pos (.inr rfl), by rw [c1]; simp, by rw [c2]; simp⟩
    have off : ∀ {a : Addr} {o : HO}, Hf a = some o → a ≠ b1 → a ≠ b2 → hid Hf b1 b2 a = some o := fun h k1 k2 => by rw [hid_ne k1 k2]; exact h
    refine inner_ok (p := i) sm hA hB hw hi ne T (by rw [List.length_set, List.length_set]; exact sl) (by rw [List.getElem?_set_ne (by decide), List.getElem?_set_self (by omega)]) r7 r10 (List.getElem?_set_self (by rw [List.length_set]; omega)) (.inr (by simp)) (off cP x5 x6) rfl rfl rfl ?_ c1 c2 ?_
    · intro j x d k1 k2 j5 j11
      obtain ⟨_, _, y3, y4⟩ := y_at (K := K) hi
      rcases j with _ | _ | _ | _ | _ | _ | _ | _ | _ | _ | _ | _ | _ | _ | j
      · cases k1; cases k2; exact .non
      · cases k1; cases k2; exact .int _
      · cases k1; cases k2; exact .str _
      · cases k1; cases k2; exact .str _
      · cases k1; cases k2; exact .str _
      · exact absurd rfl j5
      · cases k1; cases k2; exact .tup (.inl ⟨.inr (by simp), off ct x1' x2'⟩) rfl (DA.cons (.str _) .nil).2
      · cases k1; cases k2; exact .dct (.inr (by simp)) (off ce x3 x4) rfl rfl (fun i p d e => by simp at e)
      · cases k1; cases k2; exact .int _
      · cases k1; cases k2; exact .int _
      · cases k1; cases k2; exact .str _
      · exact absurd rfl j11
      · cases k1; cases k2; exact y3
      · cases k1; cases k2; exact y4
      · simp at k1
    · intro N3 Hs3 H3 u t3 ev3 z3
      have gs := (Grow.same t3.e.al t3.s).toEv
      exact ⟨N3, O', t3.e.g gs, by rw [z3]; exact hb, ((kg.trans (.of ev)).trans (.of ev3)).trans (.of gs)⟩
  · rintro σ' H' ⟨N', O', e', hb, kg⟩
    exact WS.nxt w kg hb e'
end
end L2.Dc.K20
namespace L2.Dc.K20
open PySem PySem.Spec PyProof.Rows L2.Fw
section
variable {P : Program} {w : World} {K : PySem.W.Frag} {mg : Str → Option Value} {base : Heap}
def b_law : Es → Fl := gSeq (gSet 1 (gCall m_law_all_rules fNil))
    (gSeq (gSet 2 (gLc [7] (giL (gVar 1)) [7] (mOne) ((fun _ => .ok true)) (gCallZ m_law_made_rule (fCons (gVar 7) fNil))))
    (gSeq (gFor (giR1 (fCons (gCB lenD (fCons (gVar 1) fNil)) fNil)) [3] (mOne) (gSeq (gSet 5 (gOp ix (gVar 2) (gVar 3)))
    (gSeq (gIfS (gTru (gOp neX (gCB reprD (fCons (fTup (fCons (gFld "Rule" "own" (gVar 5)) (fCons (gFld "Rule" "others" (gVar 5)) (fCons (gFld "Rule" "bears" (gVar 5)) (fCons (gFld "Rule" "counts" (gVar 5)) (fCons (gFld "Rule" "less" (gVar 5)) fNil)))))) fNil)) (gCB reprD (fCons (gOp ix (gVar 1) (gVar 3)) fNil)))) (gRet (gC (.bl false))) (gNx))
    (gSeq (gSet 6 (gCall m_law_made_rule (fCons (gOp ix (gVar 1) (gVar 3)) fNil)))
    (gSeq (gIfS (gTru (gOp neX (gLc [11] (giR1 (fCons (gCB lenD (fCons (gVar 1) fNil)) fNil)) [11] (mOne) (gTru (gOp neX (gOp (els eqX (Dq.eqO "Rule" m_Rule_eq)) (gOp ix (gVar 2) (gVar 11)) (gVar 6)) (gOp eqX (gVar 11) (gVar 3)))) (gVar 11)) (fLst fNil))) (gRet (gC (.bl false))) (gNx))
    (gIfS (gTru (gOp neX (gLc [11] (giL (gVar 2)) [11] (mOne) (gTru (gOp eqX (gOp (els neX (Dq.neO "Rule" m_Rule_eq)) (gVar 11) (gVar 6)) (gOp (els eqX (Dq.eqO "Rule" m_Rule_eq)) (gVar 11) (gVar 6)))) (gVar 11)) (fLst fNil))) (gRet (gC (.bl false))) (gNx)))))))
    (gSeq (gFor (giR1 (fCons (gC (.int 2)) fNil)) [4] (mOne) (gSeq (gSet 7 (gCall m_law_rule_parts (fCons (gGenr (fCons (gVar 0) (fCons (gVar 4) fNil))) fNil)))
    (gSeq (gSet 5 (gCall m_law_made_rule (fCons (gVar 7) fNil)))
    (gSeq (gFor (giL (fLst (fCons (gC .non) (fCons (gC (.int 0)) (fCons (gVar 7) (fCons (gCB listD (fCons (gVar 7) fNil)) (fCons (gC (.str "rule")) (fCons (gC (.dct [] [])) (fCons (gC (.bl true)) fNil))))))))) [8] (mOne) (gIfS (bOr (gTru (gOp (els eqX (Dq.eqO "Rule" m_Rule_eq)) (gVar 5) (gVar 8))) (bOr (gTru (gOp (els eqX (Dq.eqO "Rule" m_Rule_eq)) (gVar 8) (gVar 5))) (bNot (gTru (gOp (els neX (Dq.neO "Rule" m_Rule_eq)) (gVar 5) (gVar 8)))))) (gRet (gC (.bl false))) (gNx)))
    (gS5)))))
    (gRet (gC (.bl true))))))
def m_law : List Da → Ou Da := mDef 12 1 b_law
theorem fn_law (T : Txt P w K mg base) {fd : FuncData} (F : FunD K "law" "law" (defArgs s_law) (defBody s_law) (defScope s_law) [] [] (He.ga K "law") fd) : FnG P w K mg base 10 (He.ga K "law") fd ["script"] (spD K m_law) := by
  refine okGT (P := P) (w := w) (mg := mg) (base := base) (k := 9) F sc_law (fun vs H Q E h => spD_len h) (fun cdv A outer s H vs Q E hgd hr tk h => ?_)
  have hu := hr.units
  exact ⟨_, pss_cons (ps_set (i := 1) sc_law.nd rfl (by first | exact Or.inl rfl | exact Or.inr rfl) (pe_callT0 (E := E) (ok_law_all_rules T) hr tk rfl))
      (pss_cons (ps_set (i := 2) sc_law.nd rfl (by first | exact Or.inl rfl | exact Or.inr rfl) (pe_lc (own := [("words", 7)]) rfl sc_law.nd (pi_list (pv 1)) (blkOk_by (N := ["script", "every", "rules", "at", "index", "rule", "twin", "words", "thing", "odd", "bad", "other"]) (own := [("words", 7)]) (sc := defScope s_law) (by decide +kernel)) (fun _ _ _ _ _ => pg_name (i := 7) sc_law.nd rfl (by first | exact Or.inl rfl | exact Or.inr rfl)) (fun _ _ _ _ _ => pts_nil) (fun _ _ _ _ _ => pe_callL (ok_law_made_rule T) hr rfl (pa_cons (pv 7) pa_nil))))
      (pss_cons (ps_for (passes_of rfl) rfl (pi_range1 rfl (T.fr "range" (by decide)) (pa_cons (pe_callB call_len rfl (T.fr "len" (by decide)) (by decide +kernel) (pa_cons (pv 1) pa_nil)) pa_nil)) (pg_name (i := 3) sc_law.nd rfl (by first | exact Or.inl rfl | exact Or.inr rfl)) (pss_cons (ps_set (i := 5) sc_law.nd rfl (by first | exact Or.inl rfl | exact Or.inr rfl) (pe_ix ix_seq (pv 2) (pv 3) (fun _ _ => rfl)))
      (pss_cons (ps_if (pt_cmpR (op_neX hu) (pe_callB (call_repr hgd hu) rfl (T.fr "repr" (by decide)) (by decide +kernel) (pa_cons (pe_tup (pa_cons (pe_fld (pv 5) rfl) (pa_cons (pe_fld (pv 5) rfl) (pa_cons (pe_fld (pv 5) rfl) (pa_cons (pe_fld (pv 5) rfl) (pa_cons (pe_fld (pv 5) rfl) pa_nil)))))) pa_nil)) (pe_callB (call_repr hgd hu) rfl (T.fr "repr" (by decide)) (by decide +kernel) (pa_cons (pe_ix ix_seq (pv 1) (pv 3) (fun _ _ => rfl)) pa_nil)) (nomark _)) (pss_one (ps_ret (pe_bl))) (pss_nil))
      (pss_cons (ps_set (i := 6) sc_law.nd rfl (by first | exact Or.inl rfl | exact Or.inr rfl) (pe_callT (E := E) (ok_law_made_rule T) hr tk rfl (pa_cons (pe_ix ix_seq (pv 1) (pv 3) (fun _ _ => rfl)) pa_nil)))
      (pss_cons (ps_if (pt_cmpR (op_neX hu) (pe_lc (own := [("other", 11)]) rfl sc_law.nd (pi_range1 rfl (T.fr "range" (by decide)) (pa_cons (pe_callB call_len rfl (T.fr "len" (by decide)) (by decide +kernel) (pa_cons (pv 1) pa_nil)) pa_nil)) (blkOk_by (N := ["script", "every", "rules", "at", "index", "rule", "twin", "words", "thing", "odd", "bad", "other"]) (own := [("other", 11)]) (sc := defScope s_law) (by decide +kernel)) (fun _ _ _ _ _ => pg_name (i := 11) sc_law.nd rfl (by first | exact Or.inl rfl | exact Or.inr rfl)) (fun _ _ _ _ _ => pts_one (pt_cmpR (op_neX hu) (pe_cmpR (Dq.op_eqY (T.q_Rule) (ok_Rule_eq T) hr) (pe_ix ix_seq (pv 2) (pv 11) (fun _ _ => rfl)) (pv 6) (nomark _)) (pe_cmpR (op_eqX hu) (pv 11) (pv 3) (nomark _)) (nomark _))) (fun _ _ _ _ _ => pv 11)) (pe_lst pa_nil) (nomark _)) (pss_one (ps_ret (pe_bl))) (pss_nil))
      (pss_one (ps_if (pt_cmpR (op_neX hu) (pe_lc (own := [("other", 11)]) rfl sc_law.nd (pi_list (pv 2)) (blkOk_by (N := ["script", "every", "rules", "at", "index", "rule", "twin", "words", "thing", "odd", "bad", "other"]) (own := [("other", 11)]) (sc := defScope s_law) (by decide +kernel)) (fun _ _ _ _ _ => pg_name (i := 11) sc_law.nd rfl (by first | exact Or.inl rfl | exact Or.inr rfl)) (fun _ _ _ _ _ => pts_one (pt_cmpR (op_eqX hu) (pe_cmpR (Dq.op_neY (T.q_Rule) (T.n_Rule) (ok_Rule_eq T) hr) (pv 11) (pv 6) (nomark _)) (pe_cmpR (Dq.op_eqY (T.q_Rule) (ok_Rule_eq T) hr) (pv 11) (pv 6) (nomark _)) (nomark _))) (fun _ _ _ _ _ => pv 11)) (pe_lst pa_nil) (nomark _)) (pss_one (ps_ret (pe_bl))) (pss_nil))))))))
      (pss_cons (ps_for (passes_of rfl) rfl (pi_range1 rfl (T.fr "range" (by decide)) (pa_cons (pe_int) pa_nil)) (pg_name (i := 4) sc_law.nd rfl (by first | exact Or.inl rfl | exact Or.inr rfl)) (pss_cons (ps_set (i := 7) sc_law.nd rfl (by first | exact Or.inl rfl | exact Or.inr rfl) (pe_callT (E := E) (ok_law_rule_parts T) hr tk rfl (pa_cons (pe_callT (E := E) (ok_law_generator T) hr tk rfl (pa_cons (pv 0) (pa_cons (pv 4) pa_nil))) pa_nil)))
      (pss_cons (ps_set (i := 5) sc_law.nd rfl (by first | exact Or.inl rfl | exact Or.inr rfl) (pe_callT (E := E) (ok_law_made_rule T) hr tk rfl (pa_cons (pv 7) pa_nil)))
      (pss_cons (ps_for (passes_of rfl) rfl (pi_list (pe_lst (pa_cons (pe_non) (pa_cons (pe_int) (pa_cons (pv 7) (pa_cons (pe_callTy call_list_of rfl (T.fr "list" (by decide)) (by decide +kernel) (pa_cons (pv 7) pa_nil)) (pa_cons (pe_str) (pa_cons (pe_dnewK) (pa_cons (pe_bl) pa_nil))))))))) (pg_name (i := 8) sc_law.nd rfl (by first | exact Or.inl rfl | exact Or.inr rfl)) (pss_one (ps_if (PW.pt (pw_or (pt_cmpR (Dq.op_eqY (T.q_Rule) (ok_Rule_eq T) hr) (pv 5) (pv 8) (nomark _)) (pw_or (pt_cmpR (Dq.op_eqY (T.q_Rule) (ok_Rule_eq T) hr) (pv 8) (pv 5) (nomark _)) (pw_or1 (pt_not (pt_cmpR (Dq.op_neY (T.q_Rule) (T.n_Rule) (ok_Rule_eq T) hr) (pv 5) (pv 8) (nomark _))))))) (pss_one (ps_ret (pe_bl))) (pss_nil))))
      (pss_one (ps_for (passes_of rfl) rfl (pi_range1 rfl (T.fr "range" (by decide)) (pa_cons (pe_int) pa_nil)) (pg_name (i := 3) sc_law.nd rfl (by first | exact Or.inl rfl | exact Or.inr rfl)) (pss_cons (ps_set (i := 9) sc_law.nd rfl (by first | exact Or.inl rfl | exact Or.inr rfl) (pe_lst (pa_cons (pe_non) (pa_cons (pe_int) (pa_cons (pe_str) (pa_cons (pe_str) (pa_cons (pe_str) (pa_cons (pe_lst (pa_cons (pe_str) pa_nil)) (pa_cons (pe_tup (pa_cons (pe_str) pa_nil)) (pa_cons (pe_dnewK) (pa_cons (pe_int) (pa_cons (pe_int) (pa_cons (pe_str) (pa_cons (pe_lst pa_nil) pa_nil))))))))))))))
      (pss_cons (ps_set (i := 9) sc_law.nd rfl (by first | exact Or.inl rfl | exact Or.inr rfl) (pe_op op_addX (pv 9) (pe_lst (pa_cons (pe_ix ix_seq (pe_lst (pa_cons (pe_str) (pa_cons (pe_str) (pa_cons (pe_str) (pa_cons (pe_str) (pa_cons (pe_str) pa_nil)))))) (pv 3) (fun _ _ => rfl)) (pa_cons (pe_ix ix_seq (pe_lst (pa_cons (pe_bl) (pa_cons (pe_bl) (pa_cons (pe_str) (pa_cons (pe_bl) (pa_cons (pe_str) pa_nil)))))) (pv 3) (fun _ _ => rfl)) pa_nil)))))
      (pss_one (ps_for (passes_of rfl) rfl (pi_list (pv 9)) (pg_name (i := 10) sc_law.nd rfl (by first | exact Or.inl rfl | exact Or.inr rfl)) (pss_cons (ps_if (pt_cmpR (op_neX hu) (pe_gcallT (E := E) (ok_law_caught T) hgd hr tk rfl (pa_cons (pe_op op_addX (pe_op op_addX (pe_slice sl_any (pv 7) (po_none) (po_some (pv 3))) (pe_tup (pa_cons (pv 10) pa_nil))) (pe_slice sl_any (pv 7) (po_some (pe_op op_addX (pv 3) (pe_int))) (po_none))) pa_nil)) (pe_callB (call_repr hgd hu) rfl (T.fr "repr" (by decide)) (by decide +kernel) (pa_cons (pv 10) pa_nil)) (nomark _)) (pss_one (ps_ret (pe_bl))) (pss_nil))
      (pss_one (ps_if (pt_cmpR (op_neX hu) (pe_gcallT (E := E) (ok_law_caught T) hgd hr tk rfl (pa_cons (pe_op op_addX (pe_op op_addX (pe_slice sl_any (pv 7) (po_none) (po_some (pv 3))) (pe_tup (pa_cons (pv 10) pa_nil))) (pe_op op_mulX (pe_tup (pa_cons (pe_non) pa_nil)) (pe_op op_sub (pe_int) (pv 3)))) pa_nil)) (pe_callB (call_repr hgd hu) rfl (T.fr "repr" (by decide)) (by decide +kernel) (pa_cons (pv 10) pa_nil)) (nomark _)) (pss_one (ps_ret (pe_bl))) (pss_nil))))))))))))))
      (pss_one (ps_ret (pe_bl)))))),
    spD_run (M := ["script", "every", "rules", "at", "index", "rule", "twin", "words", "thing", "odd", "bad", "other"]) (ds_seq (ds_set (de_call da_nil))
      (ds_seq (ds_set (de_lc (vs := [7]) (E' := E) (di_list (de_var 1)) (dg_name 7) (dt_yes) (de_callZ (da_cons (de_var 7) da_nil))))
      (ds_seq (ds_for (di_range1 (da_cons (de_cb dc_len (da_cons (de_var 1) da_nil)) da_nil)) (dg_name 3) (ds_seq (ds_set (de_op do_ix (de_var 2) (de_var 3)))
      (ds_seq (ds_if (dt_test (de_op do_neX (de_cb (dc_repr T.sm) (da_cons (de_tup (da_cons (de_fld T.c_Rule.ci.cl (T.c_Rule.na "own" (by decide)) (de_var 5)) (da_cons (de_fld T.c_Rule.ci.cl (T.c_Rule.na "others" (by decide)) (de_var 5)) (da_cons (de_fld T.c_Rule.ci.cl (T.c_Rule.na "bears" (by decide)) (de_var 5)) (da_cons (de_fld T.c_Rule.ci.cl (T.c_Rule.na "counts" (by decide)) (de_var 5)) (da_cons (de_fld T.c_Rule.ci.cl (T.c_Rule.na "less" (by decide)) (de_var 5)) da_nil)))))) da_nil)) (de_cb (dc_repr T.sm) (da_cons (de_op do_ix (de_var 1) (de_var 3)) da_nil)))) (ds_ret (de_bl false)) (ds_nil))
      (ds_seq (ds_set (de_call (da_cons (de_op do_ix (de_var 1) (de_var 3)) da_nil)))
      (ds_seq (ds_if (dt_test (de_op do_neX (de_lc (vs := [11]) (E' := E) (di_range1 (da_cons (de_cb dc_len (da_cons (de_var 1) da_nil)) da_nil)) (dg_name 11) (dt_test (de_op do_neX (de_op Dq.do_eqY (de_op do_ix (de_var 2) (de_var 11)) (de_var 6)) (de_op do_eqX (de_var 11) (de_var 3)))) (de_var 11)) (de_lst da_nil))) (ds_ret (de_bl false)) (ds_nil))
      (ds_if (dt_test (de_op do_neX (de_lc (vs := [11]) (E' := E) (di_list (de_var 2)) (dg_name 11) (dt_test (de_op do_eqX (de_op Dq.do_neY (de_var 11) (de_var 6)) (de_op Dq.do_eqY (de_var 11) (de_var 6)))) (de_var 11)) (de_lst da_nil))) (ds_ret (de_bl false)) (ds_nil)))))))
      (ds_seq (ds_for (di_range1 (da_cons (de_int 2) da_nil)) (dg_name 4) (ds_seq (ds_set (de_call (da_cons (de_genr (da_cons (de_var 0) (da_cons (de_var 4) da_nil))) da_nil)))
      (ds_seq (ds_set (de_call (da_cons (de_var 7) da_nil)))
      (ds_seq (ds_for (di_list (de_lst (da_cons (de_non) (da_cons (de_int 0) (da_cons (de_var 7) (da_cons (de_cb dc_list (da_cons (de_var 7) da_nil)) (da_cons (de_str "rule") (da_cons (de_dnew) (da_cons (de_bl true) da_nil))))))))) (dg_name 8) (ds_if (dt_or (dt_test (de_op Dq.do_eqY (de_var 5) (de_var 8))) (dt_or (dt_test (de_op Dq.do_eqY (de_var 8) (de_var 5))) (dt_not (dt_test (de_op Dq.do_neY (de_var 5) (de_var 8)))))) (ds_ret (de_bl false)) (ds_nil)))
      (ds_S5 T.sm (da_cons (de_op do_addX (de_op do_addX (de_slX (de_var 7) (dpo_none) (dpo_some (de_var 3))) (de_tup (da_cons (de_var 10) da_nil))) (de_slX (de_var 7) (dpo_some (de_op do_addX (de_var 3) (de_int 1))) (dpo_none))) da_nil) (da_cons (de_op do_addX (de_op do_addX (de_slX (de_var 7) (dpo_none) (dpo_some (de_var 3))) (de_tup (da_cons (de_var 10) da_nil))) (de_op do_mulX (de_tup (da_cons (de_non) da_nil)) (de_op do_sub (de_int 4) (de_var 3)))) da_nil))))))
      (ds_ret (de_bl true)))))) h⟩
end
end L2.Dc.K20
namespace L2.Dc.K20
open PySem PySem.Spec PyProof.Rows L2.Fw
def c0 : Es → Fl := gSet 1 (gCall m_law_all_rules fNil)
def c1 : Es → Fl := gSet 2 (gLc [7] (giL (gVar 1)) [7] (mOne) ((fun _ => .ok true)) (gCallZ m_law_made_rule (fCons (gVar 7) fNil)))
def c2 : Es → Fl := gFor (giR1 (fCons (gCB lenD (fCons (gVar 1) fNil)) fNil)) [3] (mOne) (gSeq (gSet 5 (gOp ix (gVar 2) (gVar 3)))
    (gSeq (gIfS (gTru (gOp neX (gCB reprD (fCons (fTup (fCons (gFld "Rule" "own" (gVar 5)) (fCons (gFld "Rule" "others" (gVar 5)) (fCons (gFld "Rule" "bears" (gVar 5)) (fCons (gFld "Rule" "counts" (gVar 5)) (fCons (gFld "Rule" "less" (gVar 5)) fNil)))))) fNil)) (gCB reprD (fCons (gOp ix (gVar 1) (gVar 3)) fNil)))) (gRet (gC (.bl false))) (gNx))
    (gSeq (gSet 6 (gCall m_law_made_rule (fCons (gOp ix (gVar 1) (gVar 3)) fNil)))
    (gSeq (gIfS (gTru (gOp neX (gLc [11] (giR1 (fCons (gCB lenD (fCons (gVar 1) fNil)) fNil)) [11] (mOne) (gTru (gOp neX (gOp (els eqX (Dq.eqO "Rule" m_Rule_eq)) (gOp ix (gVar 2) (gVar 11)) (gVar 6)) (gOp eqX (gVar 11) (gVar 3)))) (gVar 11)) (fLst fNil))) (gRet (gC (.bl false))) (gNx))
    (gIfS (gTru (gOp neX (gLc [11] (giL (gVar 2)) [11] (mOne) (gTru (gOp eqX (gOp (els neX (Dq.neO "Rule" m_Rule_eq)) (gVar 11) (gVar 6)) (gOp (els eqX (Dq.eqO "Rule" m_Rule_eq)) (gVar 11) (gVar 6)))) (gVar 11)) (fLst fNil))) (gRet (gC (.bl false))) (gNx))))))
def ca : Es → Fl := gSeq (gSet 5 (gOp ix (gVar 2) (gVar 3)))
    (gSeq (gIfS (gTru (gOp neX (gCB reprD (fCons (fTup (fCons (gFld "Rule" "own" (gVar 5)) (fCons (gFld "Rule" "others" (gVar 5)) (fCons (gFld "Rule" "bears" (gVar 5)) (fCons (gFld "Rule" "counts" (gVar 5)) (fCons (gFld "Rule" "less" (gVar 5)) fNil)))))) fNil)) (gCB reprD (fCons (gOp ix (gVar 1) (gVar 3)) fNil)))) (gRet (gC (.bl false))) (gNx))
    (gSeq (gSet 6 (gCall m_law_made_rule (fCons (gOp ix (gVar 1) (gVar 3)) fNil)))
    (gSeq (gIfS (gTru (gOp neX (gLc [11] (giR1 (fCons (gCB lenD (fCons (gVar 1) fNil)) fNil)) [11] (mOne) (gTru (gOp neX (gOp (els eqX (Dq.eqO "Rule" m_Rule_eq)) (gOp ix (gVar 2) (gVar 11)) (gVar 6)) (gOp eqX (gVar 11) (gVar 3)))) (gVar 11)) (fLst fNil))) (gRet (gC (.bl false))) (gNx))
    (gIfS (gTru (gOp neX (gLc [11] (giL (gVar 2)) [11] (mOne) (gTru (gOp eqX (gOp (els neX (Dq.neO "Rule" m_Rule_eq)) (gVar 11) (gVar 6)) (gOp (els eqX (Dq.eqO "Rule" m_Rule_eq)) (gVar 11) (gVar 6)))) (gVar 11)) (fLst fNil))) (gRet (gC (.bl false))) (gNx)))))
theorem c2_eq : c2 = gFor (giR1 (fCons (gCB lenD (fCons (gVar 1) fNil)) fNil)) [3] (mOne) ca := rfl
def cb : Es → Fl := gSeq (gSet 7 (gCall m_law_rule_parts (fCons (gGenr (fCons (gVar 0) (fCons (gVar 4) fNil))) fNil)))
    (gSeq (gSet 5 (gCall m_law_made_rule (fCons (gVar 7) fNil)))
    (gSeq (gFor (giL (fLst (fCons (gC .non) (fCons (gC (.int 0)) (fCons (gVar 7) (fCons (gCB listD (fCons (gVar 7) fNil)) (fCons (gC (.str "rule")) (fCons (gC (.dct [] [])) (fCons (gC (.bl true)) fNil))))))))) [8] (mOne) (gIfS (bOr (gTru (gOp (els eqX (Dq.eqO "Rule" m_Rule_eq)) (gVar 5) (gVar 8))) (bOr (gTru (gOp (els eqX (Dq.eqO "Rule" m_Rule_eq)) (gVar 8) (gVar 5))) (bNot (gTru (gOp (els neX (Dq.neO "Rule" m_Rule_eq)) (gVar 5) (gVar 8)))))) (gRet (gC (.bl false))) (gNx)))
    (gS5)))
def c3 : Es → Fl := gFor (giR1 (fCons (gC (.int 2)) fNil)) [4] (mOne) cb
def c4 : Es → Fl := gRet (gC (.bl true))
theorem b_law_eq : b_law = gSeq c0 (gSeq c1 (gSeq c2 (gSeq c3 c4))) := rfl
def ρ0 : Es := ini 12 [.scr]
def fchk (nx : Es → Bool) (rt : Da → Bool) (f : Fl) : Nat → Bool := match f with
  | .nx ρ => fun _ => nx ρ
  | .rt d => fun _ => rt d
  | .er _ _ => fun _ => false
  | .bad => fun _ => false
  | .any n k => fun b => match b with
    | 0 => false
    | b + 1 => (List.range n).all fun i => fchk nx rt (k i) b
def isJ (ρ : Es) : Bool := Nat.beq ρ.length 12 && match ρ with
  | .sh .scr :: _ => true
  | _ => false
theorem p1 (a1 a2 a3 a5 a6 a7 a8 a9 a10 a11 : Sl) : fchk isJ (fun _ => false) (cb [.sh .scr, a1, a2, a3, .sh (.int 0), a5, a6, a7, a8, a9, a10, a11]) 10 = true := by kernel_rfl
theorem p2 (a1 a2 a3 a5 a6 a7 a8 a9 a10 a11 : Sl) : fchk isJ (fun _ => false) (cb [.sh .scr, a1, a2, a3, .sh (.int 1), a5, a6, a7, a8, a9, a10, a11]) 10 = true := by kernel_rfl
def ruleOf (w : List Da) : Da := .ins "Rule" ["own", "others", "bears", "counts", "less"] w
def EV : Da := .lst (allW.map .tup)
def RU : Da := .lst (allW.map ruleOf)
def ρ1 : Es := [.sh .scr, .sh EV, .sh RU, .no, .no, .no, .no, .no, .no, .no, .no, .no]
theorem p0 : gSeq c0 c1 ρ0 = .nx ρ1 := by kernel_rfl
theorem q0 (a4 a5 a6 a7 a8 a9 a10 a11 : Sl) : ca [.sh .scr, .sh EV, .sh RU, .sh (.int 0), a4, a5, a6, a7, a8, a9, a10, a11] = .nx [.sh .scr, .sh EV, .sh RU, .sh (.int 0), a4, .sh (ruleOf (allW.getD 0 [])), .sh (ruleOf (allW.getD 0 [])), a7, a8, a9, a10, a11] := by kernel_rfl
theorem q1 (a4 a5 a6 a7 a8 a9 a10 a11 : Sl) : ca [.sh .scr, .sh EV, .sh RU, .sh (.int 1), a4, a5, a6, a7, a8, a9, a10, a11] = .nx [.sh .scr, .sh EV, .sh RU, .sh (.int 1), a4, .sh (ruleOf (allW.getD 1 [])), .sh (ruleOf (allW.getD 1 [])), a7, a8, a9, a10, a11] := by kernel_rfl
theorem q2 (a4 a5 a6 a7 a8 a9 a10 a11 : Sl) : ca [.sh .scr, .sh EV, .sh RU, .sh (.int 2), a4, a5, a6, a7, a8, a9, a10, a11] = .nx [.sh .scr, .sh EV, .sh RU, .sh (.int 2), a4, .sh (ruleOf (allW.getD 2 [])), .sh (ruleOf (allW.getD 2 [])), a7, a8, a9, a10, a11] := by kernel_rfl
theorem q3 (a4 a5 a6 a7 a8 a9 a10 a11 : Sl) : ca [.sh .scr, .sh EV, .sh RU, .sh (.int 3), a4, a5, a6, a7, a8, a9, a10, a11] = .nx [.sh .scr, .sh EV, .sh RU, .sh (.int 3), a4, .sh (ruleOf (allW.getD 3 [])), .sh (ruleOf (allW.getD 3 [])), a7, a8, a9, a10, a11] := by kernel_rfl
theorem q4 (a4 a5 a6 a7 a8 a9 a10 a11 : Sl) : ca [.sh .scr, .sh EV, .sh RU, .sh (.int 4), a4, a5, a6, a7, a8, a9, a10, a11] = .nx [.sh .scr, .sh EV, .sh RU, .sh (.int 4), a4, .sh (ruleOf (allW.getD 4 [])), .sh (ruleOf (allW.getD 4 [])), a7, a8, a9, a10, a11] := by kernel_rfl
theorem q5 (a4 a5 a6 a7 a8 a9 a10 a11 : Sl) : ca [.sh .scr, .sh EV, .sh RU, .sh (.int 5), a4, a5, a6, a7, a8, a9, a10, a11] = .nx [.sh .scr, .sh EV, .sh RU, .sh (.int 5), a4, .sh (ruleOf (allW.getD 5 [])), .sh (ruleOf (allW.getD 5 [])), a7, a8, a9, a10, a11] := by kernel_rfl
theorem q6 (a4 a5 a6 a7 a8 a9 a10 a11 : Sl) : ca [.sh .scr, .sh EV, .sh RU, .sh (.int 6), a4, a5, a6, a7, a8, a9, a10, a11] = .nx [.sh .scr, .sh EV, .sh RU, .sh (.int 6), a4, .sh (ruleOf (allW.getD 6 [])), .sh (ruleOf (allW.getD 6 [])), a7, a8, a9, a10, a11] := by kernel_rfl
theorem q7 (a4 a5 a6 a7 a8 a9 a10 a11 : Sl) : ca [.sh .scr, .sh EV, .sh RU, .sh (.int 7), a4, a5, a6, a7, a8, a9, a10, a11] = .nx [.sh .scr, .sh EV, .sh RU, .sh (.int 7), a4, .sh (ruleOf (allW.getD 7 [])), .sh (ruleOf (allW.getD 7 [])), a7, a8, a9, a10, a11] := by kernel_rfl
theorem q8 (a4 a5 a6 a7 a8 a9 a10 a11 : Sl) : ca [.sh .scr, .sh EV, .sh RU, .sh (.int 8), a4, a5, a6, a7, a8, a9, a10, a11] = .nx [.sh .scr, .sh EV, .sh RU, .sh (.int 8), a4, .sh (ruleOf (allW.getD 8 [])), .sh (ruleOf (allW.getD 8 [])), a7, a8, a9, a10, a11] := by kernel_rfl
theorem q9 (a4 a5 a6 a7 a8 a9 a10 a11 : Sl) : ca [.sh .scr, .sh EV, .sh RU, .sh (.int 9), a4, a5, a6, a7, a8, a9, a10, a11] = .nx [.sh .scr, .sh EV, .sh RU, .sh (.int 9), a4, .sh (ruleOf (allW.getD 9 [])), .sh (ruleOf (allW.getD 9 [])), a7, a8, a9, a10, a11] := by kernel_rfl
theorem q10 (a4 a5 a6 a7 a8 a9 a10 a11 : Sl) : ca [.sh .scr, .sh EV, .sh RU, .sh (.int 10), a4, a5, a6, a7, a8, a9, a10, a11] = .nx [.sh .scr, .sh EV, .sh RU, .sh (.int 10), a4, .sh (ruleOf (allW.getD 10 [])), .sh (ruleOf (allW.getD 10 [])), a7, a8, a9, a10, a11] := by kernel_rfl
theorem q11 (a4 a5 a6 a7 a8 a9 a10 a11 : Sl) : ca [.sh .scr, .sh EV, .sh RU, .sh (.int 11), a4, a5, a6, a7, a8, a9, a10, a11] = .nx [.sh .scr, .sh EV, .sh RU, .sh (.int 11), a4, .sh (ruleOf (allW.getD 11 [])), .sh (ruleOf (allW.getD 11 [])), a7, a8, a9, a10, a11] := by kernel_rfl
theorem q12 (a4 a5 a6 a7 a8 a9 a10 a11 : Sl) : ca [.sh .scr, .sh EV, .sh RU, .sh (.int 12), a4, a5, a6, a7, a8, a9, a10, a11] = .nx [.sh .scr, .sh EV, .sh RU, .sh (.int 12), a4, .sh (ruleOf (allW.getD 12 [])), .sh (ruleOf (allW.getD 12 [])), a7, a8, a9, a10, a11] := by kernel_rfl
theorem q13 (a4 a5 a6 a7 a8 a9 a10 a11 : Sl) : ca [.sh .scr, .sh EV, .sh RU, .sh (.int 13), a4, a5, a6, a7, a8, a9, a10, a11] = .nx [.sh .scr, .sh EV, .sh RU, .sh (.int 13), a4, .sh (ruleOf (allW.getD 13 [])), .sh (ruleOf (allW.getD 13 [])), a7, a8, a9, a10, a11] := by kernel_rfl
theorem q14 (a4 a5 a6 a7 a8 a9 a10 a11 : Sl) : ca [.sh .scr, .sh EV, .sh RU, .sh (.int 14), a4, a5, a6, a7, a8, a9, a10, a11] = .nx [.sh .scr, .sh EV, .sh RU, .sh (.int 14), a4, .sh (ruleOf (allW.getD 14 [])), .sh (ruleOf (allW.getD 14 [])), a7, a8, a9, a10, a11] := by kernel_rfl
theorem q15 (a4 a5 a6 a7 a8 a9 a10 a11 : Sl) : ca [.sh .scr, .sh EV, .sh RU, .sh (.int 15), a4, a5, a6, a7, a8, a9, a10, a11] = .nx [.sh .scr, .sh EV, .sh RU, .sh (.int 15), a4, .sh (ruleOf (allW.getD 15 [])), .sh (ruleOf (allW.getD 15 [])), a7, a8, a9, a10, a11] := by kernel_rfl
theorem q16 (a4 a5 a6 a7 a8 a9 a10 a11 : Sl) : ca [.sh .scr, .sh EV, .sh RU, .sh (.int 16), a4, a5, a6, a7, a8, a9, a10, a11] = .nx [.sh .scr, .sh EV, .sh RU, .sh (.int 16), a4, .sh (ruleOf (allW.getD 16 [])), .sh (ruleOf (allW.getD 16 [])), a7, a8, a9, a10, a11] := by kernel_rfl
theorem q17 (a4 a5 a6 a7 a8 a9 a10 a11 : Sl) : ca [.sh .scr, .sh EV, .sh RU, .sh (.int 17), a4, a5, a6, a7, a8, a9, a10, a11] = .nx [.sh .scr, .sh EV, .sh RU, .sh (.int 17), a4, .sh (ruleOf (allW.getD 17 [])), .sh (ruleOf (allW.getD 17 [])), a7, a8, a9, a10, a11] := by kernel_rfl
theorem q18 (a4 a5 a6 a7 a8 a9 a10 a11 : Sl) : ca [.sh .scr, .sh EV, .sh RU, .sh (.int 18), a4, a5, a6, a7, a8, a9, a10, a11] = .nx [.sh .scr, .sh EV, .sh RU, .sh (.int 18), a4, .sh (ruleOf (allW.getD 18 [])), .sh (ruleOf (allW.getD 18 [])), a7, a8, a9, a10, a11] := by kernel_rfl
theorem q19 (a4 a5 a6 a7 a8 a9 a10 a11 : Sl) : ca [.sh .scr, .sh EV, .sh RU, .sh (.int 19), a4, a5, a6, a7, a8, a9, a10, a11] = .nx [.sh .scr, .sh EV, .sh RU, .sh (.int 19), a4, .sh (ruleOf (allW.getD 19 [])), .sh (ruleOf (allW.getD 19 [])), a7, a8, a9, a10, a11] := by kernel_rfl
theorem q20 (a4 a5 a6 a7 a8 a9 a10 a11 : Sl) : ca [.sh .scr, .sh EV, .sh RU, .sh (.int 20), a4, a5, a6, a7, a8, a9, a10, a11] = .nx [.sh .scr, .sh EV, .sh RU, .sh (.int 20), a4, .sh (ruleOf (allW.getD 20 [])), .sh (ruleOf (allW.getD 20 [])), a7, a8, a9, a10, a11] := by kernel_rfl
theorem q21 (a4 a5 a6 a7 a8 a9 a10 a11 : Sl) : ca [.sh .scr, .sh EV, .sh RU, .sh (.int 21), a4, a5, a6, a7, a8, a9, a10, a11] = .nx [.sh .scr, .sh EV, .sh RU, .sh (.int 21), a4, .sh (ruleOf (allW.getD 21 [])), .sh (ruleOf (allW.getD 21 [])), a7, a8, a9, a10, a11] := by kernel_rfl
theorem q22 (a4 a5 a6 a7 a8 a9 a10 a11 : Sl) : ca [.sh .scr, .sh EV, .sh RU, .sh (.int 22), a4, a5, a6, a7, a8, a9, a10, a11] = .nx [.sh .scr, .sh EV, .sh RU, .sh (.int 22), a4, .sh (ruleOf (allW.getD 22 [])), .sh (ruleOf (allW.getD 22 [])), a7, a8, a9, a10, a11] := by kernel_rfl
theorem q23 (a4 a5 a6 a7 a8 a9 a10 a11 : Sl) : ca [.sh .scr, .sh EV, .sh RU, .sh (.int 23), a4, a5, a6, a7, a8, a9, a10, a11] = .nx [.sh .scr, .sh EV, .sh RU, .sh (.int 23), a4, .sh (ruleOf (allW.getD 23 [])), .sh (ruleOf (allW.getD 23 [])), a7, a8, a9, a10, a11] := by kernel_rfl
theorem q24 (a4 a5 a6 a7 a8 a9 a10 a11 : Sl) : ca [.sh .scr, .sh EV, .sh RU, .sh (.int 24), a4, a5, a6, a7, a8, a9, a10, a11] = .nx [.sh .scr, .sh EV, .sh RU, .sh (.int 24), a4, .sh (ruleOf (allW.getD 24 [])), .sh (ruleOf (allW.getD 24 [])), a7, a8, a9, a10, a11] := by kernel_rfl
theorem q25 (a4 a5 a6 a7 a8 a9 a10 a11 : Sl) : ca [.sh .scr, .sh EV, .sh RU, .sh (.int 25), a4, a5, a6, a7, a8, a9, a10, a11] = .nx [.sh .scr, .sh EV, .sh RU, .sh (.int 25), a4, .sh (ruleOf (allW.getD 25 [])), .sh (ruleOf (allW.getD 25 [])), a7, a8, a9, a10, a11] := by kernel_rfl
theorem q26 (a4 a5 a6 a7 a8 a9 a10 a11 : Sl) : ca [.sh .scr, .sh EV, .sh RU, .sh (.int 26), a4, a5, a6, a7, a8, a9, a10, a11] = .nx [.sh .scr, .sh EV, .sh RU, .sh (.int 26), a4, .sh (ruleOf (allW.getD 26 [])), .sh (ruleOf (allW.getD 26 [])), a7, a8, a9, a10, a11] := by kernel_rfl
theorem q27 (a4 a5 a6 a7 a8 a9 a10 a11 : Sl) : ca [.sh .scr, .sh EV, .sh RU, .sh (.int 27), a4, a5, a6, a7, a8, a9, a10, a11] = .nx [.sh .scr, .sh EV, .sh RU, .sh (.int 27), a4, .sh (ruleOf (allW.getD 27 [])), .sh (ruleOf (allW.getD 27 [])), a7, a8, a9, a10, a11] := by kernel_rfl
theorem q28 (a4 a5 a6 a7 a8 a9 a10 a11 : Sl) : ca [.sh .scr, .sh EV, .sh RU, .sh (.int 28), a4, a5, a6, a7, a8, a9, a10, a11] = .nx [.sh .scr, .sh EV, .sh RU, .sh (.int 28), a4, .sh (ruleOf (allW.getD 28 [])), .sh (ruleOf (allW.getD 28 [])), a7, a8, a9, a10, a11] := by kernel_rfl
theorem q29 (a4 a5 a6 a7 a8 a9 a10 a11 : Sl) : ca [.sh .scr, .sh EV, .sh RU, .sh (.int 29), a4, a5, a6, a7, a8, a9, a10, a11] = .nx [.sh .scr, .sh EV, .sh RU, .sh (.int 29), a4, .sh (ruleOf (allW.getD 29 [])), .sh (ruleOf (allW.getD 29 [])), a7, a8, a9, a10, a11] := by kernel_rfl
theorem q30 (a4 a5 a6 a7 a8 a9 a10 a11 : Sl) : ca [.sh .scr, .sh EV, .sh RU, .sh (.int 30), a4, a5, a6, a7, a8, a9, a10, a11] = .nx [.sh .scr, .sh EV, .sh RU, .sh (.int 30), a4, .sh (ruleOf (allW.getD 30 [])), .sh (ruleOf (allW.getD 30 [])), a7, a8, a9, a10, a11] := by kernel_rfl
theorem q31 (a4 a5 a6 a7 a8 a9 a10 a11 : Sl) : ca [.sh .scr, .sh EV, .sh RU, .sh (.int 31), a4, a5, a6, a7, a8, a9, a10, a11] = .nx [.sh .scr, .sh EV, .sh RU, .sh (.int 31), a4, .sh (ruleOf (allW.getD 31 [])), .sh (ruleOf (allW.getD 31 [])), a7, a8, a9, a10, a11] := by kernel_rfl
theorem q32 (a4 a5 a6 a7 a8 a9 a10 a11 : Sl) : ca [.sh .scr, .sh EV, .sh RU, .sh (.int 32), a4, a5, a6, a7, a8, a9, a10, a11] = .nx [.sh .scr, .sh EV, .sh RU, .sh (.int 32), a4, .sh (ruleOf (allW.getD 32 [])), .sh (ruleOf (allW.getD 32 [])), a7, a8, a9, a10, a11] := by kernel_rfl
theorem q33 (a4 a5 a6 a7 a8 a9 a10 a11 : Sl) : ca [.sh .scr, .sh EV, .sh RU, .sh (.int 33), a4, a5, a6, a7, a8, a9, a10, a11] = .nx [.sh .scr, .sh EV, .sh RU, .sh (.int 33), a4, .sh (ruleOf (allW.getD 33 [])), .sh (ruleOf (allW.getD 33 [])), a7, a8, a9, a10, a11] := by kernel_rfl
theorem q34 (a4 a5 a6 a7 a8 a9 a10 a11 : Sl) : ca [.sh .scr, .sh EV, .sh RU, .sh (.int 34), a4, a5, a6, a7, a8, a9, a10, a11] = .nx [.sh .scr, .sh EV, .sh RU, .sh (.int 34), a4, .sh (ruleOf (allW.getD 34 [])), .sh (ruleOf (allW.getD 34 [])), a7, a8, a9, a10, a11] := by kernel_rfl
theorem q35 (a4 a5 a6 a7 a8 a9 a10 a11 : Sl) : ca [.sh .scr, .sh EV, .sh RU, .sh (.int 35), a4, a5, a6, a7, a8, a9, a10, a11] = .nx [.sh .scr, .sh EV, .sh RU, .sh (.int 35), a4, .sh (ruleOf (allW.getD 35 [])), .sh (ruleOf (allW.getD 35 [])), a7, a8, a9, a10, a11] := by kernel_rfl
theorem q36 (a4 a5 a6 a7 a8 a9 a10 a11 : Sl) : ca [.sh .scr, .sh EV, .sh RU, .sh (.int 36), a4, a5, a6, a7, a8, a9, a10, a11] = .nx [.sh .scr, .sh EV, .sh RU, .sh (.int 36), a4, .sh (ruleOf (allW.getD 36 [])), .sh (ruleOf (allW.getD 36 [])), a7, a8, a9, a10, a11] := by kernel_rfl
theorem q37 (a4 a5 a6 a7 a8 a9 a10 a11 : Sl) : ca [.sh .scr, .sh EV, .sh RU, .sh (.int 37), a4, a5, a6, a7, a8, a9, a10, a11] = .nx [.sh .scr, .sh EV, .sh RU, .sh (.int 37), a4, .sh (ruleOf (allW.getD 37 [])), .sh (ruleOf (allW.getD 37 [])), a7, a8, a9, a10, a11] := by kernel_rfl
theorem q38 (a4 a5 a6 a7 a8 a9 a10 a11 : Sl) : ca [.sh .scr, .sh EV, .sh RU, .sh (.int 38), a4, a5, a6, a7, a8, a9, a10, a11] = .nx [.sh .scr, .sh EV, .sh RU, .sh (.int 38), a4, .sh (ruleOf (allW.getD 38 [])), .sh (ruleOf (allW.getD 38 [])), a7, a8, a9, a10, a11] := by kernel_rfl
theorem q39 (a4 a5 a6 a7 a8 a9 a10 a11 : Sl) : ca [.sh .scr, .sh EV, .sh RU, .sh (.int 39), a4, a5, a6, a7, a8, a9, a10, a11] = .nx [.sh .scr, .sh EV, .sh RU, .sh (.int 39), a4, .sh (ruleOf (allW.getD 39 [])), .sh (ruleOf (allW.getD 39 [])), a7, a8, a9, a10, a11] := by kernel_rfl
theorem q40 (a4 a5 a6 a7 a8 a9 a10 a11 : Sl) : ca [.sh .scr, .sh EV, .sh RU, .sh (.int 40), a4, a5, a6, a7, a8, a9, a10, a11] = .nx [.sh .scr, .sh EV, .sh RU, .sh (.int 40), a4, .sh (ruleOf (allW.getD 40 [])), .sh (ruleOf (allW.getD 40 [])), a7, a8, a9, a10, a11] := by kernel_rfl
theorem q41 (a4 a5 a6 a7 a8 a9 a10 a11 : Sl) : ca [.sh .scr, .sh EV, .sh RU, .sh (.int 41), a4, a5, a6, a7, a8, a9, a10, a11] = .nx [.sh .scr, .sh EV, .sh RU, .sh (.int 41), a4, .sh (ruleOf (allW.getD 41 [])), .sh (ruleOf (allW.getD 41 [])), a7, a8, a9, a10, a11] := by kernel_rfl
theorem q42 (a4 a5 a6 a7 a8 a9 a10 a11 : Sl) : ca [.sh .scr, .sh EV, .sh RU, .sh (.int 42), a4, a5, a6, a7, a8, a9, a10, a11] = .nx [.sh .scr, .sh EV, .sh RU, .sh (.int 42), a4, .sh (ruleOf (allW.getD 42 [])), .sh (ruleOf (allW.getD 42 [])), a7, a8, a9, a10, a11] := by kernel_rfl
theorem q43 (a4 a5 a6 a7 a8 a9 a10 a11 : Sl) : ca [.sh .scr, .sh EV, .sh RU, .sh (.int 43), a4, a5, a6, a7, a8, a9, a10, a11] = .nx [.sh .scr, .sh EV, .sh RU, .sh (.int 43), a4, .sh (ruleOf (allW.getD 43 [])), .sh (ruleOf (allW.getD 43 [])), a7, a8, a9, a10, a11] := by kernel_rfl
theorem q44 (a4 a5 a6 a7 a8 a9 a10 a11 : Sl) : ca [.sh .scr, .sh EV, .sh RU, .sh (.int 44), a4, a5, a6, a7, a8, a9, a10, a11] = .nx [.sh .scr, .sh EV, .sh RU, .sh (.int 44), a4, .sh (ruleOf (allW.getD 44 [])), .sh (ruleOf (allW.getD 44 [])), a7, a8, a9, a10, a11] := by kernel_rfl
theorem q45 (a4 a5 a6 a7 a8 a9 a10 a11 : Sl) : ca [.sh .scr, .sh EV, .sh RU, .sh (.int 45), a4, a5, a6, a7, a8, a9, a10, a11] = .nx [.sh .scr, .sh EV, .sh RU, .sh (.int 45), a4, .sh (ruleOf (allW.getD 45 [])), .sh (ruleOf (allW.getD 45 [])), a7, a8, a9, a10, a11] := by kernel_rfl
theorem q46 (a4 a5 a6 a7 a8 a9 a10 a11 : Sl) : ca [.sh .scr, .sh EV, .sh RU, .sh (.int 46), a4, a5, a6, a7, a8, a9, a10, a11] = .nx [.sh .scr, .sh EV, .sh RU, .sh (.int 46), a4, .sh (ruleOf (allW.getD 46 [])), .sh (ruleOf (allW.getD 46 [])), a7, a8, a9, a10, a11] := by kernel_rfl
theorem q47 (a4 a5 a6 a7 a8 a9 a10 a11 : Sl) : ca [.sh .scr, .sh EV, .sh RU, .sh (.int 47), a4, a5, a6, a7, a8, a9, a10, a11] = .nx [.sh .scr, .sh EV, .sh RU, .sh (.int 47), a4, .sh (ruleOf (allW.getD 47 [])), .sh (ruleOf (allW.getD 47 [])), a7, a8, a9, a10, a11] := by kernel_rfl
theorem q48 (a4 a5 a6 a7 a8 a9 a10 a11 : Sl) : ca [.sh .scr, .sh EV, .sh RU, .sh (.int 48), a4, a5, a6, a7, a8, a9, a10, a11] = .nx [.sh .scr, .sh EV, .sh RU, .sh (.int 48), a4, .sh (ruleOf (allW.getD 48 [])), .sh (ruleOf (allW.getD 48 [])), a7, a8, a9, a10, a11] := by kernel_rfl
theorem q49 (a4 a5 a6 a7 a8 a9 a10 a11 : Sl) : ca [.sh .scr, .sh EV, .sh RU, .sh (.int 49), a4, a5, a6, a7, a8, a9, a10, a11] = .nx [.sh .scr, .sh EV, .sh RU, .sh (.int 49), a4, .sh (ruleOf (allW.getD 49 [])), .sh (ruleOf (allW.getD 49 [])), a7, a8, a9, a10, a11] := by kernel_rfl
theorem q50 (a4 a5 a6 a7 a8 a9 a10 a11 : Sl) : ca [.sh .scr, .sh EV, .sh RU, .sh (.int 50), a4, a5, a6, a7, a8, a9, a10, a11] = .nx [.sh .scr, .sh EV, .sh RU, .sh (.int 50), a4, .sh (ruleOf (allW.getD 50 [])), .sh (ruleOf (allW.getD 50 [])), a7, a8, a9, a10, a11] := by kernel_rfl
theorem q51 (a4 a5 a6 a7 a8 a9 a10 a11 : Sl) : ca [.sh .scr, .sh EV, .sh RU, .sh (.int 51), a4, a5, a6, a7, a8, a9, a10, a11] = .nx [.sh .scr, .sh EV, .sh RU, .sh (.int 51), a4, .sh (ruleOf (allW.getD 51 [])), .sh (ruleOf (allW.getD 51 [])), a7, a8, a9, a10, a11] := by kernel_rfl
theorem q52 (a4 a5 a6 a7 a8 a9 a10 a11 : Sl) : ca [.sh .scr, .sh EV, .sh RU, .sh (.int 52), a4, a5, a6, a7, a8, a9, a10, a11] = .nx [.sh .scr, .sh EV, .sh RU, .sh (.int 52), a4, .sh (ruleOf (allW.getD 52 [])), .sh (ruleOf (allW.getD 52 [])), a7, a8, a9, a10, a11] := by kernel_rfl
theorem q53 (a4 a5 a6 a7 a8 a9 a10 a11 : Sl) : ca [.sh .scr, .sh EV, .sh RU, .sh (.int 53), a4, a5, a6, a7, a8, a9, a10, a11] = .nx [.sh .scr, .sh EV, .sh RU, .sh (.int 53), a4, .sh (ruleOf (allW.getD 53 [])), .sh (ruleOf (allW.getD 53 [])), a7, a8, a9, a10, a11] := by kernel_rfl
theorem q54 (a4 a5 a6 a7 a8 a9 a10 a11 : Sl) : ca [.sh .scr, .sh EV, .sh RU, .sh (.int 54), a4, a5, a6, a7, a8, a9, a10, a11] = .nx [.sh .scr, .sh EV, .sh RU, .sh (.int 54), a4, .sh (ruleOf (allW.getD 54 [])), .sh (ruleOf (allW.getD 54 [])), a7, a8, a9, a10, a11] := by kernel_rfl
theorem q55 (a4 a5 a6 a7 a8 a9 a10 a11 : Sl) : ca [.sh .scr, .sh EV, .sh RU, .sh (.int 55), a4, a5, a6, a7, a8, a9, a10, a11] = .nx [.sh .scr, .sh EV, .sh RU, .sh (.int 55), a4, .sh (ruleOf (allW.getD 55 [])), .sh (ruleOf (allW.getD 55 [])), a7, a8, a9, a10, a11] := by kernel_rfl
theorem q56 (a4 a5 a6 a7 a8 a9 a10 a11 : Sl) : ca [.sh .scr, .sh EV, .sh RU, .sh (.int 56), a4, a5, a6, a7, a8, a9, a10, a11] = .nx [.sh .scr, .sh EV, .sh RU, .sh (.int 56), a4, .sh (ruleOf (allW.getD 56 [])), .sh (ruleOf (allW.getD 56 [])), a7, a8, a9, a10, a11] := by kernel_rfl
theorem q57 (a4 a5 a6 a7 a8 a9 a10 a11 : Sl) : ca [.sh .scr, .sh EV, .sh RU, .sh (.int 57), a4, a5, a6, a7, a8, a9, a10, a11] = .nx [.sh .scr, .sh EV, .sh RU, .sh (.int 57), a4, .sh (ruleOf (allW.getD 57 [])), .sh (ruleOf (allW.getD 57 [])), a7, a8, a9, a10, a11] := by kernel_rfl
theorem q58 (a4 a5 a6 a7 a8 a9 a10 a11 : Sl) : ca [.sh .scr, .sh EV, .sh RU, .sh (.int 58), a4, a5, a6, a7, a8, a9, a10, a11] = .nx [.sh .scr, .sh EV, .sh RU, .sh (.int 58), a4, .sh (ruleOf (allW.getD 58 [])), .sh (ruleOf (allW.getD 58 [])), a7, a8, a9, a10, a11] := by kernel_rfl
theorem q59 (a4 a5 a6 a7 a8 a9 a10 a11 : Sl) : ca [.sh .scr, .sh EV, .sh RU, .sh (.int 59), a4, a5, a6, a7, a8, a9, a10, a11] = .nx [.sh .scr, .sh EV, .sh RU, .sh (.int 59), a4, .sh (ruleOf (allW.getD 59 [])), .sh (ruleOf (allW.getD 59 [])), a7, a8, a9, a10, a11] := by kernel_rfl
theorem q60 (a4 a5 a6 a7 a8 a9 a10 a11 : Sl) : ca [.sh .scr, .sh EV, .sh RU, .sh (.int 60), a4, a5, a6, a7, a8, a9, a10, a11] = .nx [.sh .scr, .sh EV, .sh RU, .sh (.int 60), a4, .sh (ruleOf (allW.getD 60 [])), .sh (ruleOf (allW.getD 60 [])), a7, a8, a9, a10, a11] := by kernel_rfl
theorem q61 (a4 a5 a6 a7 a8 a9 a10 a11 : Sl) : ca [.sh .scr, .sh EV, .sh RU, .sh (.int 61), a4, a5, a6, a7, a8, a9, a10, a11] = .nx [.sh .scr, .sh EV, .sh RU, .sh (.int 61), a4, .sh (ruleOf (allW.getD 61 [])), .sh (ruleOf (allW.getD 61 [])), a7, a8, a9, a10, a11] := by kernel_rfl
theorem q62 (a4 a5 a6 a7 a8 a9 a10 a11 : Sl) : ca [.sh .scr, .sh EV, .sh RU, .sh (.int 62), a4, a5, a6, a7, a8, a9, a10, a11] = .nx [.sh .scr, .sh EV, .sh RU, .sh (.int 62), a4, .sh (ruleOf (allW.getD 62 [])), .sh (ruleOf (allW.getD 62 [])), a7, a8, a9, a10, a11] := by kernel_rfl
theorem q63 (a4 a5 a6 a7 a8 a9 a10 a11 : Sl) : ca [.sh .scr, .sh EV, .sh RU, .sh (.int 63), a4, a5, a6, a7, a8, a9, a10, a11] = .nx [.sh .scr, .sh EV, .sh RU, .sh (.int 63), a4, .sh (ruleOf (allW.getD 63 [])), .sh (ruleOf (allW.getD 63 [])), a7, a8, a9, a10, a11] := by kernel_rfl

theorem qall (i : Nat) (hi : i < 64) (a3 a4 a5 a6 a7 a8 a9 a10 a11 : Sl) : ∃ b3 b5 b6 : Sl, ca [.sh .scr, .sh EV, .sh RU, .sh (.int (i : Nat)), a4, a5, a6, a7, a8, a9, a10, a11] = .nx [.sh .scr, .sh EV, .sh RU, b3, a4, b5, b6, a7, a8, a9, a10, a11] := by
  match i, hi with
  | 0, _ => exact ⟨_, _, _, q0 a4 a5 a6 a7 a8 a9 a10 a11⟩
  | 1, _ => exact ⟨_, _, _, q1 a4 a5 a6 a7 a8 a9 a10 a11⟩
  | 2, _ => exact ⟨_, _, _, q2 a4 a5 a6 a7 a8 a9 a10 a11⟩
  | 3, _ => exact ⟨_, _, _, q3 a4 a5 a6 a7 a8 a9 a10 a11⟩
  | 4, _ => exact ⟨_, _, _, q4 a4 a5 a6 a7 a8 a9 a10 a11⟩
  | 5, _ => exact ⟨_, _, _, q5 a4 a5 a6 a7 a8 a9 a10 a11⟩
  | 6, _ => exact ⟨_, _, _, q6 a4 a5 a6 a7 a8 a9 a10 a11⟩
  | 7, _ => exact ⟨_, _, _, q7 a4 a5 a6 a7 a8 a9 a10 a11⟩
  | 8, _ => exact ⟨_, _, _, q8 a4 a5 a6 a7 a8 a9 a10 a11⟩
  | 9, _ => exact ⟨_, _, _, q9 a4 a5 a6 a7 a8 a9 a10 a11⟩
  | 10, _ => exact ⟨_, _, _, q10 a4 a5 a6 a7 a8 a9 a10 a11⟩
  | 11, _ => exact ⟨_, _, _, q11 a4 a5 a6 a7 a8 a9 a10 a11⟩
  | 12, _ => exact ⟨_, _, _, q12 a4 a5 a6 a7 a8 a9 a10 a11⟩
  | 13, _ => exact ⟨_, _, _, q13 a4 a5 a6 a7 a8 a9 a10 a11⟩
  | 14, _ => exact ⟨_, _, _, q14 a4 a5 a6 a7 a8 a9 a10 a11⟩
  | 15, _ => exact ⟨_, _, _, q15 a4 a5 a6 a7 a8 a9 a10 a11⟩
  | 16, _ => exact ⟨_, _, _, q16 a4 a5 a6 a7 a8 a9 a10 a11⟩
  | 17, _ => exact ⟨_, _, _, q17 a4 a5 a6 a7 a8 a9 a10 a11⟩
  | 18, _ => exact ⟨_, _, _, q18 a4 a5 a6 a7 a8 a9 a10 a11⟩
  | 19, _ => exact ⟨_, _, _, q19 a4 a5 a6 a7 a8 a9 a10 a11⟩
  | 20, _ => exact ⟨_, _, _, q20 a4 a5 a6 a7 a8 a9 a10 a11⟩
  | 21, _ => exact ⟨_, _, _, q21 a4 a5 a6 a7 a8 a9 a10 a11⟩
  | 22, _ => exact ⟨_, _, _, q22 a4 a5 a6 a7 a8 a9 a10 a11⟩
  | 23, _ => exact ⟨_, _, _, q23 a4 a5 a6 a7 a8 a9 a10 a11⟩
  | 24, _ => exact ⟨_, _, _, q24 a4 a5 a6 a7 a8 a9 a10 a11⟩
  | 25, _ => exact ⟨_, _, _, q25 a4 a5 a6 a7 a8 a9 a10 a11⟩
  | 26, _ => exact ⟨_, _, _, q26 a4 a5 a6 a7 a8 a9 a10 a11⟩
  | 27, _ => exact ⟨_, _, _, q27 a4 a5 a6 a7 a8 a9 a10 a11⟩
  | 28, _ => exact ⟨_, _, _, q28 a4 a5 a6 a7 a8 a9 a10 a11⟩
  | 29, _ => exact ⟨_, _, _, q29 a4 a5 a6 a7 a8 a9 a10 a11⟩
  | 30, _ => exact ⟨_, _, _, q30 a4 a5 a6 a7 a8 a9 a10 a11⟩
  | 31, _ => exact ⟨_, _, _, q31 a4 a5 a6 a7 a8 a9 a10 a11⟩
  | 32, _ => exact ⟨_, _, _, q32 a4 a5 a6 a7 a8 a9 a10 a11⟩
  | 33, _ => exact ⟨_, _, _, q33 a4 a5 a6 a7 a8 a9 a10 a11⟩
  | 34, _ => exact ⟨_, _, _, q34 a4 a5 a6 a7 a8 a9 a10 a11⟩
  | 35, _ => exact ⟨_, _, _, q35 a4 a5 a6 a7 a8 a9 a10 a11⟩
  | 36, _ => exact ⟨_, _, _, q36 a4 a5 a6 a7 a8 a9 a10 a11⟩
  | 37, _ => exact ⟨_, _, _, q37 a4 a5 a6 a7 a8 a9 a10 a11⟩
  | 38, _ => exact ⟨_, _, _, q38 a4 a5 a6 a7 a8 a9 a10 a11⟩
  | 39, _ => exact ⟨_, _, _, q39 a4 a5 a6 a7 a8 a9 a10 a11⟩
  | 40, _ => exact ⟨_, _, _, q40 a4 a5 a6 a7 a8 a9 a10 a11⟩
  | 41, _ => exact ⟨_, _, _, q41 a4 a5 a6 a7 a8 a9 a10 a11⟩
  | 42, _ => exact ⟨_, _, _, q42 a4 a5 a6 a7 a8 a9 a10 a11⟩
  | 43, _ => exact ⟨_, _, _, q43 a4 a5 a6 a7 a8 a9 a10 a11⟩
  | 44, _ => exact ⟨_, _, _, q44 a4 a5 a6 a7 a8 a9 a10 a11⟩
  | 45, _ => exact ⟨_, _, _, q45 a4 a5 a6 a7 a8 a9 a10 a11⟩
  | 46, _ => exact ⟨_, _, _, q46 a4 a5 a6 a7 a8 a9 a10 a11⟩
  | 47, _ => exact ⟨_, _, _, q47 a4 a5 a6 a7 a8 a9 a10 a11⟩
  | 48, _ => exact ⟨_, _, _, q48 a4 a5 a6 a7 a8 a9 a10 a11⟩
  | 49, _ => exact ⟨_, _, _, q49 a4 a5 a6 a7 a8 a9 a10 a11⟩
  | 50, _ => exact ⟨_, _, _, q50 a4 a5 a6 a7 a8 a9 a10 a11⟩
  | 51, _ => exact ⟨_, _, _, q51 a4 a5 a6 a7 a8 a9 a10 a11⟩
  | 52, _ => exact ⟨_, _, _, q52 a4 a5 a6 a7 a8 a9 a10 a11⟩
  | 53, _ => exact ⟨_, _, _, q53 a4 a5 a6 a7 a8 a9 a10 a11⟩
  | 54, _ => exact ⟨_, _, _, q54 a4 a5 a6 a7 a8 a9 a10 a11⟩
  | 55, _ => exact ⟨_, _, _, q55 a4 a5 a6 a7 a8 a9 a10 a11⟩
  | 56, _ => exact ⟨_, _, _, q56 a4 a5 a6 a7 a8 a9 a10 a11⟩
  | 57, _ => exact ⟨_, _, _, q57 a4 a5 a6 a7 a8 a9 a10 a11⟩
  | 58, _ => exact ⟨_, _, _, q58 a4 a5 a6 a7 a8 a9 a10 a11⟩
  | 59, _ => exact ⟨_, _, _, q59 a4 a5 a6 a7 a8 a9 a10 a11⟩
  | 60, _ => exact ⟨_, _, _, q60 a4 a5 a6 a7 a8 a9 a10 a11⟩
  | 61, _ => exact ⟨_, _, _, q61 a4 a5 a6 a7 a8 a9 a10 a11⟩
  | 62, _ => exact ⟨_, _, _, q62 a4 a5 a6 a7 a8 a9 a10 a11⟩
  | 63, _ => exact ⟨_, _, _, q63 a4 a5 a6 a7 a8 a9 a10 a11⟩
  | i + 64, h => omega

end L2.Dc.K20
namespace L2.Dc
open PySem PySem.Spec PyProof.Rows L2.Fw
/-- all that comes out fits, at most b draws -/
inductive FP (nx : Es → Prop) (rt : Da → Prop) : Fl → Nat → Prop where
  | nx {ρ : Es} {b : Nat} : nx ρ → FP nx rt (.nx ρ) b
  | rt {d : Da} {b : Nat} : rt d → FP nx rt (.rt d) b
  | any {n : Nat} {k : Nat → Fl} {b : Nat} : (∀ i, i < n → FP nx rt (k i) b) → FP nx rt (.any n k) (b + 1)
inductive OP {α : Type} (p : α → Prop) : Ou α → Nat → Prop where
  | ok {a : α} {b : Nat} : p a → OP p (.ok a) b
  | any {n : Nat} {k : Nat → Ou α} {b : Nat} : (∀ i, i < n → OP p (k i) b) → OP p (.any n k) (b + 1)
theorem FP.mono {nx nx' : Es → Prop} {rt rt' : Da → Prop} (h1 : ∀ ρ, nx ρ → nx' ρ) (h2 : ∀ d, rt d → rt' d) {f : Fl} {b c : Nat} (h : FP nx rt f b) (hc : b ≤ c) : FP nx' rt' f c := by
  induction h generalizing c with
  | nx h => exact .nx (h1 _ h)
  | rt h => exact .rt (h2 _ h)
  | any h ih =>
    cases c with
    | zero => omega
    | succ c => exact .any fun i hi => ih i hi (by omega)
theorem FP.seq {nx nx' : Es → Prop} {rt : Da → Prop} {k : Es → Fl} {b2 : Nat} (hk : ∀ ρ, nx ρ → FP nx' rt (k ρ) b2) {f : Fl} {b : Nat} (h : FP nx rt f b) : FP nx' rt (f.seq k) (b + b2) := by
  induction h with
  | nx h => exact FP.mono (fun _ h => h) (fun _ h => h) (hk _ h) (by omega)
  | rt h => exact .rt h
  | any h ih =>
    rw [Nat.succ_add]
    exact .any fun i hi => ih i hi
theorem Fl.seq_assoc {g k : Es → Fl} : ∀ {f : Fl}, (f.seq g).seq k = f.seq fun ρ => (g ρ).seq k
  | .nx ρ => rfl
  | .rt d => rfl
  | .er c d => rfl
  | .bad => rfl
  | .any n q => congrArg (Fl.any n) (funext fun i => Fl.seq_assoc (f := q i))
theorem FP.for {J : Es → Prop} {rt : Da → Prop} {is : List Nat} {m : Da → Option (List Da)} {body : Es → Fl} {c : Nat} : ∀ {xs : List Da} {ρ : Es}, J ρ → (∀ x ∈ xs, ∀ ρ, J ρ → ∃ ds, m x = some ds ∧ FP J rt (body (setSs ρ is ds)) c) → FP J rt (forM is m body xs ρ) (xs.length * c)
  | [], ρ, h, _ => .nx h
  | x :: xs, ρ, h, hb => by
    obtain ⟨ds, e, hf⟩ := hb x List.mem_cons_self ρ h
    have z := FP.seq (k := forM is m body xs) (fun ρ' h' => FP.for (xs := xs) h' fun y hy => hb y (List.mem_cons_of_mem _ hy)) hf
    have ee : forM is m body (x :: xs) ρ = (body (setSs ρ is ds)).seq (forM is m body xs) := by rw [forM_cons, e]
    rw [ee, List.length_cons]
    exact FP.mono (fun _ h => h) (fun _ h => h) z (by rw [Nat.succ_mul]; omega)
theorem OP.fin {nx : Es → Prop} {rt : Da → Prop} (h0 : ∀ ρ, ¬ nx ρ) {f : Fl} {b : Nat} (h : FP nx rt f b) : OP rt (Dc.fin f) b := by
  induction h with
  | nx h => exact absurd h (h0 _)
  | rt h => exact .ok h
  | any h ih => exact .any fun i hi => ih i hi
theorem WnB.op {α : Type} {K : PySem.W.Frag} {E : XK} {N : Rg} {H : Hp} {p : α → Prop} {Q : α → Rg → Hp → Prop} (h : ∀ a N' H', p a → Ev N H N' H' → Q a N' H') {o : Ou α} {b c : Nat} (e : OP p o b) (hb : c + b ≤ 10 ^ 10) : WnB K E N H c o Q := by
  induction e generalizing c with
  | ok e => exact fun N' H' g _ => h _ N' H' e g
  | any e ih => exact ⟨by omega, fun i hi => ih i hi (by omega)⟩
end L2.Dc
namespace L2.Dc.K20
open PySem PySem.Spec PyProof.Rows L2.Fw
theorem fchk_FP {nx : Es → Bool} {rt : Da → Bool} {f : Fl} : ∀ {b : Nat}, fchk nx rt f b = true → FP (fun ρ => nx ρ = true) (fun d => rt d = true) f b := by
  induction f with
  | nx ρ => exact fun h => .nx h
  | rt d => exact fun h => .rt h
  | er c d =>
    intro b h
    unfold fchk at h
    cases h
  | bad =>
    intro b h
    unfold fchk at h
    cases h
  | any n k ih =>
    intro b h
    cases b with
    | zero =>
      unfold fchk at h
      cases h
    | succ b =>
      unfold fchk at h
      exact .any fun i hi => ih i (List.all_eq_true.mp h i (List.mem_range.mpr hi))
theorem isJ_of {ρ : Es} (h : isJ ρ = true) : ∃ a1 a2 a3 a4 a5 a6 a7 a8 a9 a10 a11 : Sl, ρ = [.sh .scr, a1, a2, a3, a4, a5, a6, a7, a8, a9, a10, a11] := by
  unfold isJ at h
  rw [Bool.and_eq_true] at h
  obtain ⟨h1, h2⟩ := h
  have hl : ρ.length = 12 := Nat.eq_of_beq_eq_true h1
  match ρ, hl, h2 with
  | [a0, a1, a2, a3, a4, a5, a6, a7, a8, a9, a10, a11], _, h2 =>
    split at h2
    · rename_i r e
      cases e
      exact ⟨_, _, _, _, _, _, _, _, _, _, _, rfl⟩
    · cases h2
def S2 (ρ : Es) : Prop := ∃ a3 a4 a5 a6 a7 a8 a9 a10 a11 : Sl, ρ = [.sh .scr, .sh EV, .sh RU, a3, a4, a5, a6, a7, a8, a9, a10, a11]
theorem it64 : giR1 (fCons (gCB lenD (fCons (gVar 1) fNil)) fNil) (shs ρ1) = .ok (rangeD 0 64) := by kernel_rfl
theorem c2_ok : FP S2 (fun _ => False) (c2 ρ1) (64 * 0) := by
  rw [c2_eq]
  have e : ∀ (is : List Nat) (m : Da → Option (List Da)) (g : Es → Fl), gFor (giR1 (fCons (gCB lenD (fCons (gVar 1) fNil)) fNil)) is m g ρ1 = forM is m g (rangeD 0 64) ρ1 := fun is m g => by
    unfold gFor
    rw [it64]
    rfl
  rw [e]
  refine FP.for (J := S2) (c := 0) (xs := rangeD 0 64) ⟨_, _, _, _, _, _, _, _, _, rfl⟩ fun x hx ρ hρ => ?_
  unfold rangeD at hx
  obtain ⟨i, hi, rfl⟩ := List.mem_map.mp hx
  obtain ⟨a3, a4, a5, a6, a7, a8, a9, a10, a11, rfl⟩ := hρ
  obtain ⟨b3, b5, b6, e⟩ := qall i (List.mem_range.mp hi) a3 a4 a5 a6 a7 a8 a9 a10 a11
  refine ⟨_, rfl, ?_⟩
  rw [Int.zero_add]
  show FP S2 _ (ca [.sh .scr, .sh EV, .sh RU, .sh (.int (i : Nat)), a4, a5, a6, a7, a8, a9, a10, a11]) 0
  rw [e]
  exact .nx ⟨_, _, _, _, _, _, _, _, _, rfl⟩
def J (ρ : Es) : Prop := isJ ρ = true
theorem c3_ok {ρ : Es} (h : J ρ) : FP J (fun _ => False) (c3 ρ) (2 * 10) := by
  have e : c3 ρ = forM [4] mOne cb [.int 0, .int 1] ρ := rfl
  rw [e]
  refine FP.for (J := J) (c := 10) (xs := [.int 0, .int 1]) h fun x hx ρ hρ => ?_
  obtain ⟨a1, a2, a3, a4, a5, a6, a7, a8, a9, a10, a11, rfl⟩ := isJ_of hρ
  refine ⟨_, rfl, ?_⟩
  simp only [List.mem_cons, List.not_mem_nil, or_false] at hx
  rcases hx with rfl | rfl
  · exact FP.mono (fun _ h => h) (fun _ h => nomatch h) (fchk_FP (p1 a1 a2 a3 a5 a6 a7 a8 a9 a10 a11)) (Nat.le_refl _)
  · exact FP.mono (fun _ h => h) (fun _ h => nomatch h) (fchk_FP (p2 a1 a2 a3 a5 a6 a7 a8 a9 a10 a11)) (Nat.le_refl _)
theorem gSeq3 (a b c : Es → Fl) (ρ : Es) : gSeq a (gSeq b c) ρ = (gSeq a b ρ).seq c := Fl.seq_assoc.symm
theorem gSeq_ap (a b : Es → Fl) (ρ : Es) : gSeq a b ρ = (a ρ).seq b := rfl
theorem seq_nx (ρ : Es) (k : Es → Fl) : (Fl.nx ρ).seq k = k ρ := rfl
theorem law_ok : FP (fun _ => False) (fun d => d = .bl true) (b_law ρ0) (64 * 0 + (2 * 10 + 0)) := by
  rw [b_law_eq, gSeq3, p0, seq_nx, gSeq_ap]
  refine FP.seq (f := c2 ρ1) (nx := S2) (k := gSeq c3 c4) (fun ρ h => ?_) (FP.mono (fun _ h => h) (fun _ h => h.elim) c2_ok (Nat.le_refl _))
  rw [gSeq_ap]
  refine FP.seq (f := c3 ρ) (nx := J) (rt := fun d => d = .bl true) (k := c4) (fun ρ _ => .rt rfl) (FP.mono (fun _ h => h) (fun _ h => h.elim) (c3_ok ?_) (Nat.le_refl _))
  obtain ⟨_, _, _, _, _, _, _, _, _, rfl⟩ := h
  rfl
theorem mDef_eq {n k : Nat} {g : Es → Fl} {ds : List Da} (h : ds.length = k) : mDef n k g ds = fin (g (ini n ds)) := if_pos h
theorem m_law_ok : OP (fun d => d = .bl true) (m_law [.scr]) (64 * 0 + (2 * 10 + 0)) := by
  have e : m_law [.scr] = fin (b_law (ini 12 [.scr])) := mDef_eq rfl
  rw [e]
  exact OP.fin (nx := fun _ => False) (fun _ h => h) law_ok
theorem facts {P : Program} {w : World} {K : PySem.W.Frag} {h : Heap} {mg : Str → Option Value} {f : Addr} (X : K.In h) (G : h.Ns mainGlobals mg) (hfa : mg ("law" : Str) = some (.ref f)) (c : SayK chk fn K) :
    ∃ fd : FuncData, (∀ (s : Shared) (v : Value), BindsTo s fd ⟨[v], []⟩ [("script", v)]) ∧ ∀ base : Heap, K.In base → base.Ns mainGlobals mg → FnG P w K mg base 10 f fd ["script"] (spD K m_law) := by
  have T : Txt P w K mg h := txt X G c
  obtain ⟨fd, F⟩ := T.f_law
  have e := hfa.symm.trans (T.gl "law" (by decide))
  cases e
  have b := FunD.bindsA (ps := ["script"]) F fun _ _ _ _ _ _ us hl => match us, hl with | [_], _ => rfl
  exact ⟨fd, fun s v => b s [v] rfl, fun base X2 G2 => fn_law (txt X2 G2 c) F⟩
def N0 (H : Hp) (a : Addr) : Rg := ⟨fun x => x = a ∧ H x ≠ none, fun _ => False, 0⟩
theorem law_sp {K : PySem.W.Frag} {H : Hp} {a : Addr} {ns : List Int} (hO : Only H) (hS : SqL K H a (ns.map V.int)) : spD K m_law [.ref a] H (fun v _ => v = .bl true) E0 := by
  have hs : DV K H (N0 H a) (.ref a) .scr := by
    rcases hS with hS | hS
    · rcases hS with hS | ⟨o, hS⟩
      · rcases hO a with z | ⟨o, xs, z⟩
        · rw [hS] at z
          cases z
        · rw [hS] at z
          cases z
      · exact .scr (.inl ⟨o, ⟨rfl, by rw [hS]; simp⟩, hS⟩)
    · exact .scr (.inr hS)
  refine ⟨N0 H a, [.scr], ⟨fun x h => h.2, fun _ h => h.elim, fun _ h _ => h⟩, .cons hs .nil, ?_⟩
  exact WnB.op (p := fun d => d = .bl true) (fun d N' H' e g v hv => by subst e; exact hv.bl_inv) m_law_ok (by show 0 + (64 * 0 + (2 * 10 + 0)) ≤ 10 ^ 10; decide)
end L2.Dc.K20
open PySem PySem.W PySem.Calls PyProof.Rows
theorem PySem.Challenge.cw_tickcounts_k20_rules_made_holds : PySem.Challenge.rw_tickcounts_k20_rules_made.Holds := by
  w_on; o_law
  refine HandSHeadRun.head_any (r := L2.Dc.K20.R) (q := view L2.Dc.K20.R.prog [L2.Dc.K20.lawAt]) (H := L2.Dc.K20.hk) (ob := L2.Dc.K20.ob) (M := 6000) (loose := L2.Dc.K20.loose) (d := HandSHeadRun.topDef L2.Dc.K20.R.prog L2.Dc.K20.lawAt) (kwd := []) L2.Dc.K20.ob_eq
    (by kernel_rfl) (fun s => by kernel_rfl) L2.Dc.K20.run (by kernel_rfl) (by kernel_rfl) (by kernel_rfl) (by rfl) (by first | assumption | decide +kernel) (by decide +kernel) ⟨rfl, rfl, rfl, rfl, rfl, by decide +kernel⟩ ?hw ?hc
  case hw => w_witness2
  case hc =>
    refine L2.Fw.walk_ofG (l := PySem.Challenge.rw_tickcounts_k20_rules_made) (n := 63) (k := 10) (x := "script") rfl (by decide) (by kernel_rfl) ⟨rfl, by decide, by decide⟩ ?F
    intro w mg fa h Y G hmg0
    obtain ⟨K, KX, c⟩ := Y
    have hmg : mg ("law" : PySem.Str) = some (.ref fa) := by
      have e : (HandSHeadRun.topDef L2.Dc.K20.R.prog L2.Dc.K20.lawAt).name = ("law" : PySem.Str) := by kernel_rfl
      rw [← e]
      exact hmg0
    obtain ⟨fd, hb, hF⟩ := L2.Dc.K20.facts (P := (PySem.Challenge.rw_tickcounts_k20_rules_made).prog) (w := w) KX G hmg c
    exact ⟨K, fd, _, KX, hb, fun H a ns hl hO hS => L2.Dc.K20.law_sp hO hS, hF⟩
