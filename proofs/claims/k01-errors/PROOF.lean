import PyProof.Rows.All
import Wide.All
import OpenK.AllK
import Wide.FinOn
import KE.KExcIs
import HandS.ForMost
import HandS.Exc
import HandS.TryOnly
import HandS.ExcOwn
import HandS.WordsExc
import HandS.ExcInit
import HandS.ExcField
import HandS.IsInst
import HandS.Defaults
import HandS.Flow
import HandS.Wide
import HandS.HeadHook2
import HandS.Head2
import HandS.HeadEnd
import HandS.MakeKw
import PyProof.ReprRoads
import HandS.Deep
import HandS.DictEq
import HandS.List
import HandS.LawCells
import HandS.ExcValue
import HandS.WideBits
import HandS.Text
import HandS.Iter
import HandS.TupLe
import PyProof.ReprLen
import PySem.Challenge.RW_tickcounts_k01_errors
set_option Elab.async false
set_option linter.all false
set_option maxRecDepth 100000
set_option maxHeartbeats 8000000
/-! exceptions of own classes as tracked objects -/
namespace L2.Fw
open PySem PySem.Spec PyProof.Rows

/-- at a stands an exception of the class at C whose own dict is d -/
def exv (a C : Addr) (d : Option Addr) : HO := .ext fun h => ∃ (o : Obj) (vs : Array Value), h.get? a = some o ∧ Zc (.ref C) d o ∧ o.data = .fields vs
theorem exv_ok {P : Program} {w : World} {H : Hp} {h : Heap} {a C : Addr} {d : Option Addr} {o : Obj} {vs : Array Value} (e : h.get? a = some o) (z : Zc (.ref C) d o) (hd : o.data = .fields vs) : ObjOk P w H h a (exv a C d) :=
  ⟨⟨o, vs, e, z, hd⟩, ⟨o, e⟩, fun _ _ ⟨o, v, q, r⟩ k => ⟨o, v, k o q, r⟩⟩
theorem exv_at {P : Program} {w : World} {H : Hp} {h : Heap} {a C : Addr} {d : Option Addr} (hok : HOk P w H h) (he : H a = some (exv a C d)) : ∃ (o : Obj) (vs : Array Value), h.get? a = some o ∧ Zc (.ref C) d o ∧ o.data = .fields vs := by
  have x : ObjOk P w H h a (.ext fun h => ∃ (o : Obj) (vs : Array Value), h.get? a = some o ∧ Zc (.ref C) d o ∧ o.data = .fields vs) := hok a _ he
  exact x.1

/-- what the class at C of an own exception must say: its instances' fields may be read, isinstance may ask them -/
structure EC (K : PySem.W.Frag) (C : Addr) : Prop where
  cl : (PySem.W.clsIn K C).isSome = true
  ga : PySem.W.findIn K (.ref C) "__getattribute__" = some (some (.builtin "BaseException.__getattribute__"))
  gg : PySem.W.findIn K (.ref C) "__getattr__" = some none
  sub : PySem.W.subIn K (.ref C) (.type "BaseException") = some true
  hd : PySem.W.hasDictIn K C = true
  ha : PySem.W.findIn K (.ref C) "__class__" = some (some (.builtin "object.__class__"))
  hn : PySem.W.specialIn K (.builtin "object.__class__") "__get__" = some (some (.builtin "getset_descriptor.__get__"))
  ht : PySem.W.takesIn K (.builtin "object.__class__") = some true
  hm : PySem.W.mroIn K C (.type "object") = some true
def ecB (K : PySem.W.Frag) (C : Addr) : Bool := (PySem.W.clsIn K C).isSome && decide (PySem.W.findIn K (.ref C) "__getattribute__" = some (some (.builtin "BaseException.__getattribute__"))) && decide (PySem.W.findIn K (.ref C) "__getattr__" = some none) &&
  decide (PySem.W.subIn K (.ref C) (.type "BaseException") = some true) && PySem.W.hasDictIn K C && decide (PySem.W.findIn K (.ref C) "__class__" = some (some (.builtin "object.__class__"))) &&
  decide (PySem.W.specialIn K (.builtin "object.__class__") "__get__" = some (some (.builtin "getset_descriptor.__get__"))) && decide (PySem.W.takesIn K (.builtin "object.__class__") = some true) && decide (PySem.W.mroIn K C (.type "object") = some true)
theorem ecB_ok {K : PySem.W.Frag} {C : Addr} (h : ecB K C = true) : EC K C := by
  unfold ecB at h
  simp only [Bool.and_eq_true, decide_eq_true_eq] at h
  obtain ⟨⟨⟨⟨⟨⟨⟨⟨h1, h2⟩, h3⟩, h4⟩, h5⟩, h6⟩, h7⟩, h8⟩, h9⟩ := h
  exact ⟨h1, h2, h3, h4, h5, h6, h7, h8, h9⟩

section
variable {X : Cx} {pins : List (Addr × Obj)} {σ : St} {H : Hp} {s : Shared} {a C : Addr} {d : Option Addr}
theorem Zc.inst {o : Obj} {vs : Array Value} {h : Heap} {od : Option Obj} (e : h.get? a = some o) (z : Zc (.ref C) d o) (hd : o.data = .fields vs) (ho : match d, od with | none, none => True | some dd, some ob => h.get? dd = some ob | _, _ => False) : PySem.W.InstAt h a o C od := by
  obtain ⟨oc, odd, oda, osl⟩ := o
  obtain ⟨h1, h2⟩ := z
  dsimp only at h1 h2 hd
  subst h1 h2 hd
  cases odd with
  | none => cases od with
    | none => exact ⟨e, rfl, rfl, trivial⟩
    | some _ => exact ho.elim
  | some dd => cases od with
    | none => exact ho.elim
    | some ob => exact ⟨e, rfl, rfl, ho⟩
/-- e.f, e a tracked exception whose own dict is at dd -/
def tXfv (K : PySem.W.Frag) (f : Str) (te : TE) : TE := fun σ H Q => te σ H fun x H1 => ∃ (a C dd : Addr) (fs : List (Str × V)) (v : V), x = .ref a ∧ EC K C ∧ PySem.W.findIn K (.ref C) f = some none ∧ H1 a = some (exv a C (some dd)) ∧ H1 dd = some (.xd fs) ∧ fs.lookup f = some v ∧ Q v H1
theorem pe_xfv {e : Expr} {te : TE} {pos : Pos} {n : Str} (he : PE X e te) (hb : attributeBase e n X.env (eval e X.env) = eval e X.env := by rfl) : PE X (.Attribute e n pos) (tXfv X.K n te) := by
  refine ⟨fun pins s σ H Q I h => ?_⟩
  refine attr_of hb (thn (he.run pins s σ H _ I h) fun u s1 hh => ?_)
  obtain ⟨x, H1, I1, rx, a, C, dd, fs, v, ex, T, hno, ea, ed, l, q⟩ := hh
  subst ex
  obtain rfl : u = Value.ref a := rx
  obtain ⟨oe, vs, ho, hz, hd⟩ := exv_at I1.hok ea
  have hx : ObjOk X.prog X.w H1 s1.heap dd (.xd fs) := I1.hok dd _ ed
  obtain ⟨mA, hns, hr⟩ := hx
  obtain ⟨od, hod, hl⟩ := lookIn_ns hns
  obtain ⟨u, hu, ru⟩ := RelO.some_of (v := v) (o := mA n) (by rw [← l]; exact hr n)
  have J : PySem.W.InstAt s1.heap a oe C (some od) := Zc.inst (d := some dd) ho hz hd hod
  exact HandSPX.exc_get I1.kIn J T.ga T.gg T.sub (PySem.W.findObj_own T.hd hno rfl (by rw [hl, hu])) (handed_of ru) ⟨v, H1, I1.tok _, ru, q⟩
/-- isinstance(e, c), e a tracked exception -/
def rIsX (K : PySem.W.Frag) : List V → Hp → VK → Prop := fun xs H Q => ∃ (a C : Addr) (d : Option Addr) (c : V) (u : Value) (b : Bool), xs = [.ref a, c] ∧ ClsV c u ∧ EC K C ∧ H a = some (exv a C d) ∧ (∀ dd, d = some dd → ∃ fs, H dd = some (.xd fs)) ∧ PySem.W.kitOne K (.ref C) u = some b ∧ Q (.bl b) H
theorem call_isX : CallR X (.builtin "isinstance") (rIsX X.K) := by
  intro pins s σ H xs us Q I r h
  obtain ⟨a, C, d, c, u, b, rfl, hcv, T, ea, hdd, e, q⟩ := h
  cases r with
  | cons rx rr =>
    cases rr with
    | cons rt rr =>
      cases rr
      cases rx
      have ec := hcv.eq rt
      subst ec
      obtain ⟨oe, vs, ho, hz, hd⟩ := exv_at I.hok ea
      have fin : ∀ od, PySem.W.InstAt s.heap a oe C od → wpAny (model X.prog X.w) X.A (call (.builtin "isinstance") [.ref a, _]) (EP X pins σ Q) X.xe s := fun od J =>
        PySem.W.kia_one (PySem.W.kitx_exc (od := od) T.cl T.ga T.gg T.sub T.ha T.hn T.ht T.hm) I.kIn J e (fun z => nomatch z) fun tk => ⟨.bl b, H, I.kept (t' := tk) fun _ _ z => z, rfl, q⟩
      cases d with
      | none => exact fin none (Zc.inst (d := none) ho hz hd trivial)
      | some dd =>
        obtain ⟨fs, ed⟩ := hdd dd rfl
        have hx : ObjOk X.prog X.w H s.heap dd (.xd fs) := I.hok dd _ ed
        obtain ⟨mA, ⟨ob, es, ep, hob, _⟩, _⟩ := hx
        exact fin (some ob) (Zc.inst (d := some dd) ho hz hd hob)
end
end L2.Fw
/-! an own exception class called, with keywords too: the new exception as a value -/
namespace L2.Fw
open PySem PySem.Spec PySem.Calls PyProof.Rows PySem.HandSPX
section
variable {prog : Program} {w : World} {A : Around} {E : Value → Shared → Prop} {R : Result → Shared → Prop} {h : Heap} {g : Array GenState} {d : Drawn} {t : Nat} {os : OsState}
variable {nm q : Str} {C N : Addr} {bs bm : List Value} {sn : List Str} {sub : List Value} {ab : Bool} {col : Option Bool} {dd : Option Addr} {k0 k1 k2 k3 k5 : Option Value} {rest : List Value} {kw : List (Str × Value)}
/-- the class object at C: an own class over ValueError -/
abbrev VC (h : Heap) (C : Addr) (nm q : Str) (N : Addr) (bs bm : List Value) (sn : List Str) (sub : List Value) (ab : Bool) (col : Option Bool) (dd : Option Addr) (k0 k1 k2 k3 k5 : Option Value) : Prop :=
  h.get? C = some (excClassObj nm q C N bs bm true sn sub ab col dd k0 k1 k2 k3 k5 "ValueError.__new__")
theorem kwNew (hb : refsVE bm = true) {Q : Unit → Shared → Prop} (hC : VC h C nm q N bs bm sn sub ab col dd k0 k1 k2 k3 k5) (hq : Q () ⟨h, g, d, t, os⟩) :
    wpAny (model prog w) A (checkBuiltinCall "ValueError.__new__" ⟨.ref C :: rest, kw⟩) Q E ⟨h, g, d, t, os⟩ := by
  have F := F.excBase_ValueError
  have c1 : (Value.ref C :: bm).contains (.type "ValueError") = true := by rw [List.contains_cons, refsVE_contains _ bm hb]; rfl
  have c2 := F.noStar
  simp only [checkBuiltinCall, F.newKind, F.newSplit, F.newRow]
  repeat (first | refine wpAny_loadPart_at hC ?_ | (refine wpAny_isSubtype_exc hC ?_; rw [c1]) | refine wpAny_staticBase_exc hC ?_ | refine wpAny_madeBy_exc hC ?_ | simp only [bne_self_eq_false, Bool.false_eq_true, if_false] | wp_step)
  exact hq
theorem kwBase (hb : refsVE bm = true) (hC : VC h C nm q N bs bm sn sub ab col dd k0 k1 k2 k3 k5) (hl : rest.length ≤ sizeLine)
    (hq : R (.ok (.ret (.ref (h.objs.size + 1)))) ⟨(h.push (W.kdv_tup rest)).push (excO C h.objs.size), g, d, t, os⟩) :
    codeAny (model prog w) A (.builtin "ValueError.__new__" ⟨.ref C :: rest, kw⟩) R ⟨h, g, d, t, os⟩ := by
  have F := F.excBase_ValueError
  have F1 := F.ends
  have c1 : (Value.ref C :: bm).contains (.type "ValueError") = true := by rw [List.contains_cons, refsVE_contains _ bm hb]; rfl
  have c2 : (Value.ref C :: bm).contains (.type "AttributeError") = false := by rw [List.contains_cons, refsVE_contains _ bm hb]; rfl
  have c3 : (Value.ref C :: bm).contains (.type "NameError") = false := by rw [List.contains_cons, refsVE_contains _ bm hb]; rfl
  refine codeAny_builtinAt F.entry ?_
  unfold Builtin.«BaseException.__new__»
  refine PySem.wpAt_bind ?_
  show PySem.wpAt _ _ _ (stack >>= _) _ _ _
  refine PySem.wpAt_bind (PySem.wpAt_stack fun p below => PySem.wpAt_of_wpAny ?_)
  wp_walk
  refine PySem.wpAt_of_wpAny ?_
  rw [F.owner]
  repeat (first | with_reducible refine wpAny_madeHere_exc F.canon hC ?_ | with_reducible refine wpAny_loadPart_at hC ?_ | (with_reducible refine wpAny_isSubtype_exc hC ?_; first | rw [c1] | rw [c2] | rw [c3]) | wp_step)
  show R _ _
  rw [Heap.size_push]
  exact hq
theorem kwTypeCall (hb : refsVE bm = true) {fI : Addr} {Q : Fin → Shared → Prop} (hC : VC h C nm q N bs bm sn sub ab col dd k0 k1 k2 k3 k5)
    (hi : W.Looks (model prog w) h (typeLookup (.ref C) "__init__") (some (.ref fI))) (hs : ∀ self, W.Looks (model prog w) h (bindSpecial (.ref fI) self) (.ref fI, [self])) (hl : rest.length ≤ sizeLine)
    (hq : codeAny (model prog w) A (.call (.ref fI) ⟨.ref (h.objs.size + 1) :: rest, kw⟩)
      (fun r s' => match r with | .ok (.ret v) => v = .none ∧ Q (.done (.ret (.ref (h.objs.size + 1)))) s' | .ok _ => False | .error e => E e s') ⟨(h.push (W.kdv_tup rest)).push (excO C h.objs.size), g, d, t, os⟩) :
    wpAny (model prog w) A (Builtin.«type.__call__» ⟨.ref C :: rest, kw⟩) Q E ⟨h, g, d, t, os⟩ := by
  repeat (first | with_reducible refine wpAny_loadPart_at hC ?_ | with_reducible refine wpAny_madeBy_exc hC ?_ | wp_step)
  refine codeAny_call_builtin_code (Code.quiet_builtin _ F.excBase_ValueError.quiet) (kwNew hb hC ?_)
  refine kwBase hb hC hl ?_
  show wpAny _ _ _ _ _ _
  have k : ∀ b o, h.get? b = some o → ((h.push (W.kdv_tup rest)).push (excO C h.objs.size)).get? b = some o := fun b o e => Heap.get?_push_of_some _ (Heap.get?_push_of_some _ e)
  have hC2 := k _ _ hC
  have hnew : ((h.push (W.kdv_tup rest)).push (excO C h.objs.size)).get? (h.objs.size + 1) = some (excO C h.objs.size) := by heap_get
  have c4 : (Value.ref C :: bm).contains (.ref C) = true := by simp
  have l1 := hi.keeps k
  have l2 := (hs (.ref (h.objs.size + 1))).keeps k
  unfold isInstance
  repeat (first | with_reducible refine wpAny_loadPart_at hnew ?_ | (with_reducible refine wpAny_isSubtype_exc hC2 ?_; rw [c4]) | wp_step)
  show wpAny _ _ (typeLookup (.ref C) _) _ _ _
  refine l1.at ?_
  refine wpAny_holding (wpAny_bind (l2.at ?_))
  refine wpAny_bind (wpAny_call (codeAny_mono hq fun r s' z => ?_))
  rcases r with e | (v | _ | _ | _) <;> first | exact z | exact z.elim | skip
  obtain ⟨rfl, z⟩ := z
  first
    | exact wpAny_pure (wpAny_pure z)
    | (wp_walk; exact z)
theorem kwCheck {Q : Unit → Shared → Prop} (hC : VC h C nm q N bs bm sn sub ab col dd k0 k1 k2 k3 k5) (hq : Q () ⟨h, g, d, t, os⟩) : wpAny (model prog w) A (checkBuiltinCall "type.__call__" ⟨.ref C :: rest, kw⟩) Q E ⟨h, g, d, t, os⟩ := by
  have f3 := tc_sub
  have hT : (⟨h, g, d, t, os⟩ : Shared).TypeIs (.ref C) "type" := ⟨_, hC, rfl⟩
  simp only [checkBuiltinCall, tc_kind, tc_split]
  repeat (any_goals (first | assumption | with_reducible refine wpAny_loadPart_at hC ?_ | with_reducible refine wpAny_onRaise ?_ | with_reducible refine wpAny_map ?_ | wp_step))
theorem kwCall (hb : refsVE bm = true) {fI : Addr} (hC : VC h C nm q N bs bm sn sub ab col dd k0 k1 k2 k3 k5)
    (hi : W.Looks (model prog w) h (typeLookup (.ref C) "__init__") (some (.ref fI))) (hs : ∀ self, W.Looks (model prog w) h (bindSpecial (.ref fI) self) (.ref fI, [self])) (hl : rest.length ≤ sizeLine)
    (hq : codeAny (model prog w) (A.under (.builtin "type.__call__" ⟨.ref C :: rest, kw⟩)) (.call (.ref fI) ⟨.ref (h.objs.size + 1) :: rest, kw⟩) (W.InitBack (h.objs.size + 1) R)
      ⟨(h.push (W.kdv_tup rest)).push (excO C h.objs.size), g, d, t, os⟩) :
    codeAny (model prog w) A (.call (.ref C) ⟨rest, kw⟩) R ⟨h, g, d, t, os⟩ := by
  have f1 := tc_lookup
  have f2 := tc_bind (.ref C)
  have hTy : (⟨h, g, d, t, os⟩ : Shared).TypeIs (.ref C) "type" := ⟨_, hC, rfl⟩
  refine codeAny_of_tree ?_
  show wpAny _ _ (callAny (.ref C) _) _ _ _
  repeat (any_goals (first | assumption | with_reducible refine wpAny_loadPart_at hC ?_ | wp_step))
  refine ⟨rfl, ?_⟩
  refine codeAny_call_builtin_at (Code.quiet_builtin _ (by decide +kernel)) entry_typeCall (kwCheck hC (kwTypeCall hb hC hi hs hl ?_))
  refine codeAny_mono hq fun r s' z => ?_
  rcases r with e | (v | _ | _ | _) <;> exact z
end
end L2.Fw
/-! own exceptions as values: C(v), C(f=v), C() -/
namespace L2.Fw
open PySem PySem.Spec PyProof.Rows
section
variable {X : Cx} {pins : List (Addr × Obj)} {σ : St} {H : Hp} {s : Shared}
/-- another description of the same object -/
theorem Inv.retype {a : Addr} {o o' : HO} (I : Inv X pins σ H s) (e : H a = some o) (mu : Mut (some o)) (new : ObjOk X.prog X.w (upd H a o') s.heap a o') : Inv X pins σ (upd H a o') s := by
  obtain ⟨u, hu⟩ : ∃ u, s.heap.get? a = some u := by
    have l := I.hok.lt e
    cases q : s.heap.get? a with
    | some u => exact ⟨u, rfl⟩
    | none =>
      have z := I.hok a o e
      exfalso
      cases o with
      | lst xs => obtain ⟨_, _, _, _, r⟩ := z; rw [q] at r; cases r
      | dK kvs => obtain ⟨_, _, _, _, _, _, _, r, _⟩ := z; rw [q] at r; cases r
      | dT kvs => obtain ⟨_, _, _, _, _, _, _, r, _⟩ := z; rw [q] at r; cases r
      | set S n => obtain ⟨_, _, _, _, r, _⟩ := z; rw [q] at r; cases r
      | ins C dx fs => obtain ⟨_, _, _, r, _⟩ := z; rw [q] at r; cases r
      | ext φ => obtain ⟨_, ⟨_, r⟩, _⟩ := z; rw [q] at r; cases r
      | tup xs => exact mu
      | own y => exact mu
      | xd fs => exact mu
      | rng lo hi => exact mu
      | frz ob v => exact mu
      | tbl ps => exact mu
      | met f y => exact mu
  have J := I.write (t' := s.toks) (h' := s.heap) (x := a) (e := a) (o := o') (by rw [e]; exact mu) (.inl rfl) (fun b u _ q => q) ⟨u, hu⟩ new
  exact J
end
/-- __init__(self, f): self.f = f -/
def spXI (K : PySem.W.Frag) (f : Str) : Sp := fun vs H Q _ => ∃ (a C : Addr) (v : V), vs = [.ref a, v] ∧ OexC K C ∧ PySem.W.findIn K (.ref C) f = some none ∧ H a = some (exo a C none) ∧
  ∀ d, H d = none → d ≠ a → Q .non (upd (upd H d (exd d [(f, v)])) a (exo a C (some d)))
/-- what the text says of an own exception class of one field: its __init__ keeps spXI, whatever way it is called -/
structure XC (P : Program) (w : World) (K : PySem.W.Frag) (mg : Str → Option Value) (base : Heap) (x f : Str) (C : Addr) (k : Nat) : Prop where
  gl : mg x = some (.ref C)
  oex : OexC K C
  ec : EC K C
  no : PySem.W.findIn K (.ref C) f = some none
  ini : ∃ fI fd, PySem.W.findIn K (.ref C) "__init__" = some (some (.ref fI)) ∧ PySem.W.typeIn K (.ref fI) = some (.type "function") ∧ FnOk P w K mg base (L2.CX P w) k fI fd ["self", f] (spXI K f) ∧
    (∃ g, KBn K fd ["self", f] 2 [] g fun vs _ => vs) ∧ (∃ g, KBn K fd ["self", f] 1 [f] g fun vs zs => vs ++ zs) ∧ ∃ g, KBn K fd ["self", f] 1 [] g fun vs _ => vs ++ [.non]
/-- the new exception -/
def rMkv (C : Addr) (f : Str) (v : V) : Hp → VK → Prop := fun H Q => ∀ a d, H a = none → H d = none → d ≠ a → Q (.ref a) (upd (upd H d (.xd [(f, v)])) a (exv a C (some d)))
section
variable {X : Cx} {pins : List (Addr × Obj)} {σ : St} {H : Hp} {s : Shared} {x f : Str} {C : Addr} {k : Nat}
theorem run_mkv {fI : Addr} {fd : FuncData} {n : Nat} {ks : List Str} {g : List Value → List Value → List Value} {gV : List V → List V → List V} {us ws : List Value} {vs zs : List V} {v : V} {Q : VK}
    (T : OexC X.K C) (no : PySem.W.findIn X.K (.ref C) f = some none) (hi : PySem.W.findIn X.K (.ref C) "__init__" = some (some (.ref fI))) (ht : PySem.W.typeIn X.K (.ref fI) = some (.type "function"))
    (F : FnOk X.prog X.w X.K X.mg X.base (L2.CX X.prog X.w) k fI fd ["self", f] (spXI X.K f)) (b : KBn X.K fd ["self", f] (n + 1) ks g gV) (hr : Room (k + 1) X.A)
    (I : Inv X pins σ H s) (r : Vals vs us) (rz : Vals zs ws) (l1 : vs.length = n) (l2 : zs.length = ks.length) (hl : n ≤ 1000) (hv : ∀ y : V, gV (y :: vs) zs = [y, v]) (q : rMkv C f v H Q) :
    wpAny (model X.prog X.w) X.A (call (.ref C) us (ks.zip ws)) (EP X pins σ Q) X.xe s := by
  obtain ⟨nm, qn, N, bs, bm, sn, sub, ab, col, dd, k0, k1, k2, k3, k5, hC, hbm⟩ := T.cls
  obtain ⟨hp, gg, dr, tk, os⟩ := s
  have hsz : hp.objs.size ≤ hp.objs.size + 1 := Nat.le_succ _
  have hn : H (hp.objs.size + 1) = none := I.hok.fresh hsz
  have kk : ∀ b o, hp.get? b = some o → ((hp.push (PySem.W.kdv_tup us)).push (PySem.HandSPX.excO C hp.objs.size)).get? b = some o := fun b o e => Heap.get?_push_of_some _ (Heap.get?_push_of_some _ e)
  have hget : ((hp.push (PySem.W.kdv_tup us)).push (PySem.HandSPX.excO C hp.objs.size)).get? (hp.objs.size + 1) = some (PySem.HandSPX.excO C hp.objs.size) := by heap_get
  have I2 : Inv X pins σ (upd H (hp.objs.size + 1) (exo (hp.objs.size + 1) C none)) ⟨(hp.push (PySem.W.kdv_tup us)).push (PySem.HandSPX.excO C hp.objs.size), gg, dr, tk, os⟩ :=
    I.laid (t' := tk) (a := hp.objs.size + 1) (o := exo (hp.objs.size + 1) C none) kk hsz (exo_ok hget)
  have r1 : Vals (V.ref (hp.objs.size + 1) :: vs) (Value.ref (hp.objs.size + 1) :: us) := .cons rfl r
  have r2 := b.rel r1 rz
  have e1 : (Value.ref (hp.objs.size + 1) :: us).length = n + 1 := r1.length.symm.trans (congrArg Nat.succ l1)
  have e2 : ws.length = ks.length := rz.length.symm.trans l2
  have hus : us.length ≤ sizeLine := by
    rw [← Paired.length r, l1, sizeLine_eq]
    omega
  have sp : spXI X.K f (gV (V.ref (hp.objs.size + 1) :: vs) zs) (upd H (hp.objs.size + 1) (exo (hp.objs.size + 1) C none))
      (fun y H2 => y = .non ∧ ∃ d, H d = none ∧ d ≠ hp.objs.size + 1 ∧ H2 = upd (upd (upd H (hp.objs.size + 1) (exo (hp.objs.size + 1) C none)) d (exd d [(f, v)])) (hp.objs.size + 1) (exo (hp.objs.size + 1) C (some d))) (fun _ _ _ => False) := by
    refine ⟨hp.objs.size + 1, C, v, hv _, T, no, upd_same, fun d h1 h2 => ⟨rfl, d, ?_, h2, rfl⟩⟩
    rw [upd_ne h2] at h1
    exact h1
  refine wpAny_call (kwCall hbm (I.kIn _ _ hC) (PySem.W.looks_findIn I.kIn hi) (fun self => PySem.W.bind_fn I.kIn self ht) hus
    (codeAny_mono (F.run _ X.stack _ _ ⟨Value.ref (hp.objs.size + 1) :: us, ks.zip ws⟩ (g (Value.ref (hp.objs.size + 1) :: us) ws) _ _ (fun _ _ _ => False) (hr.make C us (ks.zip ws)) (I2.env0.make C us (ks.zip ws))
      (b.to _ (Value.ref (hp.objs.size + 1) :: us) ws I2.kIn e1 e2) r2 sp) fun r s' hq' => ?_))
  cases r with
  | error er => exact passL (X := X) pins σ _ _ er s' I2 hq'
  | ok fl =>
    cases fl with
    | ret u =>
      obtain ⟨y, H2, I3, rv, ey, d, hd, dne, eH⟩ := I2.after hq'
      subst ey eH
      refine ⟨rv, ?_⟩
      have z1 : upd (upd (upd H (hp.objs.size + 1) (exo (hp.objs.size + 1) C none)) d (exd d [(f, v)])) (hp.objs.size + 1) (exo (hp.objs.size + 1) C (some d)) (hp.objs.size + 1) = some (exo (hp.objs.size + 1) C (some d)) := upd_same
      have z2 : upd (upd (upd H (hp.objs.size + 1) (exo (hp.objs.size + 1) C none)) d (exd d [(f, v)])) (hp.objs.size + 1) (exo (hp.objs.size + 1) C (some d)) d = some (exd d [(f, v)]) := by rw [upd_ne dne, upd_same]
      obtain ⟨t1, ho⟩ := exo_at I3.hok z1
      have J := Inv.retype I3 z1 (o' := exv (hp.objs.size + 1) C (some d)) True.intro (exv_ok ho ⟨rfl, rfl⟩ rfl)
      have z3 : upd (upd (upd (upd H (hp.objs.size + 1) (exo (hp.objs.size + 1) C none)) d (exd d [(f, v)])) (hp.objs.size + 1) (exo (hp.objs.size + 1) C (some d))) (hp.objs.size + 1) (exv (hp.objs.size + 1) C (some d)) d = some (exd d [(f, v)]) := by rw [upd_ne dne]; exact z2
      obtain ⟨mA, hns, rel⟩ := exd_at J.hok z3
      have J2 := Inv.retype J z3 (o' := .xd [(f, v)]) True.intro ⟨mA, hns, rel⟩
      have eH : upd (upd (upd (upd (upd H (hp.objs.size + 1) (exo (hp.objs.size + 1) C none)) d (exd d [(f, v)])) (hp.objs.size + 1) (exo (hp.objs.size + 1) C (some d))) (hp.objs.size + 1) (exv (hp.objs.size + 1) C (some d))) d (.xd [(f, v)]) =
          upd (upd H d (.xd [(f, v)])) (hp.objs.size + 1) (exv (hp.objs.size + 1) C (some d)) := by
        funext z
        unfold upd
        by_cases q1 : z = d
        · subst q1
          rw [if_pos rfl, if_neg dne, if_pos rfl]
        · rw [if_neg q1]
          by_cases q2 : z = hp.objs.size + 1
          · rw [if_pos q2, if_pos q2]
          · simp only [if_neg q1, if_neg q2]
      rw [eH] at J2
      exact ⟨.ref (hp.objs.size + 1), _, J2, rfl, q _ d hn hd dne⟩
    | next => exact False.elim hq'
    | brk => exact False.elim hq'
    | cont => exact False.elim hq'
/-- C(e) -/
def tMkv (C : Addr) (f : Str) (t : TA) : TE := fun σ H Q => t σ H fun vs H1 => ∃ v, vs = [v] ∧ rMkv C f v H1 Q
theorem pe_mkv {e : Expr} {t : TA} {p pos : Pos} (T : XC X.prog X.w X.K X.mg X.base x f C k) (hr : Room (k + 1) X.A) (hg : Gl X x) (ha : PA X [e] t)
    (hdb : (x == ("__debug__" : Str)) = false := by decide) (hs : starEach [e] X.env = (false, eval e X.env) :: starEach [] X.env := by rfl) (hpl : (backTo pos (starEach [] X.env)).any (·.1) = false := by rfl) :
    PE X (.Call (.Name x p) [e] [] pos) (tMkv C f t) := by
  refine ⟨fun pins s σ H Q I h => ?_⟩
  obtain ⟨fI, fd, hi, ht, F, ⟨g, b⟩, _, _⟩ := T.ini
  refine wpAny_Call_Name_kw (ld_glob I hg T.gl ?_ hdb)
  refine PySem.W.callWith_K (h₀ := X.base) I.ok.mod.kin T.oex.kC (thn (ha.run pos pins s σ H _ I h) fun us s1 ⟨vs, H1, I1, r1, v, ev, q1⟩ => ⟨I1.kIn, ?_⟩) hs hpl
  subst ev
  exact run_mkv (ks := []) (ws := []) (zs := []) (n := 1) T.oex T.no hi ht F b hr I1 r1 .nil rfl rfl (by decide) (fun y => rfl) q1
/-- C(f=e) -/
theorem pe_mkvk {e : Expr} {t : TA} {p pos kp : Pos} (T : XC X.prog X.w X.K X.mg X.base x f C k) (hr : Room (k + 1) X.A) (hg : Gl X x) (hk : PK X [⟨some f, e, kp⟩] t)
    (hdb : (x == ("__debug__" : Str)) = false := by decide) (hall : (backToKw pos (keywordEach [⟨some f, e, kp⟩] X.env)).all (·.1.isSome) = true := by rfl) (hks : (backToKw pos (keywordEach [⟨some f, e, kp⟩] X.env)).filterMap (·.1) = [f] := by rfl)
    (hpl : ((backTo pos (starEach [] X.env)).any (·.1) || (backToKw pos (keywordEach [⟨some f, e, kp⟩] X.env)).any (·.1.isNone)) = false := by rfl) :
    PE X (.Call (.Name x p) [] [⟨some f, e, kp⟩] pos) (tMkv C f t) := by
  refine ⟨fun pins s σ H Q I h => ?_⟩
  obtain ⟨fI, fd, hi, ht, F, _, ⟨g, b⟩, _⟩ := T.ini
  refine wpAny_Call_Name_kw (ld_glob I hg T.gl ?_ hdb)
  refine PySem.W.callWith_KW0 (h₀ := X.base) I.ok.mod.kin T.oex.kC hall (thn (hk.run pos pins s σ H _ I h) fun us s1 ⟨vs, H1, I1, r1, v, ev, q1⟩ => ⟨I1.kIn, ?_⟩) hpl
  subst ev
  rw [hks]
  exact run_mkv (ks := [f]) (us := []) (vs := []) (n := 0) T.oex T.no hi ht F b hr I1 .nil r1 rfl rfl (by decide) (fun y => rfl) q1
/-- C() -/
theorem pe_mkv0 {p pos : Pos} (T : XC X.prog X.w X.K X.mg X.base x f C k) (hr : Room (k + 1) X.A) (hg : Gl X x) (hdb : (x == ("__debug__" : Str)) = false := by decide) :
    PE X (.Call (.Name x p) [] [] pos) (fun _ H Q => rMkv C f .non H Q) := by
  refine ⟨fun pins s σ H Q I h => ?_⟩
  obtain ⟨fI, fd, hi, ht, F, _, _, g, b⟩ := T.ini
  refine wpAny_Call_Name_kw (ld_glob I hg T.gl ?_ hdb)
  refine PySem.W.callWith_K0 I.kIn T.oex.kC ?_
  exact run_mkv (ks := []) (us := []) (vs := []) (ws := []) (zs := []) (n := 0) T.oex T.no hi ht F b hr I .nil .nil rfl rfl (by decide) (fun y => rfl) h
end
end L2.Fw
/-! promises of defs that ask repr (nothing that guards may be under way), calls by name -/
namespace L2.Fw
open PySem PySem.Spec PyProof.Rows
structure FnG (P : Program) (w : World) (K : PySem.W.Frag) (mg : Str → Option Value) (base : Heap) (k : Nat) (f : Addr) (fd : FuncData) (ps : List Str) (sp : Sp) : Prop where
  len : ∀ vs H Q E, sp vs H Q E → vs.length = ps.length
  run : ∀ {A : Around} {outer : List Env} {s : Shared} {H : Hp} {args : Args} {us : List Value} {vs : List V} {Q : VK} {E : XK}, A.guards = some [] → Room k A → Env0 P w K mg base A outer s H → BindsTo s fd args (ps.zip us) → Vals vs us → sp vs H Q E →
    codeAny (model P w) A (.call (.ref f) args) (CR (L2.CX P w) outer P w H s Q E) s
theorem FnG.ofOk {P : Program} {w : World} {K : PySem.W.Frag} {mg : Str → Option Value} {base : Heap} {k : Nat} {f : Addr} {fd : FuncData} {ps : List Str} {sp : Sp} (F : FnOk P w K mg base (L2.CX P w) k f fd ps sp) : FnG P w K mg base k f fd ps sp :=
  ⟨F.len, fun _ hr e b r h => F.run _ _ _ _ _ _ _ _ _ hr e b r h⟩
theorem guards_deeper {A : Around} {env : Env} (h : A.guards = some []) : (A.deeper env).guards = some [] := by
  exact h
theorem fnG_of {P : Program} {w : World} {K : PySem.W.Frag} {mg : Str → Option Value} {base : Heap} {k : Nat} {f : Addr} {name qual : Str} {params : Arguments} {body : List Stmt} {scope : Scope} {dV kV doc pm cdv ct oc : Value} {an od : Option Addr}
    {osl : Array (Option Value)} {N ps : List Str} {sp : Sp} (lk : K.lookup f = some ⟨oc, od, .func (PySem.W.fnOf name qual params body scope dV kV doc pm an cdv ct), osl⟩) (hcd : PySem.W.codeIn K cdv qual = true) (S : FnScope N ps scope)
    (len : ∀ vs H Q E, sp vs H Q E → vs.length = ps.length)
    (hbody : ∀ (A : Around) (outer : List Env) (s : Shared) (H : Hp) (vs : List V) (Q : VK) (E : XK), (A.deeper (envOfC qual scope s.heap.objs.size f cdv)).guards = some [] → Room k (A.deeper (envOfC qual scope s.heap.objs.size f cdv)) → sp vs H Q E →
      ∃ t, PSs (cxOf (L2.CX P w) P w K mg base N qual scope f cdv A outer s H E) body t ∧ t { nx := fun _ H' => Q .non H', rt := Q } (start N vs) H) :
    FnG P w K mg base (k + 1) f (PySem.W.fnOf name qual params body scope dV kV doc pm an cdv ct) ps sp := by
  refine ⟨len, fun {A outer s H args us vs Q E} hgd hr e0 hb r hsp => ?_⟩
  have KX : K.In s.heap := e0.mod.kin.keeps fun b o e => (e0.bs b o e).1
  have lim : s.heap.NoLimit := e0.mod.nolimit.keeps fun b o e => (e0.bs b o e).1
  have kinds : ∀ y ∈ ps.zip us, scope.names.lookup y.1 = some .local ∨ (scope.names.lookup y.1 = some .cell ∧ ((cellsFrom (s.heap.objs.size + 1) scope.names []).lookup y.1).isSome = true) := fun y hy => by
    rcases S.par y.1 (List.of_mem_zip (a := y.1) (b := y.2) hy).1 with q | q
    · exact .inl q
    · exact .inr ⟨q, PySem.W.cellsFrom_some _ _ _ (.inl q)⟩
  refine codeAny_call_function hr.depth (KX _ _ lk) rfl S.co S.gen rfl (PySem.W.codeRec_of KX hcd) (hb _ _ _ _ ?_)
  refine wpAny_newFunctionEnv_cells S.kind kinds fun env he s1 x => ?_
  subst he
  refine ⟨lim.keeps x.toInCall.keep, codeAny_func ?_⟩
  obtain ⟨t, ht, hq⟩ := hbody A outer s H vs Q E (guards_deeper hgd) (hr.deeper _) hsp
  have I : Inv (cxOf (L2.CX P w) P w K mg base N qual scope f cdv A outer s H E) [] (start N vs) H s1 := inv_start S hr.hd e0 (len _ _ _ _ hsp) r x
  refine wpAny_mono (ht.run [] s1 (start N vs) H _ I hq) (fun fl s' hs => ?_) fun e s' hs => hs
  cases fl with
  | ret u =>
    obtain ⟨v, σ', H', J, rv, q⟩ := hs
    exact ⟨v, H', J.os, J.bare, J.base, J.hok, rv, q⟩
  | next =>
    obtain ⟨σ', H', J, q⟩ := hs
    exact ⟨.non, H', J.os, J.bare, J.base, J.hok, rfl, q⟩
  | brk =>
    obtain ⟨_, _, _, q⟩ := hs
    exact q.elim
  | cont =>
    obtain ⟨_, _, _, q⟩ := hs
    exact q.elim
section
variable {P : Program} {w : World} {K : PySem.W.Frag} {mg : Str → Option Value} {base : Heap} {x qual : Str} {params : Arguments} {body : List Stmt} {scope : Scope} {dvs : List V} {kws : List (Str × V)} {f : Addr} {fd : FuncData}
theorem okG {N ps : List Str} {k : Nat} {sp : Sp} (F : FunD K x qual params body scope dvs kws f fd) (S : FnScope N ps scope) (len : ∀ vs H Q E, sp vs H Q E → vs.length = ps.length)
    (hbody : ∀ (cdv : Value) (A : Around) (outer : List Env) (s : Shared) (H : Hp) (vs : List V) (Q : VK) (E : XK), (A.deeper (envOfC qual scope s.heap.objs.size f cdv)).guards = some [] → Room k (A.deeper (envOfC qual scope s.heap.objs.size f cdv)) → sp vs H Q E →
      ∃ t, PSs (cxOf (L2.CX P w) P w K mg base N qual scope f cdv A outer s H E) body t ∧ t { nx := fun _ H' => Q .non H', rt := Q } (start N vs) H) : FnG P w K mg base (k + 1) f fd ps sp := by
  obtain ⟨oc, od, dV, kV, doc, pm, an, cdv, ct, osl, rfl, lk, hcd, _, _⟩ := F.ex
  exact fnG_of lk hcd S len fun A outer s H vs Q E g hr hsp => hbody cdv A outer s H vs Q E g hr hsp
/-- what may be called by the name x: a def that keeps sp -/
structure CalO (P : Program) (w : World) (K : PySem.W.Frag) (mg : Str → Option Value) (base : Heap) (k : Nat) (x : Str) (ps : List Str) (sp : Sp) : Prop where
  ex : ∃ f fd, FnOk P w K mg base (L2.CX P w) k f fd ps sp ∧ mg x = some (.ref f) ∧ PySem.W.keepIn K (.ref f) = true ∧ Binds K fd ps []
structure CalG (P : Program) (w : World) (K : PySem.W.Frag) (mg : Str → Option Value) (base : Heap) (k : Nat) (x : Str) (ps : List Str) (sp : Sp) : Prop where
  ex : ∃ f fd, FnG P w K mg base k f fd ps sp ∧ mg x = some (.ref f) ∧ PySem.W.keepIn K (.ref f) = true ∧ Binds K fd ps []
theorem CalO.g {k : Nat} {x : Str} {ps : List Str} {sp : Sp} (C : CalO P w K mg base k x ps sp) : CalG P w K mg base k x ps sp := by
  obtain ⟨f, fd, F, r⟩ := C.ex
  exact ⟨f, fd, .ofOk F, r⟩
end
/-- f(..), what it lets out wished for at the caller's slots -/
def tCallX (sp : Sp) (E : St → XK) (t : TA) : TE := fun σ H Q => t σ H fun vs H1 => sp vs H1 Q (E σ)
section
variable {X : Cx} {k j : Nat} {f : Addr} {fd : FuncData} {ps : List Str} {sp : Sp} {E : St → XK} {x : Str} {p pos : Pos} {e : Expr} {es : List Expr} {t : TA}
theorem run_G {pins : List (Addr × Obj)} {σ : St} {H : Hp} {s : Shared} {Q : VK} {us : List Value} {vs : List V} (F : FnG X.prog X.w X.K X.mg X.base k f fd ps sp) (hgd : X.A.guards = some []) (hr : Room k X.A) (hb : Binds X.K fd ps []) (hx : PassesAt (L2.CX X.prog X.w) X σ (E σ))
    (I : Inv X pins σ H s) (r : Vals vs us) (h : sp vs H Q (E σ)) : wpAny (model X.prog X.w) X.A (call (.ref f) us) (EP X pins σ Q) X.xe s := by
  have hl : us.length = ps.length := by rw [← r.length]; exact F.len _ _ _ _ h
  have b := hb s us I.kIn (by rw [List.append_nil]; exact hl)
  rw [List.append_nil] at b
  refine wpAny_call (codeAny_mono (F.run hgd hr I.env0 b r h) fun z s' hq => ?_)
  cases z with
  | error er => exact hx pins H s er s' I hq
  | ok fl => cases fl with
    | ret u => exact I.after hq
    | _ => exact False.elim hq
theorem pe_callG (C : CalG X.prog X.w X.K X.mg X.base k x ps sp) (hgd : X.A.guards = some []) (hr : Room j X.A) (hg : Gl X x) (hx : ∀ σ, PassesAt (L2.CX X.prog X.w) X σ (E σ)) (ha : PA X (e :: es) t) (hkj : k ≤ j := by decide)
    (hdb : (x == ("__debug__" : Str)) = false := by decide) (he : starEach (e :: es) X.env = (false, eval e X.env) :: starEach es X.env := by rfl) (hpl : (backTo pos (starEach es X.env)).any (·.1) = false := by rfl) :
    PE X (.Call (.Name x p) (e :: es) [] pos) (tCallX sp E t) := by
  obtain ⟨f, fd, F, hm, hk, hb⟩ := C.ex
  refine ⟨fun pins s σ H Q I h => ?_⟩
  refine wpAny_Call_Name_kw (ld_glob I hg hm ?_ hdb)
  refine PySem.W.callWith_K (h₀ := X.base) I.ok.mod.kin hk (thn (ha.run pos pins s σ H _ I h) fun us s1 ⟨vs, H1, I1, r, q⟩ => ⟨I1.kIn, ?_⟩) he hpl
  exact run_G F hgd (hr.mono hkj) hb (hx σ) I1 r q
theorem pe_callG0 (C : CalG X.prog X.w X.K X.mg X.base k x ps sp) (hgd : X.A.guards = some []) (hr : Room j X.A) (hg : Gl X x) (hx : ∀ σ, PassesAt (L2.CX X.prog X.w) X σ (E σ)) (hkj : k ≤ j := by decide)
    (hdb : (x == ("__debug__" : Str)) = false := by decide) : PE X (.Call (.Name x p) [] [] pos) (tCallX sp E tNil) := by
  obtain ⟨f, fd, F, hm, hk, hb⟩ := C.ex
  refine ⟨fun pins s σ H Q I h => ?_⟩
  refine wpAny_Call_Name_kw (ld_glob I hg hm ?_ hdb)
  exact PySem.W.callWith_K0 I.kIn hk (run_G (us := []) F hgd (hr.mono hkj) hb (hx σ) I .nil h)
theorem pe_callO (C : CalO X.prog X.w X.K X.mg X.base k x ps sp) (hr : Room j X.A) (hg : Gl X x) (hx : ∀ σ, PassesAt (L2.CX X.prog X.w) X σ (E σ)) (ha : PA X (e :: es) t) (hkj : k ≤ j := by decide)
    (hdb : (x == ("__debug__" : Str)) = false := by decide) (he : starEach (e :: es) X.env = (false, eval e X.env) :: starEach es X.env := by rfl) (hpl : (backTo pos (starEach es X.env)).any (·.1) = false := by rfl) :
    PE X (.Call (.Name x p) (e :: es) [] pos) (tCallX sp E t) := by
  obtain ⟨f, fd, F, hm, hk, hb⟩ := C.ex
  exact pe_callS F (hr.mono hkj) hg hm hk hb hx ha hdb he hpl
theorem pe_callO0 (C : CalO X.prog X.w X.K X.mg X.base k x ps sp) (hr : Room j X.A) (hg : Gl X x) (hx : ∀ σ, PassesAt (L2.CX X.prog X.w) X σ (E σ)) (hkj : k ≤ j := by decide)
    (hdb : (x == ("__debug__" : Str)) = false := by decide) : PE X (.Call (.Name x p) [] [] pos) (tCallX sp E tNil) := by
  obtain ⟨f, fd, F, hm, hk, hb⟩ := C.ex
  refine ⟨fun pins s σ H Q I h => ?_⟩
  refine wpAny_Call_Name_kw (ld_glob I hg hm ?_ hdb)
  exact PySem.W.callWith_K0 I.kIn hk (run_fnS (us := []) F (hr.mono hkj) hb (hx σ) I .nil h)
/-- nothing is let out -/
theorem passZ {X : Cx} (σ : St) : PassesAt (L2.CX X.prog X.w) X σ E0 := fun pins H s e s' I h => passL (X := X) pins σ H s e s' I h
abbrev Z0 : St → XK := fun _ => E0
end
end L2.Fw
/-! data of any depth, dicts too; repr; a law's end where nothing that guards is under way -/
namespace L2.Fw
open PySem PySem.Spec PyProof.Rows
def keyD : Key → PyData
  | .inl i => .int i
  | .inr x => .str x
/-- v is the data d, every object of it at an address of N -/
inductive Dn (N : Addr → Prop) (K : PySem.W.Frag) (H : Hp) : V → PyData → Prop
  | non : Dn N K H .non .none
  | bl (b : Bool) : Dn N K H (.bl b) (.bool b)
  | int (i : Int) : Dn N K H (.int i) (.int i)
  | str (x : Str) : Dn N K H (.str x) (.str x)
  | lst {a : Addr} {xs : List V} {ds : List PyData} : N a → SqL K H a xs → xs.length = ds.length → (∀ (i : Nat) (x : V) (d : PyData), xs[i]? = some x → ds[i]? = some d → Dn N K H x d) → Dn N K H (.ref a) (.list ds)
  | tup {a : Addr} {xs : List V} {ds : List PyData} : N a → SqT K H a xs → xs.length = ds.length → (∀ (i : Nat) (x : V) (d : PyData), xs[i]? = some x → ds[i]? = some d → Dn N K H x d) → Dn N K H (.ref a) (.tuple ds)
  | dct {a : Addr} {kvs : List (Key × V)} {es : List (PyData × PyData)} : N a → H a = some (.dK kvs) → kvs.map (fun p => keyD p.1) = es.map (·.1) → (∀ (i : Nat) (p : Key × V) (e : PyData × PyData), kvs[i]? = some p → es[i]? = some e → Dn N K H p.2 e.2) → Dn N K H (.ref a) (.dict es)
def DnAll (N : Addr → Prop) (K : PySem.W.Frag) (H : Hp) (xs : List V) (ds : List PyData) : Prop := xs.length = ds.length ∧ ∀ (i : Nat) (x : V) (d : PyData), xs[i]? = some x → ds[i]? = some d → Dn N K H x d
abbrev Dd (K : PySem.W.Frag) (H : Hp) : V → PyData → Prop := Dn (fun _ => True) K H
abbrev DdAll (K : PySem.W.Frag) (H : Hp) : List V → List PyData → Prop := DnAll (fun _ => True) K H
section
variable {N N' : Addr → Prop} {K : PySem.W.Frag} {H H' : Hp}
theorem SqL.fr {a : Addr} {xs : List V} (h : ∀ o, H a = some o → H' a = some o) (q : SqL K H a xs) : SqL K H' a xs := by
  rcases q with (q | ⟨o, q⟩) | q
  · exact .inl (.inl (h _ q))
  · exact .inl (.inr ⟨o, h _ q⟩)
  · exact .inr q
theorem SqT.fr {a : Addr} {xs : List V} (h : ∀ o, H a = some o → H' a = some o) (q : SqT K H a xs) : SqT K H' a xs := by
  rcases q with (q | ⟨o, q⟩) | q
  · exact .inl (.inl (h _ q))
  · exact .inl (.inr ⟨o, h _ q⟩)
  · exact .inr q
/-- another heap that agrees on N; a wider N -/
theorem Dn.fr (h : ∀ a o, N a → H a = some o → H' a = some o) (n : ∀ a, N a → N' a) {v : V} {d : PyData} (q : Dn N K H v d) : Dn N' K H' v d := by
  induction q with
  | non => exact .non
  | bl b => exact .bl b
  | int i => exact .int i
  | str x => exact .str x
  | lst na hs hl _ ih => exact .lst (n _ na) (SqL.fr (fun o => h _ o na) hs) hl ih
  | tup na hs hl _ ih => exact .tup (n _ na) (SqT.fr (fun o => h _ o na) hs) hl ih
  | dct na hs hl _ ih => exact .dct (n _ na) (h _ _ na hs) hl ih
theorem DnAll.fr (h : ∀ a o, N a → H a = some o → H' a = some o) (n : ∀ a, N a → N' a) {vs : List V} {ds : List PyData} (q : DnAll N K H vs ds) : DnAll N' K H' vs ds := ⟨q.1, fun i x d e1 e2 => (q.2 i x d e1 e2).fr h n⟩
theorem Dn.same (h : Same H H') {v : V} {d : PyData} (q : Dn N K H v d) : Dn N K H' v d := q.fr (fun a o _ e => h a o e) fun _ n => n
theorem DnAll.same (h : Same H H') {vs : List V} {ds : List PyData} (q : DnAll N K H vs ds) : DnAll N K H' vs ds := q.fr (fun a o _ e => h a o e) fun _ n => n
theorem Dn.any {v : V} {d : PyData} (q : Dn N K H v d) : Dd K H v d := q.fr (fun _ _ _ e => e) fun _ _ => trivial
theorem DnAll.any {vs : List V} {ds : List PyData} (q : DnAll N K H vs ds) : DdAll K H vs ds := q.fr (fun _ _ _ e => e) fun _ _ => trivial
theorem DnAll.nil : DnAll N K H [] [] := ⟨rfl, fun _ _ _ e => by simp at e⟩
theorem DnAll.cons {v : V} {vs : List V} {d : PyData} {ds : List PyData} (h : Dn N K H v d) (t : DnAll N K H vs ds) : DnAll N K H (v :: vs) (d :: ds) := ⟨by simp [t.1], fun i x e q1 q2 => by
  cases i with
  | zero =>
    simp at q1 q2
    subst q1 q2
    exact h
  | succ i => exact t.2 i x e (by simpa using q1) (by simpa using q2)⟩
theorem DnAll.head {v : V} {vs : List V} {d : PyData} {ds : List PyData} (h : DnAll N K H (v :: vs) (d :: ds)) : Dn N K H v d := h.2 0 v d rfl rfl
theorem DnAll.tail {v : V} {vs : List V} {d : PyData} {ds : List PyData} (h : DnAll N K H (v :: vs) (d :: ds)) : DnAll N K H vs ds := ⟨by have := h.1; simpa using this, fun i x e q1 q2 => h.2 (i + 1) x e (by simpa using q1) (by simpa using q2)⟩
theorem DnAll.append {vs us : List V} {ds es : List PyData} (h : DnAll N K H vs ds) (t : DnAll N K H us es) : DnAll N K H (vs ++ us) (ds ++ es) := by
  induction vs generalizing ds with
  | nil => cases ds with
    | nil => exact t
    | cons _ _ => exact absurd h.1 (by simp)
  | cons v vs ih => cases ds with
    | nil => exact absurd h.1 (by simp)
    | cons d ds => exact .cons h.head (ih h.tail)
theorem dpAll_of : ∀ {ds : List PyData} {xs : List V}, xs.length = ds.length → (∀ (i : Nat) (x : V) (d : PyData), xs[i]? = some x → ds[i]? = some d → d.hasDict = false → Dp K H x d) → PyData.hasDictAll ds = false → DpAll K H xs ds
  | [], [], _, _, _ => .nil
  | [], _ :: _, hl, _, _ => absurd hl (by simp)
  | _ :: _, [], hl, _, _ => absurd hl (by simp)
  | e :: es, x :: xs, hl, ih, hd => by
    have h2 : e.hasDict = false ∧ PyData.hasDictAll es = false := by simpa only [PyData.hasDictAll, Bool.or_eq_false_iff] using hd
    exact .cons (ih 0 x e rfl rfl h2.1) (dpAll_of (by simpa using hl) (fun i x e q1 q2 => ih (i + 1) x e (by simpa using q1) (by simpa using q2)) h2.2)
/-- the library's predicate, where no dict stands -/
theorem Dn.dp {v : V} {d : PyData} (q : Dn N K H v d) : d.hasDict = false → Dp K H v d := by
  induction q with
  | non => exact fun _ => .non
  | bl b => exact fun _ => .bl b
  | int i => exact fun _ => .int i
  | str x => exact fun _ => .str x
  | lst na hs hl _ ih => exact fun hd => .lst hs (dpAll_of hl ih (by simpa only [PyData.hasDict] using hd))
  | tup na hs hl _ ih => exact fun hd => .tup hs (dpAll_of hl ih (by simpa only [PyData.hasDict] using hd))
  | dct _ _ _ _ _ => exact fun hd => absurd hd (by simp [PyData.hasDict])
end
/-- the module table is a dict -/
def SM (K : PySem.W.Frag) : Prop := ∃ o, K.lookup sysModules = some o ∧ o.cls = .type "dict"
section
variable {X : Cx} {pins : List (Addr × Obj)} {σ : St} {H : Hp} {s : Shared} {N : Addr → Prop}
theorem not_sm (I : Inv X pins σ H s) (h : SM X.K) {a : Addr} {o : Obj} (e : s.heap.get? a = some o) (c : o.cls = .type "list") : a ≠ sysModules := fun z => by
  obtain ⟨om, e2, c2⟩ := h
  have e3 := I.kIn _ _ e2
  rw [← z, e] at e3
  cases e3
  rw [c] at c2
  exact absurd (Value.type.inj c2) (by decide)
theorem readsAll_of {h : Heap} {G : List Addr → Prop} (g0 : G []) (ga : ∀ as bs, G as → G bs → G (as ++ bs)) : ∀ {ds : List PyData} {us : List Value}, us.length = ds.length → (∀ (i : Nat) (u : Value) (d : PyData), us[i]? = some u → ds[i]? = some d → ∃ as, Reads h u d as ∧ G as) →
    ∃ as, ReadsAll h us ds as ∧ G as
  | [], [], _, _ => ⟨[], .nil, g0⟩
  | [], _ :: _, hl, _ => absurd hl (by simp)
  | _ :: _, [], hl, _ => absurd hl (by simp)
  | d :: ds, u :: us, hl, ih => by
    obtain ⟨as, r1, g1⟩ := ih 0 u d rfl rfl
    obtain ⟨bs, r2, g2⟩ := readsAll_of g0 ga (ds := ds) (us := us) (by simpa using hl) fun i u e q1 q2 => ih (i + 1) u e (by simpa using q1) (by simpa using q2)
    exact ⟨as ++ bs, .cons r1 r2, ga _ _ g1 g2⟩
theorem pairs_get {P : Program} {w : World} : ∀ {es : List DictEntry} {vs : List (Key × Value)}, Pairs (mixKind P w) es vs → es.length = vs.length ∧ ∀ (i : Nat) (e : DictEntry) (p : Key × Value), es[i]? = some e → vs[i]? = some p → keyIs p.1 e.key = true ∧ e.val = p.2
  | _, _, .nil => ⟨rfl, fun i e p h => by simp at h⟩
  | _, _, .cons h1 h2 t => ⟨by simp [(pairs_get t).1], fun i e p q1 q2 => by
      cases i with
      | zero =>
        simp at q1 q2
        subst q1 q2
        exact ⟨h1, h2⟩
      | succ i => exact (pairs_get t).2 i e p (by simpa using q1) (by simpa using q2)⟩
theorem KV.get {kvs : List (Key × V)} {vs : List (Key × Value)} (r : KV kvs vs) : ∀ (i : Nat) (p : Key × V) (q : Key × Value), kvs[i]? = some p → vs[i]? = some q → p.1 = q.1 ∧ RelV p.2 q.2 := by
  unfold KV at r
  induction r with
  | nil => intro i p q h; simp at h
  | cons h _ ih =>
    intro i p q e1 e2
    cases i with
    | zero =>
      simp at e1 e2
      subst e1 e2
      exact h
    | succ i => exact ih i p q (by simpa using e1) (by simpa using e2)
theorem Dn.reads (I : Inv X pins σ H s) {v : V} {d : PyData} (q : Dn N X.K H v d) : ∀ u : Value, RelV v u → ∃ as, Reads s.heap u d as ∧ (SM X.K → sysModules ∉ as) := by
  have g0 : SM X.K → sysModules ∉ ([] : List Addr) := fun _ => by simp
  have ga : ∀ as bs : List Addr, (SM X.K → sysModules ∉ as) → (SM X.K → sysModules ∉ bs) → SM X.K → sysModules ∉ as ++ bs := fun as bs h1 h2 sm => by
    rw [List.mem_append]
    exact fun z => z.elim (h1 sm) (h2 sm)
  induction q with
  | non =>
    intro u r
    cases r
    exact ⟨_, .none, g0⟩
  | bl b =>
    intro u r
    cases r
    exact ⟨_, .bool b, g0⟩
  | int i =>
    intro u r
    obtain ⟨t, rfl⟩ := r
    exact ⟨_, .int i t, g0⟩
  | str x =>
    intro u r
    obtain ⟨t, rfl⟩ := r
    exact ⟨_, .str x t, g0⟩
  | @lst a xs ds _ hs hl _ ih =>
    intro u r
    cases r
    obtain ⟨its, rv, ⟨o, n, ho, hc, _, hd⟩, _⟩ := I.list hs
    obtain ⟨as, h1, h2⟩ := readsAll_of (h := s.heap) (G := fun as => SM X.K → sysModules ∉ as) g0 ga (ds := ds) (us := its) (by rw [← rv.length]; exact hl) fun i u d e1 e2 => by
      obtain ⟨x, ex⟩ : ∃ x, xs[i]? = some x := ⟨xs[i]'(by rw [rv.length]; exact (List.getElem?_eq_some_iff.mp e1).1), by simp⟩
      obtain ⟨u', e3, rx⟩ := rv.get ex
      rw [e1] at e3
      cases e3
      exact ih i x d ex e2 u rx
    refine ⟨_, .list ho hc hd h1, fun sm z => ?_⟩
    rcases List.mem_cons.mp z with z | z
    · exact not_sm I sm ho hc z.symm
    · exact h2 sm z
  | @tup a xs ds _ hs hl _ ih =>
    intro u r
    cases r
    obtain ⟨its, rv, ⟨o, ho, hc, n, hd⟩, _⟩ := I.tuple hs
    obtain ⟨as, h1, h2⟩ := readsAll_of (h := s.heap) (G := fun as => SM X.K → sysModules ∉ as) g0 ga (ds := ds) (us := its) (by rw [← rv.length]; exact hl) fun i u d e1 e2 => by
      obtain ⟨x, ex⟩ : ∃ x, xs[i]? = some x := ⟨xs[i]'(by rw [rv.length]; exact (List.getElem?_eq_some_iff.mp e1).1), by simp⟩
      obtain ⟨u', e3, rx⟩ := rv.get ex
      rw [e1] at e3
      cases e3
      exact ih i x d ex e2 u rx
    exact ⟨_, .tuple ho hc hd h1, h2⟩
  | @dct a kvs es _ hs hk _ ih =>
    intro u r
    cases r
    have z : ObjOk X.prog X.w H s.heap a (.dK kvs) := I.hok a _ hs
    obtain ⟨_, hsm, vs, rv, o, dd, ep, ho, hc, hd, _, hp, _⟩ := z
    obtain ⟨l1, get⟩ := pairs_get hp
    have l2 : kvs.length = vs.length := Paired.length rv
    have l3 : kvs.length = es.length := by simpa using congrArg List.length hk
    obtain ⟨as, h1, h2⟩ := readsAll_of (h := s.heap) (G := fun as => SM X.K → sysModules ∉ as) g0 ga (ds := es.map (·.1)) (us := dd.toList.map (·.key)) (by simp only [List.length_map]; omega) fun i u d e1 e2 => by
      have i1 : i < dd.toList.length := by simpa using (List.getElem?_eq_some_iff.mp e1).1
      have i2 : i < vs.length := by omega
      have i3 : i < kvs.length := by omega
      obtain ⟨k1, _⟩ := get i dd.toList[i] vs[i] (by simp) (by simp)
      have k2 := (KV.get rv i kvs[i] vs[i] (by simp) (by simp)).1
      have e3 : u = dd.toList[i].key := by
        rw [List.getElem?_map, List.getElem?_eq_getElem i1] at e1
        exact (Option.some.inj e1).symm
      have e4 : d = keyD kvs[i].1 := by
        have z := congrArg (fun l => l[i]?) hk
        simp only [e2, List.getElem?_map, List.getElem?_eq_getElem i3, Option.map_some] at z
        exact (Option.some.inj z).symm
      rw [e3, e4, k2]
      rcases keyIs_shape k1 with ⟨j, t, q1, q2⟩ | ⟨y, t, q1, q2⟩
      · rw [q1, q2]
        exact ⟨_, .int j t, g0⟩
      · rw [q1, q2]
        exact ⟨_, .str y t, g0⟩
    obtain ⟨bs, h3, h4⟩ := readsAll_of (h := s.heap) (G := fun as => SM X.K → sysModules ∉ as) g0 ga (ds := es.map (·.2)) (us := dd.toList.map (·.val)) (by simp only [List.length_map]; omega) fun i u d e1 e2 => by
      have i1 : i < dd.toList.length := by simpa using (List.getElem?_eq_some_iff.mp e1).1
      have i2 : i < vs.length := by omega
      have i3 : i < kvs.length := by omega
      have i4 : i < es.length := by omega
      obtain ⟨_, k1⟩ := get i dd.toList[i] vs[i] (by simp) (by simp)
      have k2 := (KV.get rv i kvs[i] vs[i] (by simp) (by simp)).2
      have e3 : u = dd.toList[i].val := by
        rw [List.getElem?_map, List.getElem?_eq_getElem i1] at e1
        exact (Option.some.inj e1).symm
      have e4 : d = es[i].2 := by simpa [i4] using e2.symm
      rw [e3, e4, k1]
      exact ih i kvs[i] es[i] (by simp) (by simp) _ k2
    refine ⟨_, .dict ho hc.1 hd h1 h3, fun sm z => ?_⟩
    rw [List.cons_append] at z
    rcases List.mem_cons.mp z with z | z
    · rw [← z] at hsm
      exact absurd hsm (by decide)
    · rcases List.mem_append.mp z with z | z
      · exact h2 sm z
      · exact h4 sm z
/-- repr(x) -/
def rRepr (K : PySem.W.Frag) : List V → Hp → VK → Prop := fun xs H Q => ∃ x d, xs = [x] ∧ Dd K H x d ∧ SM K ∧ d.showable = true ∧ d.depth ≤ 60 ∧ d.shown.length ≤ sizeLine ∧ Q (.str d.shown) H
theorem call_repr (hgd : X.A.guards = some []) (hu : X.A.units + 64 < cLine) : CallR X (.builtin "repr") (rRepr X.K) := by
  intro pins s σ H xs us Q I r h
  obtain ⟨x, d, rfl, hd, sm, hs, hdp, hz, q⟩ := h
  cases r with
  | @cons _ u _ us' rx rr =>
    cases rr
    obtain ⟨as, hr, hsm⟩ := hd.reads I u rx
    cases hd with
    | non =>
      cases rx
      exact PySem.P.repr_of_none ⟨.str _, H, I.tok _, ⟨_, rfl⟩, by simpa only [PyData.shown] using q⟩
    | bl b =>
      cases rx
      exact PySem.P.repr_of_bool ⟨.str _, H, I.tok _, ⟨_, rfl⟩, by simpa only [PyData.shown] using q⟩
    | int i =>
      obtain ⟨t, rfl⟩ := rx
      exact PySem.P.repr_of_int (by simpa only [PyData.showable, decide_eq_true_eq] using hs) ⟨.str _, H, I.tok _, ⟨_, rfl⟩, by simpa only [PyData.shown] using q⟩
    | str y =>
      obtain ⟨t, rfl⟩ := rx
      exact PySem.P.repr_of_str (hsz := by simpa only [PyData.shown] using hz) ⟨.str _, H, I.tok _, ⟨_, rfl⟩, by simpa only [PyData.shown] using q⟩
    | lst _ _ _ _ =>
      cases rx
      exact PySem.repr_of_reads' hr hs (fun _ => hsm sm) hgd (by omega) (fun _ _ e => e) (fun h' v tk hk => ⟨.str _, H, I.kept hk, ⟨_, rfl⟩, q⟩) hz
    | tup _ _ _ _ =>
      cases rx
      exact PySem.repr_of_reads' hr hs (fun _ => hsm sm) hgd (by omega) (fun _ _ e => e) (fun h' v tk hk => ⟨.str _, H, I.kept hk, ⟨_, rfl⟩, q⟩) hz
    | dct _ _ _ _ =>
      cases rx
      exact PySem.repr_of_reads' hr hs (fun _ => hsm sm) hgd (by omega) (fun _ _ e => e) (fun h' v tk hk => ⟨.str _, H, I.kept hk, ⟨_, rfl⟩, q⟩) hz
end
end L2.Fw
/-! the law's end for a promise under known guards; the head's facts by one Bool -/
namespace L2.Fw
open PySem PySem.Spec PyProof.Rows
/-- the abstract heap at the law's entry: the script alone, if it is none of the module's own -/
def scr (a : Addr) (o : Obj) (ns : List Int) : Hp := fun b => if b = a then some (.frz o (.lst (ns.map V.int))) else none
theorem scr_ne {a b : Addr} {o : Obj} {ns : List Int} (h : scr a o ns b ≠ none) : b = a := by
  unfold scr at h
  by_cases e : b = a
  · exact e
  · rw [if_neg e] at h
    exact absurd rfl h
section
variable {P : Program} {w : World} {K : PySem.W.Frag} {mg mb : Str → Option Value} {k : Nat} {fa a : Addr} {fd : FuncData} {x : Str} {sp : Sp} {s : Shared} {vs : List Value} {ns : List Int}
theorem law_from {H : Hp} (KX : K.In s.heap) (hns : s.heap.Ns mainGlobals mg) (hb : s.heap.Ns builtinsNs mb) (hbb : ∀ x : Str, x ≠ "__name__" → mb x = bootBuiltins x) (hlim : s.heap.NoLimit) (hg : s.gens = #[])
    (hO : Only H) (hok : HOk P w H s.heap) (hK : ∀ b, H b ≠ none → K.lookup b = none) (hD : ∀ b o es ep, H b ≠ none → s.heap.get? b = some o → o.data ≠ .dict es ep) (hr : Room k callerA)
    (F : ∀ base : Heap, K.In base → base.Ns mainGlobals mg → FnG P w K mg base k fa fd [x] sp) (hbind : ∀ (s : Shared) (u : Value), BindsTo s fd ⟨[u], []⟩ [(x, u)]) (hsp : sp [.ref a] H (fun v _ => v = .bl true) E0) :
    codeAny (model P w) callerA (.call (.ref fa) ⟨[.ref a], []⟩) (fun r s' => r = .ok (.ret (.bool true)) ∧ OldK s.heap s'.heap ∧ s'.os = s.os ∧ AllBare s'.gens) s := by
  have inB : ∀ {b : Addr} {o : Obj}, s.heap.get? b = some o → H b = none → (hidT s.heap H).get? b = some o := fun e n => hidT_get e n
  have free : ∀ {b : Addr} {o : Obj} {es : Array DictEntry} {ep : Nat}, s.heap.get? b = some o → o.data = .dict es ep → H b = none := fun {b o es ep} e d => by
    cases q : H b with
    | none => rfl
    | some u => exact absurd d (hD b o es ep (by rw [q]; simp) e)
  have nsB : ∀ {b : Addr} {m : Str → Option Value}, s.heap.Ns b m → (hidT s.heap H).Ns b m := fun {b m} ⟨o, es, ep, e, d, r⟩ => ⟨o, es, ep, inB e (free e d), d, r⟩
  have KB : K.In (hidT s.heap H) := fun b o e => inB (KX b o e) (by
    cases q : H b with
    | none => rfl
    | some u =>
      rw [hK b (by rw [q]; simp)] at e
      cases e)
  have M : Mod K mg (hidT s.heap H) := ⟨KB, nsB hns, ⟨mb, nsB hb, hbb⟩, let ⟨mc, h1, h2⟩ := hlim; ⟨mc, nsB h1, h2⟩⟩
  have e0 : Env0 P w K mg (hidT s.heap H) callerA [] s H := ⟨rfl, M, fun b o e => of_hidT e, Nat.le_of_eq (hidT_size _ _), trivial, fun b hb => absurd (show b ∈ ([] : List Addr) from hb) (by simp), hok, .of_eq hg⟩
  refine codeAny_mono ((F _ KB (nsB hns)).run (us := [.ref a]) (vs := [.ref a]) rfl hr e0 (hbind s (.ref a)) (.cons rfl .nil) hsp) fun r s' h => ?_
  cases r with
  | error e => exact (show False by obtain ⟨_, _, _, _, _, _, _, _, _, _, _, _, z⟩ := h; exact z.elim).elim
  | ok fl => cases fl with
    | ret u =>
      obtain ⟨v, H', os, bare, un, hok', r', q⟩ := h
      obtain rfl : v = .bl true := q
      obtain rfl : u = Value.bool true := r'
      refine ⟨rfl, OldK.of_keep fun b o e => ?_, os, bare⟩
      rcases hO b with q | ⟨ob, xs, q⟩
      · exact un.keep b o e q (fun z => absurd (show b ∈ ([] : List Addr) from z) (by simp)) (by simp)
      · obtain ⟨e1, _⟩ := hok b _ q
        obtain ⟨e2, _⟩ := hok' b _ (un.frzs b ob _ q)
        rw [e] at e1
        cases e1
        exact e2
    | _ => exact False.elim h
theorem law_callG (KX : K.In s.heap) (hns : s.heap.Ns mainGlobals mg) (hb : s.heap.Ns builtinsNs mb) (hbb : ∀ x : Str, x ≠ "__name__" → mb x = bootBuiltins x) (hlim : s.heap.NoLimit) (hg : s.gens = #[])
    (ha : s.heap.get? a = some { cls := .type "list", data := .seq vs.toArray }) (hi : IntsAre vs ns) (hl : ns.length ≤ sizeLine) (hr : Room k callerA)
    (F : ∀ base : Heap, K.In base → base.Ns mainGlobals mg → FnG P w K mg base k fa fd [x] sp) (hbind : ∀ (s : Shared) (u : Value), BindsTo s fd ⟨[u], []⟩ [(x, u)])
    (hsp : ∀ H : Hp, Only H → SqL K H a (ns.map V.int) → sp [.ref a] H (fun v _ => v = .bl true) E0) :
    codeAny (model P w) callerA (.call (.ref fa) ⟨[.ref a], []⟩) (fun r s' => r = .ok (.ret (.bool true)) ∧ OldK s.heap s'.heap ∧ s'.os = s.os ∧ AllBare s'.gens) s := by
  have rv := vals_ints hi
  cases hk : K.lookup a with
  | some o =>
    have e := KX a o hk
    rw [ha] at e
    cases e
    have O : Only fun _ => none := fun _ => .inl rfl
    exact law_from (H := fun _ => none) KX hns hb hbb hlim hg O (fun b u z => nomatch z) (fun b z => absurd rfl z) (fun b _ _ _ z => absurd rfl z) hr F hbind
      (hsp _ O (.inr ⟨_, vs.toArray, _, hk, rfl, rfl, rfl, by rw [List.size_toArray, hi.length]; exact hl, by simpa using rv⟩))
  | none =>
    have at_ : scr a { cls := .type "list", data := .seq vs.toArray } ns a = some (.frz { cls := .type "list", data := .seq vs.toArray } (.lst (ns.map V.int))) := if_pos rfl
    have O : Only (scr a { cls := .type "list", data := .seq vs.toArray } ns) := fun b => by
      by_cases e : b = a
      · exact .inr ⟨_, _, by rw [e]; exact at_⟩
      · exact .inl (if_neg e)
    refine law_from KX hns hb hbb hlim hg O (fun b u z => ?_) (fun b z => by rw [scr_ne z]; exact hk) (fun b o es ep z e => ?_) hr F hbind (hsp _ O (.inl (.inr ⟨_, at_⟩)))
    · have e : b = a := scr_ne (by rw [z]; simp)
      subst e
      rw [at_] at z
      cases z
      exact ⟨ha, by rw [List.length_map]; exact hl, vs, _, rv, ha⟩
    · rw [scr_ne z, ha] at e
      cases e
      simp
end
/-- a law whose def keeps sp: the goal that the head leaves -/
theorem walk_ofG {l : PySem.W.OpenLaw} {n k : Nat} {q : Program} {loose : List Str} {XP : (Str → Option Value) → Heap → Prop} {YP : World → Heap → Prop} {d : DefRec} {x : Str}
    (hn : l.most = some n) (hn2 : n ≤ sizeLine) (hdf : d.params.defaults = []) (hr : Room k callerA)
    (F : ∀ (w : World) (mg : Str → Option Value) (fa : Addr) (h : Heap), YP w h → h.Ns mainGlobals mg → mg d.name = some (.ref fa) →
      ∃ (K : PySem.W.Frag) (fd : FuncData) (sp : Sp), K.In h ∧ (∀ (s : Shared) (u : Value), BindsTo s fd ⟨[u], []⟩ [(x, u)]) ∧
        (∀ (H : Hp) (a : Addr) (ns : List Int), ns.length ≤ n → Only H → SqL K H a (ns.map V.int) → sp [.ref a] H (fun v _ => v = .bl true) E0) ∧
        ∀ base : Heap, K.In base → base.Ns mainGlobals mg → FnG l.prog w K mg base k fa fd [x] sp) :
    PySem.W.WalkO q loose XP YP l.row.toRowW d [] (fun f vs => PySem.call f vs) := by
  refine Att.attach_call hn hdf fun w s₀ s₁ mg mb fa o pm cd doc a vs ns G Y ho hd hcd hmg hobj hints hlen hg => ?_
  obtain ⟨K, fd, sp, KX, hb, hsp, hF⟩ := F w mg fa _ Y G.T.g hmg
  exact law_callG KX G.T.g G.T.b G.T.builtins G.T.nolimit hg hobj hints (Nat.le_trans hlen hn2) hr hF hb fun H hO hS => hsp H a ns hlen hO hS

/-! ### the head: defs by names, and one Bool of the written part -/
def obK (chk : PySem.W.Frag → Bool) (fn : List He.DefD) (K : PySem.W.Frag) : He.AlD := (chk K && fn.all fun d => d.ok K, fn.map fun d => He.fnW K d.at_)
def SayK (chk : PySem.W.Frag → Bool) (fn : List He.DefD) (K : PySem.W.Frag) : Prop := obK chk fn K = He.valD fn
/-- the addresses that are looked at: what the module's names reach in n steps, and the module table -/
def adK (g : Addr → Option Obj) (n : Nat) : List Addr := sysModules :: He.asD g n
def obG (n : Nat) (chk : PySem.W.Frag → Bool) (fn : List He.DefD) (g : Addr → Option Obj) : He.AlD := obK chk fn (He.frG g (adK g n))
def hookK (n : Nat) (chk : PySem.W.Frag → Bool) (fn : List He.DefD) : PySem.W.Hook where
  α := He.AlD
  obs := fun s => obG n chk fn s.heap.get?
  val := fun _ => He.valD fn
  says := fun _ h => ∃ K : PySem.W.Frag, K.In h ∧ SayK chk fn K
  of := fun _ _ e => ⟨_, He.frG_in, e⟩
  keeps := fun _ _ _ ⟨K, hK, c⟩ k => ⟨K, PySem.W.Frag.In.keeps hK k, c⟩
theorem obG_eq {n : Nat} {chk : PySem.W.Frag → Bool} {fn : List He.DefD} {g : Addr → Option Obj} {s : Shared} (h : ∀ a, g a = s.heap.get? a) : obG n chk fn g = (hookK n chk fn).obs s := by
  have e : g = s.heap.get? := funext h
  rw [e] <;> rfl
section
variable {chk : PySem.W.Frag → Bool} {fn : List He.DefD} {K : PySem.W.Frag}
theorem SayK.ok (c : SayK chk fn K) : chk K = true := (Bool.and_eq_true_iff.mp (show (chk K && fn.all fun d => d.ok K) = true from congrArg (fun z : He.AlD => z.1) c)).1
theorem SayK.fd (c : SayK chk fn K) (i : Nat) {d : He.DefD} (h : fn[i]? = some d := by rfl) : ∃ fd, FunD K d.name d.qual d.params d.body d.scope (d.dvs K) (d.kws K) (He.fAd K d.at_) fd := by
  have c2 := (Bool.and_eq_true_iff.mp (show (chk K && fn.all fun d => d.ok K) = true from congrArg (fun z : He.AlD => z.1) c)).2
  have e : fn.map (fun d => He.fnW K d.at_) = fn.map He.DefD.val := congrArg (fun z : He.AlD => z.2) c
  have e2 : (fn.map fun d => He.fnW K d.at_)[i]? = (fn.map He.DefD.val)[i]? := by rw [e]
  rw [List.getElem?_map, List.getElem?_map, h] at e2
  exact He.DefD.funD (Option.some.inj e2) (List.all_eq_true.mp c2 d (List.mem_of_getElem? h))
end
end L2.Fw
/-! own exception classes: their facts by one Bool, their __init__ -/
namespace L2.Fw
open PySem PySem.Spec PyProof.Rows
def oexB (K : PySem.W.Frag) (C : Addr) : Bool := (match K.lookup C with
  | some ⟨.type "type", _, .cls cd, sl⟩ => (match cd.mro, sl.toList with
    | .ref C' :: bm, [_, _, _, _, some (.builtin n), _] => C' == C && n == "ValueError.__new__" && !cd.hasDel && cd.hasDict && PySem.HandSPX.refsVE bm
    | _, _ => false)
  | _ => false) && decide (PySem.W.findIn K (.ref C) "__setattr__" = some (some (.builtin "object.__setattr__"))) && decide (PySem.W.subIn K (.ref C) (.type "BaseException") = some true) &&
  decide (PySem.W.typeIn K (.ref C) = some (.type "type")) && PySem.W.keepIn K (.ref C)
theorem oexB_ok {K : PySem.W.Frag} {C : Addr} (h : oexB K C = true) : OexC K C := by
  unfold oexB at h
  simp only [Bool.and_eq_true, decide_eq_true_eq] at h
  obtain ⟨⟨⟨⟨q, h1⟩, h2⟩, h3⟩, h4⟩ := h
  refine ⟨?_, h1, h2, h3, h4⟩
  split at q
  · rename_i dd cd sl ho
    split at q
    · rename_i C' bm k0 k1 k2 k3 n k5 hm hs
      simp only [Bool.and_eq_true, beq_iff_eq, Bool.not_eq_true'] at q
      obtain ⟨⟨⟨⟨rfl, rfl⟩, hdel⟩, hd⟩, hb⟩ := q
      obtain ⟨nm, bs, mro, ns, qn, hdct, sn, sub, ab, col, del⟩ := cd
      dsimp only at hm hdel hd
      subst hm hdel hd
      have hsl : sl = #[k0, k1, k2, k3, some (.builtin "ValueError.__new__"), k5] := by
        obtain ⟨l⟩ := sl
        simp only at hs
        rw [hs]
      subst hsl
      exact ⟨nm, qn, ns, bs, bm, sn, sub, ab, col, dd, k0, k1, k2, k3, k5, ho, hb⟩
    · cases q
  · cases q
section
variable {P : Program} {w : World} {K : PySem.W.Frag} {mg : Str → Option Value} {base : Heap} {fI : Addr} {fd : FuncData} {f qual : Str} {p1 p2 p3 p4 p5 p6 : Pos} {e : Expr} {sc : Scope}
abbrev iniArgs (f : Str) (p5 p6 : Pos) (e : Expr) : Arguments := { posonlyargs := [], args := [{ arg := "self", annotation := none, pos := p5 }, { arg := f, annotation := none, pos := p6 }], vararg := none, kwonlyargs := [], kw_defaults := [], kwarg := none, defaults := [e] }
abbrev iniBody (f : Str) (p1 p2 p3 p4 : Pos) : List Stmt := [.Assign [.Attribute (.Name "self" p1) f p2] (.Name f p3) p4]
theorem ini_ok {pa : Arguments} {dvs : List V} {kws : List (Str × V)} (F : FunD K "__init__" qual pa (iniBody f p1 p2 p3 p4) sc dvs kws fI fd) (S : FnScope ["self", f] ["self", f] sc) (hd : (f == ("__debug__" : Str)) = false) (hcd : (f == ("__classdict__" : Str)) = false) :
    FnOk P w K mg base (L2.CX P w) 1 fI fd ["self", f] (spXI K f) := by
  refine F.ok S (fun vs H Q E h => ?_) (fun cdv A outer s H vs Q E hr h => ⟨_, pss_one (ps_ost (pe_var (i := 0) rfl (vis_par S List.mem_cons_self)) (pe_var (i := 1) rfl (vis_par S (List.mem_cons_of_mem _ List.mem_cons_self)) hd hcd)), ?_⟩)
  · obtain ⟨a, C, v, rfl, _⟩ := h
    rfl
  · obtain ⟨a, C, v, rfl, T, no, ea, q⟩ := h
    exact ⟨v, rfl, .ref a, rfl, a, C, rfl, T, no, .inl ⟨ea, q⟩⟩
theorem ini_b2_value (F : FunD K "__init__" qual (iniArgs "value" p5 p6 e) (iniBody "value" p1 p2 p3 p4) sc [.non] [] fI fd) : ∃ g, KBn K fd ["self", "value"] 2 [] g fun vs _ => vs := by
  obtain ⟨its, b⟩ := F.kbindsD (ps := ["self", "value"]) 2 [] (fun vs _ _ => vs) (by simp) (fun r _ _ => r) fun T kV doc pm an cdv ct us its ws h1 h2 h3 => by
    match us, its, ws, h1, h2, h3 with
    | [u, v], [d], [], _, _, _ => exact ⟨_, rfl, rfl⟩
  exact ⟨_, b⟩
theorem ini_b1_value (F : FunD K "__init__" qual (iniArgs "value" p5 p6 e) (iniBody "value" p1 p2 p3 p4) sc [.non] [] fI fd) : ∃ g, KBn K fd ["self", "value"] 1 [] g fun vs _ => vs ++ [.non] := by
  obtain ⟨its, b⟩ := F.kbindsD (ps := ["self", "value"]) 1 [] (fun vs ds _ => vs ++ ds) (by simp) (fun r q _ => r.append q) fun T kV doc pm an cdv ct us its ws h1 h2 h3 => by
    match us, its, ws, h1, h2, h3 with
    | [u], [d], [], _, _, _ => exact ⟨_, rfl, rfl⟩
  exact ⟨_, b⟩
theorem ini_bk_value (F : FunD K "__init__" qual (iniArgs "value" p5 p6 e) (iniBody "value" p1 p2 p3 p4) sc [.non] [] fI fd) : ∃ g, KBn K fd ["self", "value"] 1 ["value"] g fun vs zs => vs ++ zs := by
  obtain ⟨its, b⟩ := F.kbindsD (ps := ["self", "value"]) 1 ["value"] (fun vs _ zs => vs ++ zs) (by simp) (fun r _ z => r.append z) fun T kV doc pm an cdv ct us its ws h1 h2 h3 => by
    match us, its, ws, h1, h2, h3 with
    | [u], [d], [z], _, _, _ => exact ⟨_, rfl, rfl⟩
  exact ⟨_, b⟩
theorem ini_b2_name (F : FunD K "__init__" qual (iniArgs "name" p5 p6 e) (iniBody "name" p1 p2 p3 p4) sc [.non] [] fI fd) : ∃ g, KBn K fd ["self", "name"] 2 [] g fun vs _ => vs := by
  obtain ⟨its, b⟩ := F.kbindsD (ps := ["self", "name"]) 2 [] (fun vs _ _ => vs) (by simp) (fun r _ _ => r) fun T kV doc pm an cdv ct us its ws h1 h2 h3 => by
    match us, its, ws, h1, h2, h3 with
    | [u, v], [d], [], _, _, _ => exact ⟨_, rfl, rfl⟩
  exact ⟨_, b⟩
theorem ini_b1_name (F : FunD K "__init__" qual (iniArgs "name" p5 p6 e) (iniBody "name" p1 p2 p3 p4) sc [.non] [] fI fd) : ∃ g, KBn K fd ["self", "name"] 1 [] g fun vs _ => vs ++ [.non] := by
  obtain ⟨its, b⟩ := F.kbindsD (ps := ["self", "name"]) 1 [] (fun vs ds _ => vs ++ ds) (by simp) (fun r q _ => r.append q) fun T kV doc pm an cdv ct us its ws h1 h2 h3 => by
    match us, its, ws, h1, h2, h3 with
    | [u], [d], [], _, _, _ => exact ⟨_, rfl, rfl⟩
  exact ⟨_, b⟩
theorem ini_bk_name (F : FunD K "__init__" qual (iniArgs "name" p5 p6 e) (iniBody "name" p1 p2 p3 p4) sc [.non] [] fI fd) : ∃ g, KBn K fd ["self", "name"] 1 ["name"] g fun vs zs => vs ++ zs := by
  obtain ⟨its, b⟩ := F.kbindsD (ps := ["self", "name"]) 1 ["name"] (fun vs _ zs => vs ++ zs) (by simp) (fun r _ z => r.append z) fun T kV doc pm an cdv ct us its ws h1 h2 h3 => by
    match us, its, ws, h1, h2, h3 with
    | [u], [d], [z], _, _, _ => exact ⟨_, rfl, rfl⟩
  exact ⟨_, b⟩
end
end L2.Fw
/-! own exception classes by name; C() without an own __init__; try .. except that keeps the exception -/
namespace L2.Fw
open PySem PySem.Spec PyProof.Rows
def xcB (f : Str) (K : PySem.W.Frag) (x : Str) : Bool := decide (PySem.W.nsIn K mainGlobals x = some (some (.ref (He.ga K x)))) && oexB K (He.ga K x) && ecB K (He.ga K x) && decide (PySem.W.findIn K (.ref (He.ga K x)) f = some none) &&
  decide (PySem.W.findIn K (.ref (He.ga K x)) "__init__" = some (some (.ref (He.ma K (He.ga K x) "__init__")))) && decide (PySem.W.typeIn K (.ref (He.ma K (He.ga K x) "__init__")) = some (.type "function"))
section
variable {P : Program} {w : World} {K : PySem.W.Frag} {h : Heap} {mg : Str → Option Value} {base : Heap} {x qual : Str} {fd : FuncData} {p1 p2 p3 p4 p5 p6 : Pos} {e : Expr} {sc : Scope}
theorem xc_value (X : K.In h) (G : h.Ns mainGlobals mg) (c : xcB "value" K x = true) (F : FunD K "__init__" qual (iniArgs "value" p5 p6 e) (iniBody "value" p1 p2 p3 p4) sc [.non] [] (He.fAd K (x, some "__init__")) fd) (S : FnScope ["self", "value"] ["self", "value"] sc) :
    XC P w K mg base x "value" (He.ga K x) 1 := by
  unfold xcB at c
  simp only [Bool.and_eq_true, decide_eq_true_eq] at c
  obtain ⟨⟨⟨⟨⟨c1, c2⟩, c3⟩, c4⟩, c5⟩, c6⟩ := c
  exact ⟨PySem.W.mg_of X G c1, oexB_ok c2, ecB_ok c3, c4, _, fd, c5, c6, ini_ok F S (by decide) (by decide), ini_b2_value F, ini_bk_value F, ini_b1_value F⟩
theorem xc_name (X : K.In h) (G : h.Ns mainGlobals mg) (c : xcB "name" K x = true) (F : FunD K "__init__" qual (iniArgs "name" p5 p6 e) (iniBody "name" p1 p2 p3 p4) sc [.non] [] (He.fAd K (x, some "__init__")) fd) (S : FnScope ["self", "name"] ["self", "name"] sc) :
    XC P w K mg base x "name" (He.ga K x) 1 := by
  unfold xcB at c
  simp only [Bool.and_eq_true, decide_eq_true_eq] at c
  obtain ⟨⟨⟨⟨⟨c1, c2⟩, c3⟩, c4⟩, c5⟩, c6⟩ := c
  exact ⟨PySem.W.mg_of X G c1, oexB_ok c2, ecB_ok c3, c4, _, fd, c5, c6, ini_ok F S (by decide) (by decide), ini_b2_name F, ini_bk_name F, ini_b1_name F⟩
end
section
variable {X : Cx} {C : Addr} {bmB : List Value} {B newId initId : String} {x : Str} {p pos : Pos}
/-- C(), a class without own __init__ -/
def tMkn (C : Addr) : TE := fun _ H Q => ∀ a, H a = none → Q (.ref a) (upd H a (exv a C none))
theorem pe_mkn (F : ExcBaseFacts B newId initId bmB) (q : PySem.W.excIn X.K C bmB newId = true) (gC : X.mg x = some (.ref C)) (kC : PySem.W.keepIn X.K (.ref C) = true) (hg : Gl X x) (hdb : (x == ("__debug__" : Str)) = false := by decide) :
    PE X (.Call (.Name x p) [] [] pos) (tMkn C) := by
  refine ⟨fun pins s σ H Q I h => ?_⟩
  refine wpAny_Call_Name_kw (ld_glob I hg gC ?_ hdb)
  refine PySem.W.callWith_K0 I.kIn kC ?_
  obtain ⟨bm, N, nm, qn, bs, hdct, sn, sub, ab, col, dd, k0, k1, k2, k3, k5, mN, hC, hN, hni, T⟩ := exc_obj I.kIn q
  refine wpAny_call_exc_subT F T hC hN hni (fun h' a hm => ?_) (by show 0 ≤ sizeLine; exact Nat.zero_le _)
  have hn : H a = none := I.hok.gone hm.new
  obtain ⟨t, ht, _, _⟩ := hm.there
  exact ⟨.ref a, upd H a (exv a C none), I.laidN hm.keeps hm.new hn (exv_ok ht ⟨rfl, rfl⟩ rfl), rfl, h a hn⟩
end
/-! ### an untracked thing of the body's own is tracked from here on -/
section
variable {X : Cx} {pins : List (Addr × Obj)} {σ : St} {H : Hp} {s : Shared}
theorem HOk.track {P : Program} {w : World} {h : Heap} {a : Addr} {o : HO} (x : HOk P w H h) (n : H a = none) (new : ObjOk P w (upd H a o) h a o) : HOk P w (upd H a o) h := fun b u e => by
  by_cases hb : b = a
  · subst hb
    rw [upd_same] at e
    cases e
    exact new
  · rw [upd_ne hb] at e
    exact (x b u e).stay (fun _ _ _ q => q) (fun c q => by rw [upd_ne (ne_of_none q n)]; exact q) fun c xs q => by rw [upd_ne (ne_of_none q n)]; exact q
theorem Inv.track {a : Addr} {o : HO} (I : Inv X pins σ H s) (n : H a = none) (n0 : X.s_0.heap.get? a = none) (nl : a ≠ X.env.locals) (nc : ∀ x c, X.env.cells.lookup x = some c → c ≠ a) (np : ∀ p ∈ X.pn ++ pins, p.1 ≠ a) (new : ObjOk X.prog X.w (upd H a o) s.heap a o) :
    Inv X pins σ (upd H a o) s := by
  have ne0 : ∀ b u, X.s_0.heap.get? b = some u → b ≠ a := fun b u e z => by
    rw [z, n0] at e
    cases e
  have up : ∀ {b u}, H b = some u → upd H a o b = some u := fun {b u} e => by rw [upd_ne (ne_of_none e n)]; exact e
  refine ⟨I.ok, I.os, I.bare, ⟨I.base.keep, I.base.slot, fun b u e m hx => ?_, I.base.there, fun b xs e => up (I.base.tups b xs e), fun b ob u e => up (I.base.frzs b ob u e), fun b ps e => ?_⟩, I.loc, I.cell, ?_, fun x c e => ?_, fun q hq => ?_, HOk.track I.hok n new, I.len⟩
  · rw [upd_ne (ne0 b u e)]
    exact I.base.free b u e m hx
  · obtain ⟨m, q⟩ := I.base.tbls b ps e
    exact ⟨m, up q⟩
  · rw [upd_ne (Ne.symm nl)]
    exact I.free
  · rw [upd_ne (nc x c e)]
    exact I.freeC x c e
  · obtain ⟨e1, e2, e3⟩ := I.pin q hq
    exact ⟨e1, by rw [upd_ne (np q hq)]; exact e2, e3⟩
end
/-- what «except x as n» wishes where the exception stays: it is tracked, at a; slot i is n's -/
def wKeep (K : PySem.W.Frag) (c : Value) (i : Nat) (ts : TS) (Wout : WX) (D : Ends) : WX := fun cls d σ H =>
  ∃ b, PySem.W.exmOne K cls c = some b ∧ (b = true → ∃ C, cls = .ref C ∧ ∀ a, H a = none → ts { nx := fun σ' H' => D.nx (σ'.set i none) H', rt := D.rt, bk := fun σ' H' => D.bk (σ'.set i none) H', ct := fun σ' H' => D.ct (σ'.set i none) H' } (σ.set i (some (.ref a))) (upd H a (exv a C d))) ∧
    (b = false → Wout cls d σ H)
section
variable {X : Cx} {x n : Str} {c : Value} {i : Nat} {body suite : List Stmt} {b₀ : Stmt} {np pos pos' : Pos} {tb : WX → TS} {ts : TS} {Wout : WX}
theorem ps_try_keep (hs : X.stack = X.env :: X.outer) (hf : X.env.frame = some X.env.locals) (hx : X.ex = []) (hN : X.N.Nodup) (hi : X.N[i]? = some n) (hln : X.env.kindOf n = some .local) (hc : Names X x c) (tk : Takes X Wout)
    (hb : ∀ (W : WX) (pn : List (Addr × Obj)) (xe : Value → Shared → Prop), Takes (X.tr pn xe) W → PassesOwn (model X.prog X.w) X.A X.env xe → PSs (X.tr pn xe) body (tb W))
    (hsu : ∀ (a : Addr) (pn : List (Addr × Obj)), PSs (X.suite a pn) (b₀ :: suite) ts) :
    PS X (.Try body [.ExceptHandler (some (.Name x np)) (some n) (b₀ :: suite) pos'] [] [] pos) (fun D σ H => tb (wKeep X.K c i ts Wout D) D σ H) := by
  refine ⟨fun pins s σ H D I h => ?_⟩
  have ok := I.ok
  have hfr : X.A.frames = some (X.env :: X.outer) := by rw [ok.frames, hs]
  refine wpAny_Try_except ?_
  refine wpAny_mono ((hb (wKeep X.K c i ts Wout D) (X.pn ++ pins) (fun e s₁ => wpAny (model X.prog X.w) X.A (noteFrame e X.env) (fun _ s₂ => wpAny (model X.prog X.w) X.A (setFlight e none) (fun _ s₃ =>
    wpAny (model X.prog X.w) X.A (handleBy e X.env [.ExceptHandler (some (.Name x np)) (some n) (b₀ :: suite) pos']) (SP X pins D) X.xe s₃) X.xe s₂) X.xe s₁) (fun u s' xx => ?_) PassesOwn.looking).run [] s σ H D (I.toTry _) h) (fun f s1 hsp => ?_) (fun e s1 he => he)
  · obtain ⟨a, B, sI, pins', σ', H', cls, d, rfl, J', nb, up, sky, na, os, ag, b, hb1, hyes, hno⟩ := xx
    have J : Inv X pins σ' H' sI := J'.ofTry ok
    have sky' : Sky B (X.env :: X.outer) a (Zc cls d) X.env.locals s'.heap := by rw [← hs]; exact sky
    show wpAny (model X.prog X.w) X.A (noteFrame (.ref a) X.env) _ _ _
    refine Sky.land Zc.steady hfr hf sky' fun h3 fl3 up3 => ?_
    have J3 : Inv X pins σ' H' { s' with heap := h3 } := J.landed nb fl3.1 (up.trans up3) os ag
    obtain ⟨oe3, vs3, he3, hz3, hd3⟩ := fl3.there
    have notFr : ∀ {h : Heap} {o : Obj} {vs : Array Value}, h.FunFrames B (X.env :: X.outer) → h.get? a = some o → o.data = .fields vs → a ∉ frs (X.env :: X.outer) := fun {h o vs} ff e dd hm => by
      obtain ⟨_, o', e', hnf⟩ := ff.mem hm
      rw [e] at e'
      cases e'
      exact hnf _ dd
    have nfr := notFr fl3.2.2.1 he3 hd3
    have nL : a ≠ X.env.locals := fun z => nfr (List.mem_filterMap.mpr ⟨X.env, List.mem_cons_self, by rw [hf, z]⟩)
    have nF : a ∉ X.fs := fun hm => by
      obtain ⟨e, he, q⟩ := List.mem_filterMap.mp hm
      exact nfr (List.mem_filterMap.mpr ⟨e, List.mem_cons_of_mem _ he, q⟩)
    -- it is none of what stood at the entry
    have n0 : X.s_0.heap.get? a = none := by
      cases q : X.s_0.heap.get? a with
      | none => rfl
      | some o =>
        obtain ⟨o1, q1⟩ := J.base.there a o q (by rw [hx]; exact fun z => nomatch z)
        have q2 := nb a o1 q1 (by rw [hs]; exact nfr)
        rw [fl3.2.1] at q2
        cases q2
    have nC : ∀ {h : Heap}, Inv X pins σ' H' { s' with heap := h } → ∀ {o : Obj} {vs : Array Value}, h.get? a = some o → o.data = .fields vs → ∀ y c', X.env.cells.lookup y = some c' → c' ≠ a := fun {h} JJ {o vs} e dd y c' ec z => by
      obtain ⟨v, o', e', dd'⟩ := JJ.cell y c' ec
      rw [z] at e'
      have e2 : h.get? a = some o' := e'
      rw [e] at e2
      cases e2
      rw [dd] at dd'
      cases dd'
    have nP : ∀ p ∈ X.pn ++ pins, p.1 ≠ a := fun p hp z => by
      obtain ⟨e1, _⟩ := J.pin p hp
      rw [z] at e1
      have q2 := nb a _ e1 (by rw [hs]; exact nfr)
      rw [fl3.2.1] at q2
      cases q2
    have S3 := J3.suite he3 hd3 na nL nF
    refine wpAny_handleBy_cons (codeAny_handlers_test ?_) (by intro q; cases q)
    have LT : PySem.W.Looks (model X.prog X.w) h3 (typeOf (.ref a)) cls := fun A Q E s k q => wpAny_typeOf_ref (k _ _ he3) (by rw [hz3.1]; exact q)
    have LM := PySem.W.exm_one (M := model X.prog X.w) (J3.kIn) LT hb1
    have test : ∀ {Q : Value → Shared → Prop} {E : Value → Shared → Prop}, Q c { s' with heap := h3 } → wpAny (model X.prog X.w) (X.A.mark (some (.ref a))) (eval (.Name x np) X.env) Q E { s' with heap := h3 } := fun {Q E} q => by
      obtain ⟨hg, hdbg, hm | ⟨hm, hv, hnn⟩⟩ := hc
      · exact ld_glob (X := X.suite a ((a, oe3) :: (X.pn ++ pins))) S3 hg hm q hdbg
      · exact ld_blt (X := X.suite a ((a, oe3) :: (X.pn ++ pins))) S3 hg hm hv q hnn hdbg
    refine test (LM.here ?_)
    cases b with
    | true =>
      refine codeAny_handlers_suite_as ?_
      refine HandSPX.lands_againZ fl3 fun h4 fl4 up4 => ?_
      have J4 : Inv X pins σ' H' { s' with heap := h4 } := J.landed nb fl4.1 ((up.trans up3).trans up4) os ag
      obtain ⟨oe4, vs4, he4, hz4, hd4⟩ := fl4.there
      obtain ⟨C, rfl, hyq⟩ := hyes rfl
      have J5 : Inv X pins σ' (upd H' a (exv a C d)) { s' with heap := h4 } := Inv.track J4 na n0 nL (nC J4 he4 hd4) nP (exv_ok he4 hz4 hd4)
      have S5 : Inv (X.suite a (X.pn ++ pins)) [] σ' (upd H' a (exv a C d)) { s' with heap := h4 } :=
        ⟨J5.ok.suite _ _, J5.os, J5.bare, J5.base, J5.loc, J5.cell, J5.free, J5.freeC, fun p hp => J5.pin p (by rw [List.append_nil] at hp; exact hp), J5.hok, J5.len⟩
      refine store_ok (X := X.suite a (X.pn ++ pins)) (v := .ref a) S5 hN hi (.inl hln) rfl (fun s6 S6 => ?_) (.inr hln)
      refine wpAny_mono ((hsu a (X.pn ++ pins)).run [] s6 _ _ _ S6 (hyq a na)) (fun f s7 hsp => ?_) (fun _ _ z => False.elim z)
      have back : ∀ {σ7 : St} {H7 : Hp}, Inv (X.suite a (X.pn ++ pins)) [] σ7 H7 s7 → Inv X pins σ7 H7 s7 := fun {σ7 H7} S7 =>
        ⟨ok, S7.os, S7.bare, S7.base, S7.loc, S7.cell, S7.free, S7.freeC, fun p hp => S7.pin p (List.mem_append_left _ hp), S7.hok, S7.len⟩
      cases f with
      | next =>
        obtain ⟨σ7, H7, S7, q7⟩ := hsp
        exact gone_ok (back S7) hN hi hln fun s8 J8 => ⟨_, _, J8, q7⟩
      | brk =>
        obtain ⟨σ7, H7, S7, q7⟩ := hsp
        exact gone_ok (back S7) hN hi hln fun s8 J8 => ⟨_, _, J8, q7⟩
      | cont =>
        obtain ⟨σ7, H7, S7, q7⟩ := hsp
        exact gone_ok (back S7) hN hi hln fun s8 J8 => ⟨_, _, J8, q7⟩
      | ret u =>
        obtain ⟨v7, σ7, H7, S7, r7, q7⟩ := hsp
        exact gone_ok (back S7) hN hi hln fun s8 J8 => ⟨_, _, _, J8, r7, q7⟩
    | false =>
      show wpAny _ X.A (handleBy (.ref a) X.env []) _ _ _
      refine wpAny_handleBy_nil ?_
      obtain ⟨k1, k2, k3, oe, vs, T, oT, ts', he, hz, hd, h1, hr⟩ := id fl3
      unfold PySem.passOn
      refine wpAny_bind (wpAny_field he hd h1 ?_)
      rw [if_neg (show ¬ ((Value.ref T == Value.none) = true) from by simp)]
      have fin : wpAny (model X.prog X.w) X.A (setFlight (.ref a) X.env.frame) (fun _ s4 => wpAny (model X.prog X.w) X.A (throw (.ref a) : Sem Flow) (SP X pins D) X.xe s4) X.xe { s' with heap := h3 } := by
        rw [hf]
        refine HandSPX.setFlight_upZ fl3 fun h4 hh4 up4 => wpAny_throw (tk _ _ ?_)
        exact ⟨a, B, sI, pins, σ', H', cls, d, rfl, J, nb, (up.trans up3).trans up4, .inr (.inr (by rw [hs]; exact hh4)), na, os, ag, hno rfl⟩
      first
        | exact wpAny_bind (wpAny_pure (wpAny_bind fin))
        | exact wpAny_bind fin
  · cases f with
    | next =>
      obtain ⟨σ', H', J', q⟩ := hsp
      exact wpAny_execs_nil ⟨σ', H', J'.ofTry ok, q⟩
    | brk =>
      obtain ⟨σ', H', J', q⟩ := hsp
      exact ⟨σ', H', J'.ofTry ok, q⟩
    | cont =>
      obtain ⟨σ', H', J', q⟩ := hsp
      exact ⟨σ', H', J'.ofTry ok, q⟩
    | ret u =>
      obtain ⟨v, σ', H', J', r, q⟩ := hsp
      exact ⟨v, σ', H', J'.ofTry ok, r, q⟩
end
end L2.Fw
/-! the readings' names that the derivations use -/
namespace L2.Fw
open PySem PySem.Spec PyProof.Rows
abbrev rAddI : R2 := rI0 fun i j => .int (i + j)
abbrev rSubI : R2 := rI0 fun i j => .int (i - j)
abbrev rMulI : R2 := rI CMul fun i j => .int (i * j)
abbrev rModI : R2 := rI (fun _ j => 0 < j) fun i j => .int (i % j)
abbrev rDivI : R2 := rI CDivW fun i j => .int (i / j)
/-- a power of at most 2 ^ 27 bits -/
def CPowW (i j : Int) : Prop := 0 ≤ j ∧ (Builtin.Int.intBits i : Int) * j ≤ 2 ^ 27
abbrev rPowI : R2 := rI CPowW fun i j => .int (i ^ j.toNat)
abbrev rAddS : R2 := fun x y H Q => ∃ i j, x = .str i ∧ y = .str j ∧ i.length + j.length ≤ sizeLine ∧ Q (.str (i ++ j)) H
abbrev rNegI : V → Hp → VK → Prop := rU fun i => .int (-i)
abbrev rLtI : R2 := rI0 fun i j => .bl (decide (i < j))
abbrev rLeI : R2 := rI0 fun i j => .bl (decide (i ≤ j))
abbrev rGtI : R2 := rI0 fun i j => .bl (decide (j < i))
abbrev rGeI : R2 := rI0 fun i j => .bl (decide (j ≤ i))
abbrev rLeS : R2 := fun x y H Q => ∃ i j, x = .str i ∧ y = .str j ∧ Q (.bl (!decide (j.cps.toList < i.cps.toList))) H
abbrev rIsN : R2 := fun x y H Q => y = .non ∧ Q (.bl (decide (x = .non))) H
abbrev rNotN : R2 := fun x y H Q => y = .non ∧ Q (.bl (!decide (x = .non))) H
abbrev rIsB : R2 := fun x y H Q => ∃ a b, x = .bl a ∧ y = .bl b ∧ Q (.bl (decide (a = b))) H
abbrev rIsNotB : R2 := fun x y H Q => ∃ a b, x = .bl a ∧ y = .bl b ∧ Q (.bl (!decide (a = b))) H
abbrev rLenV (K : PySem.W.Frag) : List V → Hp → VK → Prop := fun xs H Q => ∃ x n, xs = [x] ∧ LenV K x H n ∧ Q (.int n) H
abbrev rInt1 : List V → Hp → VK → Prop := fun xs H Q => (∃ i, xs = [.int i] ∧ Q (.int i) H) ∨ ∃ k, xs = [.bl k] ∧ Q (.int (if k then 1 else 0)) H
abbrev rMax2 : List V → Hp → VK → Prop := fun xs H Q => ∃ i j, xs = [.int i, .int j] ∧ Q (.int (if j > i then j else i)) H
abbrev rListOf (K : PySem.W.Frag) : List V → Hp → VK → Prop := fun xs H Q => ∃ p ys, xs = [.ref p] ∧ (SqL K H p ys ∨ SqT K H p ys) ∧ ∀ l, H l = none → Q (.ref l) (upd H l (.lst ys))
abbrev tTru (K : PySem.W.Frag) (t : TE) : TT := fun σ H Q => t σ H fun x H' => ∃ k, TruV K x H' k ∧ Q k H'
abbrev tTryK (K : PySem.W.Frag) (c : Value) (i : Nat) (tb : WX → TS) (ts : TS) : TS := fun D σ H => tb (wKeep K c i ts (fun _ _ _ _ => False) D) D σ H
section
variable {X : Cx}
theorem op_powW : OpR X (binaryOp .Pow) rPowI := opI fun _ _ _ _ _ _ _ hc q => pow_int hc.1 hc.2 q
end
theorem units65 {A : Around} {k : Nat} (hr : Room k A) : A.units + 65 < cLine := by have := hr.un; omega

/-! ### the laws' draws -/
/-- at p the draws' state: [what is left of a great seed, a seed, a count of at most n] -/
def GenAt (H : Hp) (p : Addr) (n : Int) : Prop := ∃ a b c : Int, H p = some (.lst [.int a, .int b, .int c]) ∧ 0 ≤ a ∧ a < 10 ^ 600 ∧ 0 ≤ b ∧ b < 2147483647 ∧ 0 ≤ c ∧ c ≤ n
def sp_law_cell (K : PySem.W.Frag) : Sp := fun vs H Q _ => ∃ (l : Addr) (ns : List Int) (i : Int), vs = [.ref l, .int i] ∧ SqL K H l (ns.map V.int) ∧ 0 ≤ i ∧ i < 1000 ∧ ∀ j : Int, Q (.int j) H
def sp_law_hash (_ : PySem.W.Frag) : Sp := fun vs H Q _ => ∃ a b : Int, vs = [.int a, .int b] ∧ 0 ≤ a ∧ a < 2147483647 ∧ 0 ≤ b ∧ b < 2 ^ 50 ∧ ∀ r : Int, 0 ≤ r → r < 2147483587 → Q (.int r) H
def sp_law_generator (K : PySem.W.Frag) : Sp := fun vs H Q _ => ∃ (l : Addr) (ns : List Int) (i : Int), vs = [.ref l, .int i] ∧ SqL K H l (ns.map V.int) ∧ 0 ≤ i ∧ i < 1000 ∧
  ∀ p a b, H p = none → 0 ≤ a → a < 10 ^ 600 → 0 ≤ b → b < 2147483647 → Q (.ref p) (upd H p (.lst [.int a, .int b, .int (1000 * i)]))
def sp_law_random (_ : PySem.W.Frag) : Sp := fun vs H Q _ => ∃ (p : Addr) (a b c n : Int), vs = [.ref p, .int n] ∧ H p = some (.lst [.int a, .int b, .int c]) ∧ 0 ≤ a ∧ a < 10 ^ 600 ∧ 0 ≤ b ∧ b < 2147483647 ∧ 0 ≤ c ∧ c < 2 ^ 40 ∧ 1 ≤ n ∧ n < 2 ^ 60 ∧
  ∀ d a' c', 0 ≤ d → d < n → 0 ≤ a' → a' < 10 ^ 600 → c ≤ c' → c' ≤ c + 10 → Q (.int d) (upd H p (.lst [.int a', .int b, .int c']))
end L2.Fw
namespace L2.Fw
open PySem PySem.Spec PyProof.Rows
def t_law_cell (K : PySem.W.Frag) (E : XK) : TS :=
  (tSeq (tIfS (tTest (tOp rLtI (tVar 1) (tCB (rLenV K) (tCons (tVar 0) tNil)))) (tRet (tOp (rIx K) (tVar 0) (tVar 1))) tNext)
    (tRet (tC (.int 0))))
def t_law_hash (K : PySem.W.Frag) (E : XK) : TS :=
  (tSeq (tAsg (tOp rModI (tCB (rInt1) (tCons (tOp rAddI (tOp rAddI (tOp rAddI (tOp rMulI (tVar 0) (tC (.int 1103515245))) (tOp rMulI (tOp rMulI (tC (.int 7919)) (tVar 1)) (tVar 1))) (tVar 1)) (tC (.int 1))) tNil)) (tC (.int 2147483647))) (gName 2))
    (tSeq (tAsg (tOp rModI (tCB (rInt1) (tCons (tOp rAddI (tOp rMulI (tVar 2) (tVar 2)) (tC (.int 69621))) tNil)) (tC (.int 2147483629))) (gName 2))
    (tRet (tOp rModI (tCB (rInt1) (tCons (tOp rMulI (tVar 2) (tC (.int 48271))) tNil)) (tC (.int 2147483587))))))
def t_law_generator (K : PySem.W.Frag) (E : XK) : TS :=
  (tSeq (tAsg (tCallX (sp_law_cell K) Z0 (tCons (tVar 0) (tCons (tVar 1) tNil))) (gName 2))
    (tRet (tLst (tCons (tOp rModI (tCB (rInt1) (tCons (tCB (rMax2) (tCons (tOp rSubI (tVar 2) (tOp rPowI (tC (.int 10)) (tC (.int 18)))) (tCons (tC (.int 0)) tNil))) tNil)) (tOp rPowI (tOp rPowI (tC (.int 10)) (tC (.int 60))) (tC (.int 10)))) (tCons (tOp rModI (tCB (rInt1) (tCons (tVar 2) tNil)) (tC (.int 2147483647))) (tCons (tOp rMulI (tC (.int 1000)) (tVar 1)) tNil))))))
def t_law_random (K : PySem.W.Frag) (E : XK) : TS :=
  (tSeq (tIfS (tTest (tOp rGtI (tOp (rIx K) (tVar 0) (tC (.int 0))) (tC (.int 0)))) (tSeq (tAsg (tOp rModI (tCB (rInt1) (tCons (tOp (rIx K) (tVar 0) (tC (.int 0))) tNil)) (tVar 1)) (gName 2))
    (tSeq (tAsg (tOp rDivI (tOp (rIx K) (tVar 0) (tC (.int 0))) (tVar 1)) (gSub (tVar 0) (tC (.int 0)) rSetL))
    (tRet (tVar 2)))) tNext)
    (tSeq (tAsg (tC (.int 0)) (gName 2))
    (tSeq (tFor (iRng1 (tCons (tOp rAddI (tC (.int 1)) (tOp rDivI (tBits (tVar 1)) (tC (.int 30)))) tNil)) (gName 3) (tSeq (tAsg (tOp rAddI (tOp (rIx K) (tVar 0) (tC (.int 2))) (tC (.int 1))) (gSub (tVar 0) (tC (.int 2)) rSetL))
    (tAsg (tOp rAddI (tOp rMulI (tVar 2) (tC (.int 2147483587))) (tCallX (sp_law_hash K) Z0 (tCons (tOp (rIx K) (tVar 0) (tC (.int 1))) (tCons (tOp (rIx K) (tVar 0) (tC (.int 2))) tNil)))) (gName 2))))
    (tRet (tOp rModI (tCB (rInt1) (tCons (tVar 2) tNil)) (tVar 1))))))
theorem len_law_cell {K : PySem.W.Frag} {vs : List V} {H : Hp} {Q : VK} {E : XK} (h : sp_law_cell K vs H Q E) : vs.length = 2 := by
  obtain ⟨_, _, _, rfl, _⟩ := h
  rfl
theorem len_law_hash {K : PySem.W.Frag} {vs : List V} {H : Hp} {Q : VK} {E : XK} (h : sp_law_hash K vs H Q E) : vs.length = 2 := by
  obtain ⟨_, _, rfl, _⟩ := h
  rfl
theorem len_law_generator {K : PySem.W.Frag} {vs : List V} {H : Hp} {Q : VK} {E : XK} (h : sp_law_generator K vs H Q E) : vs.length = 2 := by
  obtain ⟨_, _, _, rfl, _⟩ := h
  rfl
theorem len_law_random {K : PySem.W.Frag} {vs : List V} {H : Hp} {Q : VK} {E : XK} (h : sp_law_random K vs H Q E) : vs.length = 2 := by
  obtain ⟨_, _, _, _, _, rfl, _⟩ := h
  rfl
/-- what a body is asked at its entry -/
abbrev En (Q : VK) : Ends := { nx := fun _ H' => Q .non H', rt := Q }
theorem pure_law_cell {K : PySem.W.Frag} {vs : List V} {H : Hp} {Q : VK} {E : XK} (h : sp_law_cell K vs H Q E) : t_law_cell K E (En Q) (start ["script", "index"] vs) H := by
  obtain ⟨l, ns, i, rfl, hs, h0, h1, q⟩ := h
  refine ⟨_, rfl, _, rfl, _, _, rfl, .inl ⟨_, hs, rfl⟩, _, _, rfl, rfl, _, rfl, ?_⟩
  refine ite2 (fun c => ?_) (fun _ => q 0)
  have c' : i < ((ns.map V.int).length : Int) := of_decide_eq_true c
  rw [List.length_map] at c'
  obtain ⟨j, rfl⟩ := Int.eq_ofNat_of_zero_le h0
  have hj : j < ns.length := by omega
  refine ⟨_, rfl, _, rfl, .inl ⟨_, _, _, .int (ns[j]), rfl, rfl, hs, ?_, q _⟩⟩
  exact atI_nat (by simp [hj])
theorem pure_law_hash {K : PySem.W.Frag} {vs : List V} {H : Hp} {Q : VK} {E : XK} (h : sp_law_hash K vs H Q E) : t_law_hash K E (En Q) (start ["seed", "index", "mixed"] vs) H := by
  obtain ⟨a, b, rfl, a0, a1, b0, b1, q⟩ := h
  refine ⟨_, rfl, _, _, rfl, rfl, .inr (by decide), _, rfl, _, _, rfl, rfl, .inl (by decide), _, rfl, _, _, rfl, rfl, .inl (by omega), _, _, rfl, rfl, _, rfl, _, _, rfl, rfl, _, _, rfl, rfl, .inl ⟨_, rfl, _, _, rfl, rfl, (by show (0 : Int) < _; decide), ?_⟩⟩
  have m0 : 0 ≤ (a * 1103515245 + 7919 * b * b + b + 1) % 2147483647 := Int.emod_nonneg _ (by decide)
  have m1 : (a * 1103515245 + 7919 * b * b + b + 1) % 2147483647 < 2147483647 := Int.emod_lt_of_pos _ (by decide)
  refine ⟨_, rfl, _, rfl, _, _, rfl, rfl, .inl ⟨by omega, by omega⟩, _, _, rfl, rfl, .inl ⟨_, rfl, _, _, rfl, rfl, (by show (0 : Int) < _; decide), ?_⟩⟩
  refine ⟨_, rfl, _, _, rfl, rfl, .inr (by decide), .inl ⟨_, rfl, _, _, rfl, rfl, (by show (0 : Int) < _; decide), ?_⟩⟩
  exact q _ (Int.emod_nonneg _ (by decide)) (Int.emod_lt_of_pos _ (by decide))
theorem pow60 : CPowW 10 60 := ⟨by decide, by decide +kernel⟩
theorem pow600 : CPowW (10 ^ (60 : Int).toNat) 10 := ⟨by decide, by decide +kernel⟩
theorem pure_law_generator {K : PySem.W.Frag} {vs : List V} {H : Hp} {Q : VK} {E : XK} (h : sp_law_generator K vs H Q E) : t_law_generator K E (En Q) (start ["script", "index", "seed"] vs) H := by
  obtain ⟨l, ns, i, rfl, hs, h0, h1, q⟩ := h
  refine ⟨_, rfl, _, rfl, l, ns, i, rfl, hs, h0, h1, fun j => ?_⟩
  refine ⟨_, rfl, _, _, rfl, rfl, ⟨by decide, by decide +kernel⟩, _, _, rfl, rfl, _, _, rfl, .inl ⟨_, rfl, _, _, rfl, rfl, pow60, _, _, rfl, rfl, pow600, _, _, rfl, rfl, (by show (0 : Int) < _; decide +kernel), ?_⟩⟩
  refine ⟨_, rfl, .inl ⟨_, rfl, _, _, rfl, rfl, (by show (0 : Int) < _; decide), _, rfl, _, _, rfl, rfl, .inl (by decide), (by show 3 ≤ sizeLine; decide), fun p hp => ?_⟩⟩
  have e : ((10 : Int) ^ (60 : Int).toNat) ^ (10 : Int).toNat = 10 ^ 600 := by decide +kernel
  exact q p _ _ hp (Int.emod_nonneg _ (by decide +kernel)) (by rw [← e]; exact Int.emod_lt_of_pos _ (by decide +kernel)) (Int.emod_nonneg _ (by decide)) (Int.emod_lt_of_pos _ (by decide))
theorem get3 {x y z : V} : atI [x, y, z] 0 = some x ∧ atI [x, y, z] 1 = some y ∧ atI [x, y, z] 2 = some z := ⟨rfl, rfl, rfl⟩
theorem bits60 {n : Int} (h0 : 1 ≤ n) (h : n < 2 ^ 60) : (Builtin.Int.intBits n : Nat) ≤ 60 := by
  have e : n.natAbs < 2 ^ 60 := by omega
  have z := PySem.Flt.log2_lt_of (by decide : 0 < 60) e
  unfold Builtin.Int.intBits
  split <;> omega
theorem pure_law_random {K : PySem.W.Frag} {vs : List V} {H : Hp} {Q : VK} {E : XK} (h : sp_law_random K vs H Q E) : t_law_random K E (En Q) (start ["generator", "bound", "drawn", "turn"] vs) H := by
  obtain ⟨p, a, b, c, n, rfl, hp, a0, a1, b0, b1, c0, c1, n0, n1, q⟩ := h
  refine ⟨_, rfl, .inl ⟨_, _, _, _, rfl, rfl, .of hp, get3.1, _, _, rfl, rfl, _, rfl, ?_⟩⟩
  refine ite2 (fun ha => ?_) (fun _ => ?_)
  · have ha' : 0 < a := of_decide_eq_true ha
    refine ⟨_, rfl, .inl ⟨_, _, _, _, rfl, rfl, .of hp, get3.1, .inl ⟨_, rfl, _, rfl, _, _, rfl, rfl, (by show (0 : Int) < n; omega), ?_⟩⟩⟩
    have nw : CDivW a n := wide_div (b := 60) (by omega) (by omega) (by decide) (by decide)
    refine ⟨_, rfl, .inl ⟨_, _, _, _, rfl, rfl, .of hp, get3.1, _, rfl, _, _, rfl, rfl, nw, _, rfl, p, _, 0, 0, rfl, rfl, hp, rfl, ?_⟩⟩
    refine ⟨_, rfl, q _ _ _ (Int.emod_nonneg _ (by omega)) (Int.emod_lt_of_pos _ (by omega)) (Int.ediv_nonneg a0 (by omega)) ?_ (Int.le_refl c) (by omega)⟩
    exact Int.lt_of_le_of_lt (Int.ediv_le_self n a0) a1
  · refine ⟨_, rfl, _, rfl, _, _, rfl, rfl, ⟨by decide, by decide +kernel⟩, _, _, rfl, rfl, _, rfl, ?_⟩
    have z := bits60 n0 n1
    have zz : (0 : Int) ≤ (Builtin.Int.intBits n : Nat) := Int.natCast_nonneg _
    refine ⟨by show -(2 ^ 62) ≤ 1 + ((Builtin.Int.intBits n : Nat) : Int) / 30; omega, by show 1 + ((Builtin.Int.intBits n : Nat) : Int) / 30 < 2 ^ 62; omega, ?_⟩
    have hk : (1 + ((Builtin.Int.intBits n : Nat) : Int) / 30).toNat ≤ 3 := by omega
    generalize (1 + ((Builtin.Int.intBits n : Nat) : Int) / 30).toNat = k at hk
    refine for_range (fun i σ H' => ∃ (d : Int) (c' : Int) (t : Option V), σ = [some (.ref p), some (.int n), some (.int d), t] ∧ H' = upd H p (.lst [.int a, .int b, .int c']) ∧ c ≤ c' ∧ c' ≤ c + i) ?_ ?_ ?_
    · refine ⟨0, c, none, rfl, ?_, Int.le_refl c, by omega⟩
      funext x
      unfold upd
      by_cases e : x = p
      · rw [if_pos e, e, hp]
      · rw [if_neg e]
    · rintro i σ H' hi ⟨d, c', t, rfl, rfl, h1, h2⟩
      refine ⟨_, rfl, .inl ⟨_, _, _, _, rfl, rfl, .of upd_same, get3.2.2, _, _, rfl, rfl, _, rfl, p, _, 2, 2, rfl, rfl, upd_same, rfl, ?_⟩⟩
      refine ⟨_, rfl, _, _, rfl, rfl, .inr (by decide), _, rfl, .inl ⟨_, _, _, _, rfl, rfl, .of upd_same, get3.2.1, _, rfl, .inl ⟨_, _, _, _, rfl, rfl, .of upd_same, get3.2.2, b, c' + 1, rfl, b0, b1, by omega, by omega, fun r r0 r1 => ?_⟩⟩⟩
      refine ⟨_, _, rfl, rfl, _, c' + 1, some (.int (0 + i)), rfl, ?_, by omega, by omega⟩
      rw [upd_upd]
      rfl
    · rintro σ H' ⟨d, c', t, rfl, rfl, h1, h2⟩
      refine ⟨_, rfl, .inl ⟨_, rfl, _, rfl, _, _, rfl, rfl, (by show (0 : Int) < n; omega), ?_⟩⟩
      exact q _ a c' (Int.emod_nonneg _ (by omega)) (Int.emod_lt_of_pos _ (by omega)) a0 a1 h1 (by omega)
end L2.Fw
/-! tools for the readings -/
namespace L2.Fw
open PySem PySem.Spec PyProof.Rows
section
variable {K : PySem.W.Frag} {H H' H0 H1 : Hp} {a b p D : Addr} {o u : HO}
theorem kp (h : H a = some o) (n : H p = none) : upd H p u a = some o := by rw [upd_ne (ne_of_none h n)]; exact h
theorem kp2 (h : H a = some o) (ne : a ≠ p) : upd H p u a = some o := by rw [upd_ne ne]; exact h
theorem same_new (s : Same H0 H) (n : H p = none) : Same H0 (upd H p u) := fun b o e => kp (s b o e) n
theorem same_own (s : Same H0 H) (n : H0 p = none) : Same H0 (upd H p u) := fun b o e => by rw [upd_ne (ne_of_none e n)]; exact s b o e
theorem free_of (s : Same H0 H) (n : H p = none) : H0 p = none := s.free n
theorem nn (h : H a = none) (n : a ≠ p) : upd H p u a = none := by rw [upd_ne n]; exact h
/-- an address that is free behind is free ahead, and another one than what was laid -/
theorem up_none (h : upd H p u a = none) : H a = none ∧ a ≠ p := by
  by_cases e : a = p
  · rw [e, upd_same] at h
    cases h
  · rw [upd_ne e] at h
    exact ⟨h, e⟩
theorem lstLen {n : Nat} (h : n ≤ 1000) : n ≤ sizeLine := Nat.le_of_lt (small1000 h)
theorem lstLt {n : Nat} (h : n ≤ 1000) : n < sizeLine := small1000 h
end
end L2.Fw
/-! lists of data that a comprehension builds; short data -/
namespace L2.Fw
open PySem PySem.Spec PyProof.Rows
/-- the heap but for what stands at D -/
def del (H : Hp) (D : Addr) : Hp := fun a => if a = D then none else H a
section
variable {K : PySem.W.Frag} {H H' H0 H1 : Hp} {a b p D : Addr} {o u : HO} {v : V} {d : PyData}
theorem del_ne (h : a ≠ D) : del H D a = H a := if_neg h
theorem del_upd : del (upd H D u) D = del H D := by
  funext x
  unfold del
  by_cases e : x = D
  · rw [if_pos e, if_pos e]
  · rw [if_neg e, if_neg e, upd_ne e]
theorem del_le : Same (del H D) H := fun x o e => by
  unfold del at e
  by_cases q : x = D
  · rw [if_pos q] at e
    cases e
  · rw [if_neg q] at e
    exact e
theorem del_of (s : Same H0 H) (n : H0 D = none) : Same H0 (del H D) := fun x o e => by rw [del_ne (ne_of_none e n)]; exact s _ _ e
theorem del_mono (s : Same H H') : Same (del H D) (del H' D) := fun x o e => by
  unfold del at e ⊢
  by_cases q : x = D
  · rw [if_pos q] at e
    cases e
  · rw [if_neg q] at e ⊢
    exact s _ _ e
theorem del_same (s : Same H0 (del H D)) : Same H0 H := s.trans del_le
/-- a list's data -/
theorem Dd.lst {xs : List V} {ds : List PyData} (hs : SqL K H a xs) (h : DdAll K H xs ds) : Dd K H (.ref a) (.list ds) := Dn.lst trivial hs h.1 h.2
theorem Dd.tup {xs : List V} {ds : List PyData} (hs : SqT K H a xs) (h : DdAll K H xs ds) : Dd K H (.ref a) (.tuple ds) := Dn.tup trivial hs h.1 h.2
theorem DdAll.snoc {xs : List V} {ds : List PyData} (h : DdAll K H xs ds) (q : Dd K H v d) : DdAll K H (xs ++ [v]) (ds ++ [d]) := h.append (.cons q .nil)
theorem map_range_succ {α : Type} (f : Nat → α) (n : Nat) : (List.range (n + 1)).map f = (List.range n).map f ++ [f n] := by rw [List.range_succ, List.map_append]; rfl
/-- a comprehension's walk over J, its list at D -/
def LcW (J : It) (g : TG) (tt : TT) (te : TE) (vs : List Nat) (σ : St) (H0 : Hp) (D : Addr) (Qd : Hp → Prop) : Prop :=
  ∃ W : Nat → Nat → Hp → Prop,
    (∃ m, W 0 m (upd H0 D (.lst []))) ∧
    ∀ i m H, W i m H → (J.stop i H ∧ Qd H) ∨ (J.go i H ∧
      ∃ Nx : Hp → Prop, (∀ H', Nx H' → ∃ m', m' < m ∧ W (i + 1) m' H') ∧
        ∀ x H', J.yld i H x H' →
          g x (wipe σ vs) H' fun σ2 H2 =>
            wipe σ2 vs = wipe σ vs ∧
            tt σ2 H2 fun b H3 => if b = true
              then te σ2 H3 fun y H4 => ∃ acc, H4 D = some (.lst acc) ∧ acc.length < sizeLine ∧
                Nx (upd H4 D (.lst (acc ++ [y])))
              else Nx H3)
/-- [e for x in xs if c]: what e is, place by place; all are kept -/
theorem lc_deep {xs : List V} {g : TG} {te : TE} {vs : List Nat} {σ : St} {Qd : Hp → Prop} (nD : H0 D = none) (f : Nat → PyData) (hl : SqL K H0 a xs) (lx : xs.length ≤ 1000)
    (hs : ∀ (i : Nat) (x : V) (H : Hp) (R : VK), xs[i]? = some x → Same H0 H → (∃ acc, H D = some (.lst acc)) → (∀ y H4, Same H H4 → Dd K (del H4 D) y (f i) → R y H4) →
      g x (wipe σ vs) H fun σ2 H2 => wipe σ2 vs = wipe σ vs ∧ te σ2 H2 R)
    (hd : ∀ H ys, Same H0 H → H D = some (.lst ys) → DdAll K (del H D) ys ((List.range xs.length).map f) → Qd H) :
    LcW (Itl K a) g tYes te vs σ H0 D Qd := by
  refine lc_list (tt := tYes) (xs := xs) (fun i H => ∃ acc, H D = some (.lst acc) ∧ Same H0 H ∧ DdAll K (del H D) acc ((List.range i).map f)) ?_ ?_ ?_ ?_
  · exact ⟨[], upd_same, same_new (Same.refl _) nD, .nil⟩
  · rintro i H hi ⟨acc, h1, h2, h3⟩
    exact SqL.fr (fun o e => h2 _ _ e) hl
  · rintro i x H hx ⟨acc, h1, h2, h3⟩
    have hi : i < xs.length := (List.getElem?_eq_some_iff.mp hx).1
    refine hs i x H _ hx h2 ⟨acc, h1⟩ fun y H4 s4 hy => ⟨acc, s4 _ _ h1, ?_, acc ++ [y], upd_same, same_own (h2.trans s4) nD, ?_⟩
    · have e := h3.1
      rw [List.length_map, List.length_range] at e
      exact lstLt (by omega)
    · rw [del_upd, map_range_succ]
      exact DdAll.snoc (h3.same (del_mono s4)) hy
  · rintro H ⟨acc, h1, h2, h3⟩
    exact hd H acc h2 h1 h3
theorem lc_deepR {lo : Int} {n : Nat} {g : TG} {te : TE} {vs : List Nat} {σ : St} {Qd : Hp → Prop} (nD : H0 D = none) (f : Nat → PyData) (lx : n ≤ 1000)
    (hs : ∀ (i : Nat) (H : Hp) (R : VK), i < n → Same H0 H → (∃ acc, H D = some (.lst acc)) → (∀ y H4, Same H H4 → Dd K (del H4 D) y (f i) → R y H4) →
      g (.int (lo + i)) (wipe σ vs) H fun σ2 H2 => wipe σ2 vs = wipe σ vs ∧ te σ2 H2 R)
    (hd : ∀ H ys, Same H0 H → H D = some (.lst ys) → DdAll K (del H D) ys ((List.range n).map f) → Qd H) :
    LcW (Itr lo n) g tYes te vs σ H0 D Qd := by
  refine lc_range (tt := tYes) (fun i H => ∃ acc, H D = some (.lst acc) ∧ Same H0 H ∧ DdAll K (del H D) acc ((List.range i).map f)) ?_ ?_ ?_
  · exact ⟨[], upd_same, same_new (Same.refl _) nD, .nil⟩
  · rintro i H hi ⟨acc, h1, h2, h3⟩
    refine hs i H _ hi h2 ⟨acc, h1⟩ fun y H4 s4 hy => ⟨acc, s4 _ _ h1, ?_, acc ++ [y], upd_same, same_own (h2.trans s4) nD, ?_⟩
    · have e := h3.1
      rw [List.length_map, List.length_range] at e
      exact lstLt (by omega)
    · rw [del_upd, map_range_succ]
      exact DdAll.snoc (h3.same (del_mono s4)) hy
  · rintro H ⟨acc, h1, h2, h3⟩
    exact hd H acc h2 h1 h3
/-- [e for x in xs]: what e is, value by value -/
theorem lc_each {xs : List V} {g : TG} {te : TE} {vs : List Nat} {σ : St} {Qd : Hp → Prop} (nD : H0 D = none) (f : Nat → V) (hl : SqL K H0 a xs) (lx : xs.length ≤ 1000)
    (hs : ∀ (i : Nat) (x : V) (H : Hp) (R : VK), xs[i]? = some x → Same H0 H → (∀ H4, Same H H4 → R (f i) H4) →
      g x (wipe σ vs) H fun σ2 H2 => wipe σ2 vs = wipe σ vs ∧ te σ2 H2 R)
    (hd : ∀ H, Same H0 H → H D = some (.lst ((List.range xs.length).map f)) → Qd H) :
    LcW (Itl K a) g tYes te vs σ H0 D Qd := by
  refine lc_list (tt := tYes) (xs := xs) (fun i H => H D = some (.lst ((List.range i).map f)) ∧ Same H0 H) ?_ ?_ ?_ ?_
  · exact ⟨upd_same, same_new (Same.refl _) nD⟩
  · rintro i H hi ⟨h1, h2⟩
    exact SqL.fr (fun o e => h2 _ _ e) hl
  · rintro i x H hx ⟨h1, h2⟩
    have hi : i < xs.length := (List.getElem?_eq_some_iff.mp hx).1
    refine hs i x H _ hx h2 fun H4 s4 => ⟨_, s4 _ _ h1, ?_, ?_, same_own (h2.trans s4) nD⟩
    · rw [List.length_map, List.length_range]
      exact lstLt (by omega)
    · rw [upd_same, map_range_succ]
  · rintro H ⟨h1, h2⟩
    exact hd H h2 h1
end
/-- short data: its text is short, too -/
structure Fine (d : PyData) : Prop where
  lv : d.leavesShort 13 = true
  sh : d.showable = true
  dp : d.depth ≤ 10
  wt : d.weight ≤ 1000
theorem Fine.rep {d : PyData} (h : Fine d) (n : Nat) (hn : n ≤ 100) : (PyData.list (List.replicate n d)).showable = true ∧ (PyData.list (List.replicate n d)).depth ≤ 60 ∧ (PyData.list (List.replicate n d)).shown.length ≤ sizeLine := by
  have h1 : ∀ n, PyData.leavesShortAll 13 (List.replicate n d) = true := fun n => by
    induction n with
    | zero => rfl
    | succ n ih => rw [List.replicate_succ]; simp only [PyData.leavesShortAll, h.lv, ih, Bool.and_self]
  have h2 : ∀ n, PyData.showableAll (List.replicate n d) = true := fun n => by
    induction n with
    | zero => rfl
    | succ n ih => rw [List.replicate_succ]; simp only [PyData.showableAll, h.sh, ih, Bool.and_self]
  have h3 : ∀ n, PyData.depthAll (List.replicate n d) ≤ 10 := fun n => by
    induction n with
    | zero => exact Nat.zero_le _
    | succ n ih =>
      have := h.dp
      rw [List.replicate_succ]
      simp only [PyData.depthAll]
      omega
  have h4 : ∀ n, PyData.weightAll (List.replicate n d) ≤ 1001 * n := fun n => by
    induction n with
    | zero => exact Nat.le_refl _
    | succ n ih =>
      have := h.wt
      rw [List.replicate_succ]
      simp only [PyData.weightAll]
      omega
  refine ⟨by simp only [PyData.showable, h2], ?_, PyData.shown_fits (B := 13) (by decide) (by decide) (by simp only [PyData.leavesShort, h1]) ?_⟩
  · have := h3 n
    simp only [PyData.depth]
    omega
  · have := h4 n
    simp only [PyData.weight]
    omega
end L2.Fw

namespace L2.Fw.K01
open PySem PySem.Spec PyProof.Rows

def top (i : Nat) : Stmt := PySem.Challenge.pw_tickcounts_k01_errors.main.body.getD i (.Pass ⟨0, 0, 0, 0⟩)
abbrev s_InvalidNumber_init : Stmt := inClass (top 2) 0
theorem sc_InvalidNumber_init : FnScope ["self", "value"] ["self", "value"] (defScope s_InvalidNumber_init) := ⟨rfl, rfl, rfl, by decide +kernel, rfl, by decide +kernel, by decide +kernel⟩
def d_InvalidNumber_init : He.DefD := ⟨("InvalidNumber", some "__init__"), "__init__", "InvalidNumber.__init__", defArgs s_InvalidNumber_init, defBody s_InvalidNumber_init, defScope s_InvalidNumber_init, [.non], []⟩
abbrev s_InvalidList_init : Stmt := inClass (top 3) 0
theorem sc_InvalidList_init : FnScope ["self", "value"] ["self", "value"] (defScope s_InvalidList_init) := ⟨rfl, rfl, rfl, by decide +kernel, rfl, by decide +kernel, by decide +kernel⟩
def d_InvalidList_init : He.DefD := ⟨("InvalidList", some "__init__"), "__init__", "InvalidList.__init__", defArgs s_InvalidList_init, defBody s_InvalidList_init, defScope s_InvalidList_init, [.non], []⟩
abbrev s_InvalidItem_init : Stmt := inClass (top 4) 0
theorem sc_InvalidItem_init : FnScope ["self", "value"] ["self", "value"] (defScope s_InvalidItem_init) := ⟨rfl, rfl, rfl, by decide +kernel, rfl, by decide +kernel, by decide +kernel⟩
def d_InvalidItem_init : He.DefD := ⟨("InvalidItem", some "__init__"), "__init__", "InvalidItem.__init__", defArgs s_InvalidItem_init, defBody s_InvalidItem_init, defScope s_InvalidItem_init, [.non], []⟩
abbrev s_InvalidShop_init : Stmt := inClass (top 5) 0
theorem sc_InvalidShop_init : FnScope ["self", "value"] ["self", "value"] (defScope s_InvalidShop_init) := ⟨rfl, rfl, rfl, by decide +kernel, rfl, by decide +kernel, by decide +kernel⟩
def d_InvalidShop_init : He.DefD := ⟨("InvalidShop", some "__init__"), "__init__", "InvalidShop.__init__", defArgs s_InvalidShop_init, defBody s_InvalidShop_init, defScope s_InvalidShop_init, [.non], []⟩
abbrev s_InvalidThing_init : Stmt := inClass (top 6) 0
theorem sc_InvalidThing_init : FnScope ["self", "value"] ["self", "value"] (defScope s_InvalidThing_init) := ⟨rfl, rfl, rfl, by decide +kernel, rfl, by decide +kernel, by decide +kernel⟩
def d_InvalidThing_init : He.DefD := ⟨("InvalidThing", some "__init__"), "__init__", "InvalidThing.__init__", defArgs s_InvalidThing_init, defBody s_InvalidThing_init, defScope s_InvalidThing_init, [.non], []⟩
abbrev s_InvalidTicks_init : Stmt := inClass (top 7) 0
theorem sc_InvalidTicks_init : FnScope ["self", "value"] ["self", "value"] (defScope s_InvalidTicks_init) := ⟨rfl, rfl, rfl, by decide +kernel, rfl, by decide +kernel, by decide +kernel⟩
def d_InvalidTicks_init : He.DefD := ⟨("InvalidTicks", some "__init__"), "__init__", "InvalidTicks.__init__", defArgs s_InvalidTicks_init, defBody s_InvalidTicks_init, defScope s_InvalidTicks_init, [.non], []⟩
abbrev s_InvalidStore_init : Stmt := inClass (top 8) 0
theorem sc_InvalidStore_init : FnScope ["self", "value"] ["self", "value"] (defScope s_InvalidStore_init) := ⟨rfl, rfl, rfl, by decide +kernel, rfl, by decide +kernel, by decide +kernel⟩
def d_InvalidStore_init : He.DefD := ⟨("InvalidStore", some "__init__"), "__init__", "InvalidStore.__init__", defArgs s_InvalidStore_init, defBody s_InvalidStore_init, defScope s_InvalidStore_init, [.non], []⟩
abbrev s_InvalidWord_init : Stmt := inClass (top 9) 0
theorem sc_InvalidWord_init : FnScope ["self", "value"] ["self", "value"] (defScope s_InvalidWord_init) := ⟨rfl, rfl, rfl, by decide +kernel, rfl, by decide +kernel, by decide +kernel⟩
def d_InvalidWord_init : He.DefD := ⟨("InvalidWord", some "__init__"), "__init__", "InvalidWord.__init__", defArgs s_InvalidWord_init, defBody s_InvalidWord_init, defScope s_InvalidWord_init, [.non], []⟩
abbrev s_InvalidRule_init : Stmt := inClass (top 10) 0
theorem sc_InvalidRule_init : FnScope ["self", "value"] ["self", "value"] (defScope s_InvalidRule_init) := ⟨rfl, rfl, rfl, by decide +kernel, rfl, by decide +kernel, by decide +kernel⟩
def d_InvalidRule_init : He.DefD := ⟨("InvalidRule", some "__init__"), "__init__", "InvalidRule.__init__", defArgs s_InvalidRule_init, defBody s_InvalidRule_init, defScope s_InvalidRule_init, [.non], []⟩
abbrev s_InvalidText_init : Stmt := inClass (top 11) 0
theorem sc_InvalidText_init : FnScope ["self", "value"] ["self", "value"] (defScope s_InvalidText_init) := ⟨rfl, rfl, rfl, by decide +kernel, rfl, by decide +kernel, by decide +kernel⟩
def d_InvalidText_init : He.DefD := ⟨("InvalidText", some "__init__"), "__init__", "InvalidText.__init__", defArgs s_InvalidText_init, defBody s_InvalidText_init, defScope s_InvalidText_init, [.non], []⟩
abbrev s_Missing_init : Stmt := inClass (top 12) 0
theorem sc_Missing_init : FnScope ["self", "value"] ["self", "value"] (defScope s_Missing_init) := ⟨rfl, rfl, rfl, by decide +kernel, rfl, by decide +kernel, by decide +kernel⟩
def d_Missing_init : He.DefD := ⟨("Missing", some "__init__"), "__init__", "Missing.__init__", defArgs s_Missing_init, defBody s_Missing_init, defScope s_Missing_init, [.non], []⟩
abbrev s_InvalidName_init : Stmt := inClass (top 13) 0
theorem sc_InvalidName_init : FnScope ["self", "name"] ["self", "name"] (defScope s_InvalidName_init) := ⟨rfl, rfl, rfl, by decide +kernel, rfl, by decide +kernel, by decide +kernel⟩
def d_InvalidName_init : He.DefD := ⟨("InvalidName", some "__init__"), "__init__", "InvalidName.__init__", defArgs s_InvalidName_init, defBody s_InvalidName_init, defScope s_InvalidName_init, [.non], []⟩
abbrev s_TakenName_init : Stmt := inClass (top 14) 0
theorem sc_TakenName_init : FnScope ["self", "name"] ["self", "name"] (defScope s_TakenName_init) := ⟨rfl, rfl, rfl, by decide +kernel, rfl, by decide +kernel, by decide +kernel⟩
def d_TakenName_init : He.DefD := ⟨("TakenName", some "__init__"), "__init__", "TakenName.__init__", defArgs s_TakenName_init, defBody s_TakenName_init, defScope s_TakenName_init, [.non], []⟩
abbrev s_UnknownName_init : Stmt := inClass (top 15) 0
theorem sc_UnknownName_init : FnScope ["self", "name"] ["self", "name"] (defScope s_UnknownName_init) := ⟨rfl, rfl, rfl, by decide +kernel, rfl, by decide +kernel, by decide +kernel⟩
def d_UnknownName_init : He.DefD := ⟨("UnknownName", some "__init__"), "__init__", "UnknownName.__init__", defArgs s_UnknownName_init, defBody s_UnknownName_init, defScope s_UnknownName_init, [.non], []⟩
abbrev s_law_cell : Stmt := top 18
theorem sc_law_cell : FnScope ["script", "index"] ["script", "index"] (defScope s_law_cell) := ⟨rfl, rfl, rfl, by decide +kernel, rfl, by decide +kernel, by decide +kernel⟩
def d_law_cell : He.DefD := ⟨("_law_cell", none), "_law_cell", "_law_cell", defArgs s_law_cell, defBody s_law_cell, defScope s_law_cell, [], []⟩
abbrev s_law_hash : Stmt := top 19
theorem sc_law_hash : FnScope ["seed", "index", "mixed"] ["seed", "index"] (defScope s_law_hash) := ⟨rfl, rfl, rfl, by decide +kernel, rfl, by decide +kernel, by decide +kernel⟩
def d_law_hash : He.DefD := ⟨("_law_hash", none), "_law_hash", "_law_hash", defArgs s_law_hash, defBody s_law_hash, defScope s_law_hash, [], []⟩
abbrev s_law_generator : Stmt := top 20
theorem sc_law_generator : FnScope ["script", "index", "seed"] ["script", "index"] (defScope s_law_generator) := ⟨rfl, rfl, rfl, by decide +kernel, rfl, by decide +kernel, by decide +kernel⟩
def d_law_generator : He.DefD := ⟨("_law_generator", none), "_law_generator", "_law_generator", defArgs s_law_generator, defBody s_law_generator, defScope s_law_generator, [], []⟩
abbrev s_law_random : Stmt := top 21
theorem sc_law_random : FnScope ["generator", "bound", "drawn", "turn"] ["generator", "bound"] (defScope s_law_random) := ⟨rfl, rfl, rfl, by decide +kernel, rfl, by decide +kernel, by decide +kernel⟩
def d_law_random : He.DefD := ⟨("_law_random", none), "_law_random", "_law_random", defArgs s_law_random, defBody s_law_random, defScope s_law_random, [], []⟩
abbrev s_law_kinds : Stmt := top 22
theorem sc_law_kinds : FnScope ["error", "classes", "at"] ["error"] (defScope s_law_kinds) := ⟨rfl, rfl, rfl, by decide +kernel, rfl, by decide +kernel, by decide +kernel⟩
def d_law_kinds : He.DefD := ⟨("_law_kinds", none), "_law_kinds", "_law_kinds", defArgs s_law_kinds, defBody s_law_kinds, defScope s_law_kinds, [], []⟩
abbrev s_law_right : Stmt := top 23
theorem sc_law_right : FnScope ["errors", "given", "fields", "error", "at"] ["errors", "given"] (defScope s_law_right) := ⟨rfl, rfl, rfl, by decide +kernel, rfl, by decide +kernel, by decide +kernel⟩
def d_law_right : He.DefD := ⟨("_law_right", none), "_law_right", "_law_right", defArgs s_law_right, defBody s_law_right, defScope s_law_right, [], []⟩
abbrev s_law_placed : Stmt := top 24
theorem sc_law_placed : FnScope ["given", "found"] ["given"] (defScope s_law_placed) := ⟨rfl, rfl, rfl, by decide +kernel, rfl, by decide +kernel, by decide +kernel⟩
def d_law_placed : He.DefD := ⟨("_law_placed", none), "_law_placed", "_law_placed", defArgs s_law_placed, defBody s_law_placed, defScope s_law_placed, [], []⟩
abbrev s_law_named : Stmt := top 25
theorem sc_law_named : FnScope ["given", "found"] ["given"] (defScope s_law_named) := ⟨rfl, rfl, rfl, by decide +kernel, rfl, by decide +kernel, by decide +kernel⟩
def d_law_named : He.DefD := ⟨("_law_named", none), "_law_named", "_law_named", defArgs s_law_named, defBody s_law_named, defScope s_law_named, [], []⟩
abbrev s_law_bare : Stmt := top 26
theorem sc_law_bare : FnScope ["found"] [] (defScope s_law_bare) := ⟨rfl, rfl, rfl, by decide +kernel, rfl, by decide +kernel, by decide +kernel⟩
def d_law_bare : He.DefD := ⟨("_law_bare", none), "_law_bare", "_law_bare", defArgs s_law_bare, defBody s_law_bare, defScope s_law_bare, [], []⟩
abbrev s_law : Stmt := top 27
theorem sc_law : FnScope ["script", "mark", "elder", "given", "first", "second"] ["script"] (defScope s_law) := ⟨rfl, rfl, rfl, by decide +kernel, rfl, by decide +kernel, by decide +kernel⟩
def d_law : He.DefD := ⟨("law", none), "law", "law", defArgs s_law, defBody s_law, defScope s_law, [], []⟩
def fn : List He.DefD := [d_InvalidNumber_init, d_InvalidList_init, d_InvalidItem_init, d_InvalidShop_init, d_InvalidThing_init, d_InvalidTicks_init, d_InvalidStore_init, d_InvalidWord_init, d_InvalidRule_init, d_InvalidText_init, d_Missing_init, d_InvalidName_init, d_TakenName_init, d_UnknownName_init, d_law_cell, d_law_hash, d_law_generator, d_law_random, d_law_kinds, d_law_right, d_law_placed, d_law_named, d_law_bare, d_law]
def exs : List Str := ["InvalidNumber", "InvalidList", "InvalidItem", "InvalidShop", "InvalidThing", "InvalidTicks", "InvalidStore", "InvalidWord", "InvalidRule", "InvalidText", "Missing", "InvalidName", "TakenName", "UnknownName"]
def exV : List Str := ["InvalidNumber", "InvalidList", "InvalidItem", "InvalidShop", "InvalidThing", "InvalidTicks", "InvalidStore", "InvalidWord", "InvalidRule", "InvalidText", "Missing"]
def exN : List Str := ["InvalidName", "TakenName", "UnknownName"]
def gls : List Str := ["TickError", "InvalidNumber", "InvalidList", "InvalidItem", "InvalidShop", "InvalidThing", "InvalidTicks", "InvalidStore", "InvalidWord", "InvalidRule", "InvalidText", "Missing", "InvalidName", "TakenName", "UnknownName", "NothingToUndo", "_law_cell", "_law_hash", "_law_generator", "_law_random", "_law_kinds", "_law_right", "_law_placed", "_law_named", "_law_bare", "law"]
def frs : List Str := ["len", "int", "max", "range", "isinstance", "list", "dict", "repr", "ValueError"]
def all15 : List Str := exs ++ [("NothingToUndo" : Str)]
def kitB (K : PySem.W.Frag) : Bool := all15.all fun x => decide (PySem.W.kitOne K (.ref (He.ga K x)) (.ref (He.ga K "TickError")) = some true) && decide (PySem.W.kitOne K (.ref (He.ga K x)) (.type "ValueError") = some true) &&
  all15.all fun y => decide (PySem.W.kitOne K (.ref (He.ga K x)) (.ref (He.ga K y)) = some (decide (x = y)))
def veT : List Value := [.type "ValueError", .type "Exception", .type "BaseException", .type "object"]
def chk (K : PySem.W.Frag) : Bool := (gls.all fun x => decide (PySem.W.nsIn K mainGlobals x = some (some (.ref (He.ga K x))))) && (frs.all fun x => decide (PySem.W.nsIn K mainGlobals x = some none)) && (exV.all (xcB "value" K)) && (exN.all (xcB "name" K)) &&
  ecB K (He.ga K "NothingToUndo") && PySem.W.excIn K (He.ga K "NothingToUndo") veT "ValueError.__new__" && PySem.W.keepIn K (.ref (He.ga K "NothingToUndo")) && kitB K &&
  (match K.lookup sysModules with
   | some o => decide (o.cls = .type "dict")
   | none => false)
abbrev R : PySem.W.OpenRow := PySem.W.OpenLaw.row PySem.Challenge.rw_tickcounts_k01_errors
abbrev lawAt : Nat := 27
abbrev hk : PySem.W.Hook := hookK 5 chk fn
def ob (s : PySem.W.SharedT) : He.AlD := obG 5 chk fn (HandSHeadRun.getT s)
theorem ob_eq (s : PySem.W.SharedT) : ob s = hk.obs s.abs := obG_eq (HandSHeadRun.getT_eq s)
def loose : List Str := ["TickError", "InvalidNumber", "InvalidList", "InvalidItem", "InvalidShop", "InvalidThing", "InvalidTicks", "InvalidStore", "InvalidWord", "InvalidRule", "InvalidText", "Missing", "InvalidName", "TakenName", "UnknownName", "NothingToUndo", "_law_cell", "_law_hash", "_law_generator", "_law_random", "_law_kinds", "_law_right", "_law_placed", "_law_named", "_law_bare"]
theorem run (w : World) : HandSHeadRun.RunEq R (PySem.W.view R.prog [lawAt]) hk ob 6000 loose w := by
  intro os
  kernel_rfl
end L2.Fw.K01
namespace L2.Fw.K01
open PySem PySem.Spec PyProof.Rows
/-- the field of an own error class -/
def fldOf (c : Str) : Str := if c ∈ exV then "value" else "name"
structure Txt (P : Program) (w : World) (K : PySem.W.Frag) (mg : Str → Option Value) (base : Heap) : Prop where
  gl : ∀ x : Str, x ∈ gls → mg x = some (.ref (He.ga K x))
  fr : ∀ x : Str, x ∈ frs → mg x = none
  xc : ∀ c : Str, c ∈ exs → XC P w K mg base c (fldOf c) (He.ga K c) 1
  ntu : PySem.W.excIn K (He.ga K "NothingToUndo") veT "ValueError.__new__" = true
  ntk : PySem.W.keepIn K (.ref (He.ga K "NothingToUndo")) = true
  nte : EC K (He.ga K "NothingToUndo")
  kit : kitB K = true
  sm : SM K
  f_law_cell : ∃ fd, FunD K "_law_cell" "_law_cell" (defArgs s_law_cell) (defBody s_law_cell) (defScope s_law_cell) [] [] (He.ga K "_law_cell") fd
  f_law_hash : ∃ fd, FunD K "_law_hash" "_law_hash" (defArgs s_law_hash) (defBody s_law_hash) (defScope s_law_hash) [] [] (He.ga K "_law_hash") fd
  f_law_generator : ∃ fd, FunD K "_law_generator" "_law_generator" (defArgs s_law_generator) (defBody s_law_generator) (defScope s_law_generator) [] [] (He.ga K "_law_generator") fd
  f_law_random : ∃ fd, FunD K "_law_random" "_law_random" (defArgs s_law_random) (defBody s_law_random) (defScope s_law_random) [] [] (He.ga K "_law_random") fd
  f_law_kinds : ∃ fd, FunD K "_law_kinds" "_law_kinds" (defArgs s_law_kinds) (defBody s_law_kinds) (defScope s_law_kinds) [] [] (He.ga K "_law_kinds") fd
  f_law_right : ∃ fd, FunD K "_law_right" "_law_right" (defArgs s_law_right) (defBody s_law_right) (defScope s_law_right) [] [] (He.ga K "_law_right") fd
  f_law_placed : ∃ fd, FunD K "_law_placed" "_law_placed" (defArgs s_law_placed) (defBody s_law_placed) (defScope s_law_placed) [] [] (He.ga K "_law_placed") fd
  f_law_named : ∃ fd, FunD K "_law_named" "_law_named" (defArgs s_law_named) (defBody s_law_named) (defScope s_law_named) [] [] (He.ga K "_law_named") fd
  f_law_bare : ∃ fd, FunD K "_law_bare" "_law_bare" (defArgs s_law_bare) (defBody s_law_bare) (defScope s_law_bare) [] [] (He.ga K "_law_bare") fd
  f_law : ∃ fd, FunD K "law" "law" (defArgs s_law) (defBody s_law) (defScope s_law) [] [] (He.ga K "law") fd
theorem Txt.x_InvalidNumber {P : Program} {w : World} {K : PySem.W.Frag} {mg : Str → Option Value} {base : Heap} (T : Txt P w K mg base) : XC P w K mg base "InvalidNumber" "value" (He.ga K "InvalidNumber") 1 := by
  have h := T.xc "InvalidNumber" (by decide)
  rw [show fldOf "InvalidNumber" = "value" by decide +kernel] at h
  exact h
theorem Txt.x_InvalidList {P : Program} {w : World} {K : PySem.W.Frag} {mg : Str → Option Value} {base : Heap} (T : Txt P w K mg base) : XC P w K mg base "InvalidList" "value" (He.ga K "InvalidList") 1 := by
  have h := T.xc "InvalidList" (by decide)
  rw [show fldOf "InvalidList" = "value" by decide +kernel] at h
  exact h
theorem Txt.x_InvalidItem {P : Program} {w : World} {K : PySem.W.Frag} {mg : Str → Option Value} {base : Heap} (T : Txt P w K mg base) : XC P w K mg base "InvalidItem" "value" (He.ga K "InvalidItem") 1 := by
  have h := T.xc "InvalidItem" (by decide)
  rw [show fldOf "InvalidItem" = "value" by decide +kernel] at h
  exact h
theorem Txt.x_InvalidShop {P : Program} {w : World} {K : PySem.W.Frag} {mg : Str → Option Value} {base : Heap} (T : Txt P w K mg base) : XC P w K mg base "InvalidShop" "value" (He.ga K "InvalidShop") 1 := by
  have h := T.xc "InvalidShop" (by decide)
  rw [show fldOf "InvalidShop" = "value" by decide +kernel] at h
  exact h
theorem Txt.x_InvalidThing {P : Program} {w : World} {K : PySem.W.Frag} {mg : Str → Option Value} {base : Heap} (T : Txt P w K mg base) : XC P w K mg base "InvalidThing" "value" (He.ga K "InvalidThing") 1 := by
  have h := T.xc "InvalidThing" (by decide)
  rw [show fldOf "InvalidThing" = "value" by decide +kernel] at h
  exact h
theorem Txt.x_InvalidTicks {P : Program} {w : World} {K : PySem.W.Frag} {mg : Str → Option Value} {base : Heap} (T : Txt P w K mg base) : XC P w K mg base "InvalidTicks" "value" (He.ga K "InvalidTicks") 1 := by
  have h := T.xc "InvalidTicks" (by decide)
  rw [show fldOf "InvalidTicks" = "value" by decide +kernel] at h
  exact h
theorem Txt.x_InvalidStore {P : Program} {w : World} {K : PySem.W.Frag} {mg : Str → Option Value} {base : Heap} (T : Txt P w K mg base) : XC P w K mg base "InvalidStore" "value" (He.ga K "InvalidStore") 1 := by
  have h := T.xc "InvalidStore" (by decide)
  rw [show fldOf "InvalidStore" = "value" by decide +kernel] at h
  exact h
theorem Txt.x_InvalidWord {P : Program} {w : World} {K : PySem.W.Frag} {mg : Str → Option Value} {base : Heap} (T : Txt P w K mg base) : XC P w K mg base "InvalidWord" "value" (He.ga K "InvalidWord") 1 := by
  have h := T.xc "InvalidWord" (by decide)
  rw [show fldOf "InvalidWord" = "value" by decide +kernel] at h
  exact h
theorem Txt.x_InvalidRule {P : Program} {w : World} {K : PySem.W.Frag} {mg : Str → Option Value} {base : Heap} (T : Txt P w K mg base) : XC P w K mg base "InvalidRule" "value" (He.ga K "InvalidRule") 1 := by
  have h := T.xc "InvalidRule" (by decide)
  rw [show fldOf "InvalidRule" = "value" by decide +kernel] at h
  exact h
theorem Txt.x_InvalidText {P : Program} {w : World} {K : PySem.W.Frag} {mg : Str → Option Value} {base : Heap} (T : Txt P w K mg base) : XC P w K mg base "InvalidText" "value" (He.ga K "InvalidText") 1 := by
  have h := T.xc "InvalidText" (by decide)
  rw [show fldOf "InvalidText" = "value" by decide +kernel] at h
  exact h
theorem Txt.x_Missing {P : Program} {w : World} {K : PySem.W.Frag} {mg : Str → Option Value} {base : Heap} (T : Txt P w K mg base) : XC P w K mg base "Missing" "value" (He.ga K "Missing") 1 := by
  have h := T.xc "Missing" (by decide)
  rw [show fldOf "Missing" = "value" by decide +kernel] at h
  exact h
theorem Txt.x_InvalidName {P : Program} {w : World} {K : PySem.W.Frag} {mg : Str → Option Value} {base : Heap} (T : Txt P w K mg base) : XC P w K mg base "InvalidName" "name" (He.ga K "InvalidName") 1 := by
  have h := T.xc "InvalidName" (by decide)
  rw [show fldOf "InvalidName" = "name" by decide +kernel] at h
  exact h
theorem Txt.x_TakenName {P : Program} {w : World} {K : PySem.W.Frag} {mg : Str → Option Value} {base : Heap} (T : Txt P w K mg base) : XC P w K mg base "TakenName" "name" (He.ga K "TakenName") 1 := by
  have h := T.xc "TakenName" (by decide)
  rw [show fldOf "TakenName" = "name" by decide +kernel] at h
  exact h
theorem Txt.x_UnknownName {P : Program} {w : World} {K : PySem.W.Frag} {mg : Str → Option Value} {base : Heap} (T : Txt P w K mg base) : XC P w K mg base "UnknownName" "name" (He.ga K "UnknownName") 1 := by
  have h := T.xc "UnknownName" (by decide)
  rw [show fldOf "UnknownName" = "name" by decide +kernel] at h
  exact h
section
variable {P : Program} {w : World} {K : PySem.W.Frag} {mg : Str → Option Value} {base h : Heap}
theorem txt (X : K.In h) (G : h.Ns mainGlobals mg) (c : SayK chk fn K) : Txt P w K mg base := by
  have k := c.ok
  unfold chk at k
  simp only [Bool.and_eq_true, List.all_eq_true, decide_eq_true_eq] at k
  obtain ⟨⟨⟨⟨⟨⟨⟨⟨k1, k2⟩, k3⟩, k4⟩, k5⟩, k6⟩, k7⟩, k8⟩, k9⟩ := k
  refine { gl := fun x m => PySem.W.mg_of X G (k1 x m), fr := fun x m => PySem.W.mg_none_of X G (k2 x m), xc := fun c0 m => ?_, ntu := k6, ntk := k7, nte := ecB_ok k5, kit := k8, sm := ?_, f_law_cell := c.fd 14 (d := d_law_cell) rfl, f_law_hash := c.fd 15 (d := d_law_hash) rfl, f_law_generator := c.fd 16 (d := d_law_generator) rfl, f_law_random := c.fd 17 (d := d_law_random) rfl, f_law_kinds := c.fd 18 (d := d_law_kinds) rfl, f_law_right := c.fd 19 (d := d_law_right) rfl, f_law_placed := c.fd 20 (d := d_law_placed) rfl, f_law_named := c.fd 21 (d := d_law_named) rfl, f_law_bare := c.fd 22 (d := d_law_bare) rfl, f_law := c.fd 23 (d := d_law) rfl }
  · simp only [exs, List.mem_cons, List.not_mem_nil, or_false] at m
    rcases m with rfl | rfl | rfl | rfl | rfl | rfl | rfl | rfl | rfl | rfl | rfl | rfl | rfl | rfl
    · obtain ⟨fd, F⟩ := c.fd 0 (d := d_InvalidNumber_init) rfl
      rw [show fldOf "InvalidNumber" = "value" by decide +kernel]
      exact xc_value X G (k3 "InvalidNumber" (by decide)) F sc_InvalidNumber_init
    · obtain ⟨fd, F⟩ := c.fd 1 (d := d_InvalidList_init) rfl
      rw [show fldOf "InvalidList" = "value" by decide +kernel]
      exact xc_value X G (k3 "InvalidList" (by decide)) F sc_InvalidList_init
    · obtain ⟨fd, F⟩ := c.fd 2 (d := d_InvalidItem_init) rfl
      rw [show fldOf "InvalidItem" = "value" by decide +kernel]
      exact xc_value X G (k3 "InvalidItem" (by decide)) F sc_InvalidItem_init
    · obtain ⟨fd, F⟩ := c.fd 3 (d := d_InvalidShop_init) rfl
      rw [show fldOf "InvalidShop" = "value" by decide +kernel]
      exact xc_value X G (k3 "InvalidShop" (by decide)) F sc_InvalidShop_init
    · obtain ⟨fd, F⟩ := c.fd 4 (d := d_InvalidThing_init) rfl
      rw [show fldOf "InvalidThing" = "value" by decide +kernel]
      exact xc_value X G (k3 "InvalidThing" (by decide)) F sc_InvalidThing_init
    · obtain ⟨fd, F⟩ := c.fd 5 (d := d_InvalidTicks_init) rfl
      rw [show fldOf "InvalidTicks" = "value" by decide +kernel]
      exact xc_value X G (k3 "InvalidTicks" (by decide)) F sc_InvalidTicks_init
    · obtain ⟨fd, F⟩ := c.fd 6 (d := d_InvalidStore_init) rfl
      rw [show fldOf "InvalidStore" = "value" by decide +kernel]
      exact xc_value X G (k3 "InvalidStore" (by decide)) F sc_InvalidStore_init
    · obtain ⟨fd, F⟩ := c.fd 7 (d := d_InvalidWord_init) rfl
      rw [show fldOf "InvalidWord" = "value" by decide +kernel]
      exact xc_value X G (k3 "InvalidWord" (by decide)) F sc_InvalidWord_init
    · obtain ⟨fd, F⟩ := c.fd 8 (d := d_InvalidRule_init) rfl
      rw [show fldOf "InvalidRule" = "value" by decide +kernel]
      exact xc_value X G (k3 "InvalidRule" (by decide)) F sc_InvalidRule_init
    · obtain ⟨fd, F⟩ := c.fd 9 (d := d_InvalidText_init) rfl
      rw [show fldOf "InvalidText" = "value" by decide +kernel]
      exact xc_value X G (k3 "InvalidText" (by decide)) F sc_InvalidText_init
    · obtain ⟨fd, F⟩ := c.fd 10 (d := d_Missing_init) rfl
      rw [show fldOf "Missing" = "value" by decide +kernel]
      exact xc_value X G (k3 "Missing" (by decide)) F sc_Missing_init
    · obtain ⟨fd, F⟩ := c.fd 11 (d := d_InvalidName_init) rfl
      rw [show fldOf "InvalidName" = "name" by decide +kernel]
      exact xc_name X G (k4 "InvalidName" (by decide)) F sc_InvalidName_init
    · obtain ⟨fd, F⟩ := c.fd 12 (d := d_TakenName_init) rfl
      rw [show fldOf "TakenName" = "name" by decide +kernel]
      exact xc_name X G (k4 "TakenName" (by decide)) F sc_TakenName_init
    · obtain ⟨fd, F⟩ := c.fd 13 (d := d_UnknownName_init) rfl
      rw [show fldOf "UnknownName" = "name" by decide +kernel]
      exact xc_name X G (k4 "UnknownName" (by decide)) F sc_UnknownName_init
  · split at k9
    · rename_i o ho
      exact ⟨o, ho, of_decide_eq_true k9⟩
    · cases k9
end
end L2.Fw.K01
namespace L2.Fw.K01
open PySem PySem.Spec PyProof.Rows
/-- x is an error of the class called c -/
def ErrX (K : PySem.W.Frag) (H : Hp) (x : V) (c : Str) : Prop := ∃ a d, x = .ref a ∧ H a = some (exv a (He.ga K c) d) ∧ ∀ dd, d = some dd → ∃ fs, H dd = some (.xd fs)
section
variable {P : Program} {w : World} {K : PySem.W.Frag} {mg : Str → Option Value} {base : Heap} {H H' : Hp} {x : V} {c y : Str} {p : Addr} {u : HO} {Q : VK}
theorem ErrX.same (s : Same H H') (h : ErrX K H x c) : ErrX K H' x c := by
  obtain ⟨a, d, e, h1, h2⟩ := h
  exact ⟨a, d, e, s _ _ h1, fun dd q => by
    obtain ⟨fs, z⟩ := h2 dd q
    exact ⟨fs, s _ _ z⟩⟩
theorem Same.up (n : H p = none) : Same H (upd H p u) := same_new (Same.refl H) n
theorem Txt.ec (T : Txt P w K mg base) (m : c ∈ all15) : EC K (He.ga K c) := by
  rcases List.mem_append.mp m with m | m
  · exact (T.xc c m).ec
  · have e : c = "NothingToUndo" := by simpa using m
    rw [e]
    exact T.nte
theorem Txt.kits (T : Txt P w K mg base) (m : c ∈ all15) : PySem.W.kitOne K (.ref (He.ga K c)) (.ref (He.ga K "TickError")) = some true ∧ PySem.W.kitOne K (.ref (He.ga K c)) (.type "ValueError") = some true ∧
    ∀ y ∈ all15, PySem.W.kitOne K (.ref (He.ga K c)) (.ref (He.ga K y)) = some (decide (c = y)) := by
  have h := T.kit
  unfold kitB at h
  simp only [List.all_eq_true, Bool.and_eq_true, decide_eq_true_eq] at h
  obtain ⟨⟨h1, h2⟩, h3⟩ := h c m
  exact ⟨h1, h2, fun y my => h3 y my⟩
theorem isx (T : Txt P w K mg base) (m : c ∈ all15) (my : y ∈ all15) (h : ErrX K H x c) (q : Q (.bl (decide (c = y))) H) : rIsX K [x, .ref (He.ga K y)] H Q := by
  obtain ⟨a, d, rfl, h1, h2⟩ := h
  exact ⟨a, _, d, _, _, _, rfl, .own _, T.ec m, h1, h2, (T.kits m).2.2 y my, q⟩
theorem isxT (T : Txt P w K mg base) (m : c ∈ all15) (h : ErrX K H x c) (q : Q (.bl true) H) : rIsX K [x, .ref (He.ga K "TickError")] H Q := by
  obtain ⟨a, d, rfl, h1, h2⟩ := h
  exact ⟨a, _, d, _, _, _, rfl, .own _, T.ec m, h1, h2, (T.kits m).1, q⟩
theorem isxV (T : Txt P w K mg base) (m : c ∈ all15) (h : ErrX K H x c) (q : Q (.bl true) H) : rIsX K [x, .ty "ValueError"] H Q := by
  obtain ⟨a, d, rfl, h1, h2⟩ := h
  exact ⟨a, _, d, _, _, _, rfl, .ty _, T.ec m, h1, h2, (T.kits m).2.1, q⟩
theorem r_isx (T : Txt P w K mg base) {i : Nat} {σ : St} (e : σ[i]? = some (some x)) (m : c ∈ all15) (my : y ∈ all15) (h : ErrX K H x c) (q : Q (.bl (decide (c = y))) H) :
    tCB (rIsX K) (tCons (tVar i) (tCons (tC (.ref (He.ga K y))) tNil)) σ H Q := ⟨x, e, isx T m my h q⟩
def sp_law_kinds (K : PySem.W.Frag) : Sp := fun vs H Q _ => ∃ (x : V) (c : Str) (i : Nat), vs = [x] ∧ all15[i]? = some c ∧ ErrX K H x c ∧ ∀ p H', Same H H' → H p = none → H' p = some (.lst [.int i]) → Q (.ref p) H'
theorem len_law_kinds {vs : List V} {E : XK} (h : sp_law_kinds K vs H Q E) : vs.length = 1 := by
  obtain ⟨_, _, _, rfl, _⟩ := h
  rfl
/-- isinstance(error, y) for each y -/
def isA (K : PySem.W.Frag) : List Str → TA
  | [] => tNil
  | y :: ys => tCons (tCB (rIsX K) (tCons (tVar 0) (tCons (tC (.ref (He.ga K y))) tNil))) (isA K ys)
def t_law_kinds (K : PySem.W.Frag) (E : XK) : TS :=
  (tSeq (tAsg (tLst (isA K ["InvalidNumber", "InvalidList", "InvalidItem"])) (gName 1))
    (tSeq (tAsg (tOp rCat (tVar 1) (tLst (isA K ["InvalidShop", "InvalidThing"]))) (gName 1))
    (tSeq (tAsg (tOp rCat (tVar 1) (tLst (isA K ["InvalidTicks", "InvalidStore"]))) (gName 1))
    (tSeq (tAsg (tOp rCat (tVar 1) (tLst (isA K ["InvalidWord", "InvalidRule"]))) (gName 1))
    (tSeq (tAsg (tOp rCat (tVar 1) (tLst (isA K ["InvalidText", "Missing"]))) (gName 1))
    (tSeq (tAsg (tOp rCat (tVar 1) (tLst (isA K ["InvalidName", "TakenName", "UnknownName"]))) (gName 1))
    (tSeq (tIfS (tOr (tNot (tB (tCB (rIsX K) (tCons (tVar 0) (tCons (tC (.ref (He.ga K "TickError"))) tNil))))) (tNot (tB (tCB (rIsX K) (tCons (tVar 0) (tCons (tC (.ty "ValueError")) tNil)))))) (tRet (tLst tNil)) tNext)
    (tRet (tLc (iRng1 (tCons (tC (.int 15)) tNil)) (gName 2) (tB (tOp (rIx K) (tOp rCat (tVar 1) (tLst (isA K ["NothingToUndo"]))) (tVar 2))) (tVar 2) [2])))))))))
/-- the places j below n with f j, as values -/
def picks (f : Nat → Bool) (n : Nat) : List V := ((List.range n).filter f).map fun (j : Nat) => V.int (j : Int)
theorem picks_succ (f : Nat → Bool) (n : Nat) : picks f (n + 1) = if f n then picks f n ++ [V.int (n : Int)] else picks f n := by
  unfold picks
  rw [List.range_succ, List.filter_append, List.map_append]
  cases h : f n <;> simp [h]
theorem picks_one {i : Nat} : ∀ n, i < n → picks (fun j => decide (j = i)) n = [V.int (i : Int)]
  | 0, h => absurd h (Nat.not_lt_zero _)
  | n + 1, h => by
    rw [picks_succ]
    by_cases e : n = i
    · subst e
      rw [if_pos (by simp)]
      have z : picks (fun j => decide (j = n)) n = [] := by
        unfold picks
        rw [List.filter_eq_nil_iff.mpr fun j hj => ?_]
        · rfl
        · have := List.mem_range.mp hj
          simp
          omega
      rw [z]
      rfl
    · rw [if_neg (by simpa using e)]
      exact picks_one n (by omega)
theorem all15_inj {i j : Nat} {c d : Str} (hi : all15[i]? = some c) (hj : all15[j]? = some d) : decide (c = d) = decide (j = i) := by
  have nd : all15.Nodup := by decide +kernel
  by_cases e : j = i
  · subst e
    rw [hi] at hj
    cases hj
    simp
  · rw [decide_eq_false e]
    refine decide_eq_false fun q => e ?_
    subst q
    obtain ⟨h1, e1⟩ := List.getElem?_eq_some_iff.mp hi
    obtain ⟨h2, e2⟩ := List.getElem?_eq_some_iff.mp hj
    exact (List.getElem_inj nd).mp (e2.trans e1.symm)
def bls (c : Str) (ys : List Str) : List V := ys.map fun y => .bl (decide (c = y))
theorem r_isA (T : Txt P w K mg base) {σ : St} (e : σ[0]? = some (some x)) (m : c ∈ all15) (h : ErrX K H x c) : ∀ {ys : List Str} {R : List V → Hp → Prop}, (∀ y ∈ ys, y ∈ all15) → R (bls c ys) H → isA K ys σ H R
  | [], _, _, q => q
  | y :: ys, _, my, q => r_isx T e m (my y List.mem_cons_self) h (r_isA T e m h (fun z mz => my z (List.mem_cons_of_mem _ mz)) q)
theorem step_cat (T : Txt P w K mg base) {ys zs : List Str} {σ : St} {D : Ends} (e0 : σ[0]? = some (some x)) (e1 : σ[1]? = some (some (.ref p))) (hp : H p = some (.lst (bls c ys))) (m : c ∈ all15) (hx : ErrX K H x c)
    (mz : ∀ y ∈ zs, y ∈ all15) (l : ys.length + zs.length ≤ 100) {t : TS} (q : ∀ p' H', Same H H' → H p' = none → H' p' = some (.lst (bls c (ys ++ zs))) → t D (σ.set 1 (some (.ref p'))) H') : tSeq (tAsg (tOp rCat (tVar 1) (tLst (isA K zs))) (gName 1)) t D σ H := by
  have l1 : (bls c ys).length = ys.length := List.length_map _
  have l2 : (bls c zs).length = zs.length := List.length_map _
  refine ⟨_, e1, r_isA T e0 m hx mz ⟨lstLen (by omega), fun p2 n2 => ⟨p, p2, _, _, rfl, rfl, kp hp n2, upd_same, lstLen (by omega), fun p3 n3 => ?_⟩⟩⟩
  refine q p3 _ (same_new (same_new (Same.refl H) n2) n3) (up_none n3).1 ?_
  rw [upd_same]
  unfold bls
  rw [List.map_append]
theorem at_cat (T : Txt P w K mg base) {ys zs : List Str} {σ : St} {R : Bool → Hp → Prop} {j : Nat} {b : Bool} (e0 : σ[0]? = some (some x)) (e1 : σ[1]? = some (some (.ref p))) (e2 : σ[2]? = some (some (.int (0 + (j : Int))))) (hp : H p = some (.lst (bls c ys))) (m : c ∈ all15) (hx : ErrX K H x c)
    (mz : ∀ y ∈ zs, y ∈ all15) (l : ys.length + zs.length ≤ 100) (g : (bls c (ys ++ zs))[j]? = some (.bl b)) (q : ∀ H', Same H H' → R b H') : tB (tOp (rIx K) (tOp rCat (tVar 1) (tLst (isA K zs))) (tVar 2)) σ H R := by
  have l1 : (bls c ys).length = ys.length := List.length_map _
  have l2 : (bls c zs).length = zs.length := List.length_map _
  refine ⟨_, e1, r_isA T e0 m hx mz ⟨lstLen (by omega), fun p2 n2 => ⟨p, p2, _, _, rfl, rfl, kp hp n2, upd_same, lstLen (by omega), fun p3 n3 => ?_⟩⟩⟩
  refine ⟨_, e2, .inl ⟨p3, _, _, .bl b, rfl, rfl, .of upd_same, ?_, ⟨_, rfl, q _ (same_new (same_new (Same.refl H) n2) n3)⟩⟩⟩
  have e : (((0 : Int) + (j : Int))) = ((j : Nat) : Int) := by omega
  rw [e]
  refine atI_nat ?_
  rw [← g]
  unfold bls
  rw [List.map_append]
theorem step_lst (T : Txt P w K mg base) {zs : List Str} {σ : St} {D : Ends} (e0 : σ[0]? = some (some x)) (m : c ∈ all15) (hx : ErrX K H x c) (mz : ∀ y ∈ zs, y ∈ all15) (l : zs.length ≤ 100) {t : TS}
    (q : ∀ p', H p' = none → t D (σ.set 1 (some (.ref p'))) (upd H p' (.lst (bls c zs)))) : tSeq (tAsg (tLst (isA K zs)) (gName 1)) t D σ H := by
  have l2 : (bls c zs).length = zs.length := List.length_map _
  exact r_isA T e0 m hx mz ⟨lstLen (by omega), q⟩
theorem pure_law_kinds (T : Txt P w K mg base) {vs : List V} {E : XK} (h : sp_law_kinds K vs H Q E) : t_law_kinds K E (En Q) (start ["error", "classes", "at"] vs) H := by
  obtain ⟨x, c, i, rfl, hi, hx, q⟩ := h
  have m : c ∈ all15 := List.mem_of_getElem? hi
  unfold t_law_kinds
  refine step_lst T (x := x) (zs := ["InvalidNumber", "InvalidList", "InvalidItem"]) rfl m hx (by decide) (by decide) fun p1 n1 => ?_
  refine step_cat T (ys := ["InvalidNumber", "InvalidList", "InvalidItem"]) (zs := ["InvalidShop", "InvalidThing"]) (x := x) (p := p1) rfl rfl upd_same m (hx.same (Same.up n1)) (by decide) (by decide) fun p2 H2 s2 f2 h2 => ?_
  have s2 := (Same.up n1 (u := .lst _)).trans s2
  refine step_cat T (zs := ["InvalidTicks", "InvalidStore"]) (x := x) (p := p2) rfl rfl h2 m (hx.same s2) (by decide) (by decide) fun p3 H3 s3 f3 h3 => ?_
  have s3 := s2.trans s3
  refine step_cat T (zs := ["InvalidWord", "InvalidRule"]) (x := x) (p := p3) rfl rfl h3 m (hx.same s3) (by decide) (by decide) fun p4 H4 s4 f4 h4 => ?_
  have s4 := s3.trans s4
  refine step_cat T (zs := ["InvalidText", "Missing"]) (x := x) (p := p4) rfl rfl h4 m (hx.same s4) (by decide) (by decide) fun p5 H5 s5 f5 h5 => ?_
  have s5 := s4.trans s5
  refine step_cat T (zs := ["InvalidName", "TakenName", "UnknownName"]) (x := x) (p := p5) rfl rfl h5 m (hx.same s5) (by decide) (by decide) fun p6 H6 s6 f6 h6 => ?_
  have s6 := s5.trans s6
  have x6 := hx.same s6
  obtain ⟨a6, d6, ex6, z6, z7⟩ := id x6
  refine ⟨x, rfl, a6, _, d6, _, _, _, by rw [ex6], .own _, T.ec m, z6, z7, (T.kits m).1, ?_⟩
  refine ⟨true, rfl, iteF ?_⟩
  refine ⟨x, rfl, a6, _, d6, _, _, _, by rw [ex6], .ty _, T.ec m, z6, z7, (T.kits m).2.1, ?_⟩
  refine ⟨true, rfl, iteF ?_⟩
  refine ⟨15, rfl, by decide, by decide, fun D nD => ?_⟩
  refine lc_range (lo := 0) (n := 15) (fun j H' => ∃ acc, acc = picks (fun j => decide (j = i)) j ∧ Same H6 H' ∧ H' D = some (.lst acc)) ?_ ?_ ?_
  · exact ⟨_, rfl, Same.up nD, upd_same⟩
  · rintro j H' hj ⟨acc, ea, s7, hD⟩
    have s8 := s6.trans s7
    have nl : H6 D = none := nD
    obtain ⟨y, hy⟩ : ∃ y, all15[j]? = some y := ⟨all15[j]'(by have : all15.length = 15 := by decide
                                                              omega), by simp⟩
    have eb := all15_inj hi hy
    refine ⟨rfl, ?_⟩
    refine at_cat T (x := x) (p := p6) (j := j) (b := decide (j = i)) rfl rfl rfl (s7 _ _ h6) m (hx.same s8) (by decide) (by decide) ?_ fun H9 s9 => ?_
    · have e2 : ∀ u : List Str, u = all15 → (bls c u)[j]? = some (.bl (decide (j = i))) := fun u hu => by
        rw [hu]
        unfold bls
        rw [List.getElem?_map, hy, ← eb]
        rfl
      exact e2 _ rfl
    · have hD2 := s9 _ _ hD
      have s10 := s7.trans s9
      have ps := picks_succ (fun j => decide (j = i)) j
      refine ite2 (fun b => ?_) (fun b => ?_)
      · refine ⟨_, rfl, acc, hD2, ?_, _, ?_, same_own s10 nl, upd_same⟩
        · subst ea
          refine lstLt ?_
          unfold picks
          rw [List.length_map]
          refine Nat.le_trans (List.length_filter_le _ _) ?_
          rw [List.length_range]
          omega
        · rw [ps, if_pos b, ea]
          show _ ++ [V.int (0 + (j : Int))] = _
          rw [Int.zero_add]
      · refine ⟨acc, ?_, s10, hD2⟩
        rw [ps, if_neg b, ea]
  · rintro H' ⟨acc, ea, s7, hD⟩
    have hi15 : i < 15 := (List.getElem?_eq_some_iff.mp hi).1
    rw [picks_one 15 hi15] at ea
    refine q D H' (s6.trans s7) (s6.free nD) ?_
    rw [hD, ea]
end
end L2.Fw.K01
namespace L2.Fw.K01
open PySem PySem.Spec PyProof.Rows
/-- es are errors of the fourteen classes with the field g -/
def Errs (K : PySem.W.Frag) (H : Hp) (es : List V) (g : V) : Prop := es.length = 14 ∧ ∀ (i : Nat) (c : Str), exs[i]? = some c → ∃ a d, es[i]? = some (.ref a) ∧ H a = some (exv a (He.ga K c) (some d)) ∧ H d = some (.xd [(fldOf c, g)])
def sp_law_right (K : PySem.W.Frag) : Sp := fun vs H Q _ => ∃ (l : Addr) (es : List V) (g : V) (d : PyData), vs = [.ref l, g] ∧ SqL K H l es ∧ Errs K H es g ∧ Dd K H g d ∧ Fine d ∧ ∀ H', Same H H' → Q (.bl true) H'
theorem len_law_right {K : PySem.W.Frag} {vs : List V} {H : Hp} {Q : VK} {E : XK} (h : sp_law_right K vs H Q E) : vs.length = 2 := by
  obtain ⟨_, _, _, _, rfl, _⟩ := h
  rfl
def t_law_right (K : PySem.W.Frag) (E : XK) : TS :=
  (tSeq (tIfS (tTest (tOp (rNeD K) (tLc (iList K (tVar 0)) (gName 3) tYes (tCallX (sp_law_kinds K) Z0 (tCons (tVar 3) tNil)) [3]) (tLc (iRng1 (tCons (tC (.int 14)) tNil)) (gName 4) tYes (tLst (tCons (tVar 4) tNil)) [4]))) (tRet (tC (.bl false))) tNext)
    (tSeq (tAsg (tOp rCat (tLc (iList K (tSl (rSlL K) (tVar 0) tNoPart (tPart (tC (.int 11))))) (gName 3) tYes (tXfv K "value" (tVar 3)) [3]) (tLc (iList K (tSl (rSlL K) (tVar 0) (tPart (tC (.int 11))) tNoPart)) (gName 3) tYes (tXfv K "name" (tVar 3)) [3])) (gName 2))
    (tRet (tOp rEq (tCB (rRepr K) (tCons (tVar 2) tNil)) (tCB (rRepr K) (tCons (tOp rRep (tLst (tCons (tVar 1) tNil)) (tC (.int 14))) tNil))))))
section
variable {P : Program} {w : World} {K : PySem.W.Frag} {mg : Str → Option Value} {base : Heap} {H H' : Hp} {x g : V} {c y : Str} {p : Addr} {u : HO} {Q : VK} {es : List V}
theorem Errs.same (s : Same H H') (h : Errs K H es g) : Errs K H' es g := ⟨h.1, fun i c e => by
  obtain ⟨a, d, e1, e2, e3⟩ := h.2 i c e
  exact ⟨a, d, e1, s _ _ e2, s _ _ e3⟩⟩
theorem Errs.at {i : Nat} (h : Errs K H es g) (e : es[i]? = some x) : ∃ c, exs[i]? = some c ∧ c ∈ exs ∧ all15[i]? = some c ∧ ErrX K H x c ∧ ∃ a d, x = .ref a ∧ H a = some (exv a (He.ga K c) (some d)) ∧ H d = some (.xd [(fldOf c, g)]) := by
  have hi : i < exs.length := by
    have := (List.getElem?_eq_some_iff.mp e).1
    rw [h.1] at this
    exact this
  have ec : exs[i]? = some exs[i] := by simp
  obtain ⟨a, d, e1, e2, e3⟩ := h.2 i _ ec
  rw [e] at e1
  cases e1
  refine ⟨_, ec, List.getElem_mem hi, ?_, ⟨a, some d, rfl, e2, fun dd q => ?_⟩, a, d, rfl, e2, e3⟩
  · unfold all15
    rw [List.getElem?_append_left hi, ec]
  · cases q
    exact ⟨_, e3⟩
theorem mem15 (h : c ∈ exs) : c ∈ all15 := List.mem_append.mpr (.inl h)
theorem rep_const {n : Nat} : (List.range n).map (fun _ => x) = List.replicate n x := by
  rw [List.map_const', List.length_range]
theorem dd_rep {d : PyData} (h : Dd K H x d) : ∀ n, DdAll K H (List.replicate n x) (List.replicate n d)
  | 0 => .nil
  | n + 1 => .cons h (dd_rep h n)
theorem val11 {i : Nat} (e : exs[i]? = some c) (h : i < 11) : fldOf c = "value" := by
  have : ∀ i : Fin 11, ∀ c, exs[i.1]? = some c → fldOf c = "value" := by decide +kernel
  exact this ⟨i, h⟩ c e
theorem nam3 {i : Nat} (e : exs[i]? = some c) (h : 11 ≤ i) : fldOf c = "name" := by
  have hi : i < 14 := (List.getElem?_eq_some_iff.mp e).1
  obtain ⟨j, rfl⟩ : ∃ j, i = 11 + j := ⟨i - 11, by omega⟩
  have : ∀ j : Fin 3, ∀ c, exs[11 + j.1]? = some c → fldOf c = "name" := by decide +kernel
  exact this ⟨j, by omega⟩ c e
theorem pure_law_right (T : Txt P w K mg base) {vs : List V} {E : XK} (h : sp_law_right K vs H Q E) : t_law_right K E (En Q) (start ["errors", "given", "fields", "error", "at"] vs) H := by
  obtain ⟨l, es, g, d, rfl, hl, he, hg, fi, q⟩ := h
  have l14 : es.length = 14 := he.1
  unfold t_law_right
  refine ⟨_, rfl, _, rfl, ⟨_, hl⟩, fun D nD => ?_⟩
  refine lc_deep nD (xs := es) (fun i => PyData.list [.int i]) hl (by omega) ?_ ?_
  · intro i x H1 R hx s1 ⟨acc, hD⟩ hR
    obtain ⟨c, ec, mc, e15, hex, _⟩ := (he.same s1).at hx
    refine ⟨rfl, ?_⟩
    refine ⟨x, rfl, x, c, i, rfl, e15, hex, fun p H2 s2 np hp => hR _ _ s2 ?_⟩
    have ne : p ≠ D := fun z => by
      rw [z, hD] at np
      cases np
    exact Dd.lst (.of (by rw [del_ne ne]; exact hp)) (.cons (.int _) .nil)
  · intro H1 ys s1 hD hy
    refine ⟨14, rfl, by decide, by decide, fun D2 nD2 => ?_⟩
    refine lc_deepR (K := K) nD2 (lo := 0) (n := 14) (fun i => PyData.list [.int i]) (by decide) ?_ ?_
    · intro i H2 R hi s2 ⟨acc, hD2⟩ hR
      refine ⟨rfl, ?_⟩
      refine ⟨_, rfl, by show 1 ≤ sizeLine; decide, fun p np => hR _ _ (same_new (Same.refl _) np) ?_⟩
      have ne : p ≠ D2 := fun z => by
        rw [z, hD2] at np
        cases np
      have e : ((0 : Int) + (i : Int)) = (i : Int) := by omega
      rw [e]
      exact Dd.lst (.of (by rw [del_ne ne]; exact upd_same)) (.cons (.int _) .nil)
    · intro H2 zs s2 hD2 hz
      have y1 := (Dd.lst (.of (s2 _ _ hD)) ((hy.same del_le).same s2)).dp (by rw [l14]; decide +kernel)
      have y2 := (Dd.lst (.of hD2) (hz.same del_le)).dp (by decide +kernel)
      refine ⟨_, _, y1, y2, by rw [l14]; rfl, rfl, _, rfl, ?_⟩
      have ev : (!PyData.eqv (PyData.list ((List.range es.length).map fun (i : Nat) => PyData.list [.int (i : Int)])) (PyData.list ((List.range 14).map fun (i : Nat) => PyData.list [.int (i : Int)]))) = false := by
        rw [l14]
        decide +kernel
      rw [ev]
      refine iteF ?_
      have s3 := s1.trans s2
      have he2 := he.same s3
      have c11 : cutV es none (some 11) = es.take 11 := by
        unfold cutV HT.sIx
        rw [l14]
        rfl
      have c14 : cutV es (some 11) none = es.drop 11 := by
        unfold cutV HT.sIx
        rw [l14]
        show (es.drop 11).take 3 = _
        exact List.take_of_length_le (by rw [List.length_drop]; omega)
      refine ⟨_, rfl, 11, rfl, _, _, rfl, SqL.fr (fun o e => s3 _ _ e) hl, fun p1 n1 => ⟨_, rfl, ⟨_, .of upd_same⟩, fun D3 nD3 => ?_⟩⟩
      have n3 : D3 ≠ p1 := fun z => by
        rw [z, upd_same] at nD3
        cases nD3
      refine lc_each (K := K) nD3 (xs := es.take 11) (fun _ => g) (.of (by rw [← c11]; exact upd_same)) (by rw [List.length_take]; omega) ?_ ?_
      · intro i x H3 R hx s4 hR
        have hi : i < 11 := by
          have := (List.getElem?_eq_some_iff.mp hx).1
          rw [List.length_take] at this
          omega
        rw [List.getElem?_take_of_lt hi] at hx
        obtain ⟨c, ec, mc, e15, hex, a, dd, ex, h1, h2⟩ := (he2.same ((Same.up n1).trans s4)).at hx
        refine ⟨rfl, ⟨_, rfl, a, _, dd, _, g, ex, T.ec (mem15 mc), by rw [← val11 ec hi]; exact (T.xc c mc).no, h1, h2, ?_, hR _ (Same.refl _)⟩⟩
        rw [val11 ec hi]
        rfl
      · intro H3 s4 hD3
        have s5 := (s3.trans (Same.up n1)).trans s4
        rw [List.length_take, l14] at hD3
        have he3 := he.same s5
        refine ⟨_, rfl, 11, rfl, _, _, rfl, SqL.fr (fun o e => s5 _ _ e) hl, fun p2 n2 => ⟨_, rfl, ⟨_, .of upd_same⟩, fun D4 nD4 => ?_⟩⟩
        refine lc_each (K := K) nD4 (xs := es.drop 11) (fun _ => g) (.of (by rw [← c14]; exact upd_same)) (by rw [List.length_drop]; omega) ?_ ?_
        · intro i x H4 R hx s6 hR
          rw [List.getElem?_drop] at hx
          obtain ⟨c, ec, mc, e15, hex, a, dd, ex, h1, h2⟩ := (he3.same ((Same.up n2).trans s6)).at hx
          refine ⟨rfl, ⟨_, rfl, a, _, dd, _, g, ex, T.ec (mem15 mc), by rw [← nam3 ec (Nat.le_add_right 11 i)]; exact (T.xc c mc).no, h1, h2, ?_, hR _ (Same.refl _)⟩⟩
          rw [nam3 ec (Nat.le_add_right 11 i)]
          rfl
        · intro H4 s6 hD4
          have s7 := (s5.trans (Same.up n2)).trans s6
          rw [List.length_drop, l14] at hD4
          have hD3' := s6 _ _ (kp hD3 n2)
          refine ⟨D3, D4, _, _, rfl, rfl, hD3', hD4, lstLen (by simp), fun p5 n5 => ?_⟩
          have s8 := same_new (u := .lst ((List.range (min 11 14)).map (fun _ => g) ++ (List.range (14 - 11)).map fun _ => g)) s7 n5
          obtain ⟨f1, f2, f3⟩ := fi.rep 14 (by decide)
          have r14 : ((List.range (min 11 14)).map (fun _ => g) ++ (List.range (14 - 11)).map fun _ => g) = List.replicate 14 g := rfl
          have x1 : Dd K (upd H4 p5 (.lst ((List.range (min 11 14)).map (fun _ => g) ++ (List.range (14 - 11)).map fun _ => g))) (.ref p5) (.list (List.replicate 14 d)) :=
            Dd.lst (.of upd_same) (by rw [r14]; exact dd_rep (hg.same (by rw [← r14]; exact s8)) 14)
          refine ⟨_, rfl, _, _, rfl, x1, T.sm, f1, f2, f3, ?_⟩
          refine ⟨_, rfl, lstLen (by show 1 ≤ 1000; decide), fun p6 n6 => ⟨p6, 14, _, rfl, rfl, upd_same, by decide, by decide, lstLen (by show 1 * 14 ≤ 1000; decide), fun p7 n7 => ?_⟩⟩
          have s9 := same_new (u := .lst (List.replicate 14 [g]).flatten) (same_new (u := .lst [g]) s8 n6) n7
          refine ⟨_, _, rfl, Dd.lst (.of upd_same) (by show DdAll K _ (List.replicate 14 g) _; exact dd_rep (hg.same s9) 14), T.sm, f1, f2, f3, ?_⟩
          refine ⟨rfl, ?_⟩
          rw [decide_eq_true rfl]
          exact q _ s9
end
end L2.Fw.K01
namespace L2.Fw.K01
open PySem PySem.Spec PyProof.Rows
/-- xs are errors of the classes cs with the field g -/
def Made (K : PySem.W.Frag) (H : Hp) (cs : List (Str × Str)) (xs : List V) (g : V) : Prop := xs.length = cs.length ∧ ∀ (i : Nat) (c : Str × Str), cs[i]? = some c → ∃ a d, xs[i]? = some (.ref a) ∧ H a = some (exv a (He.ga K c.1) (some d)) ∧ H d = some (.xd [(c.2, g)])
def mkL (mk : Str → Str → TE) : List (Str × Str) → TA
  | [] => tNil
  | c :: cs => tCons (mk c.1 c.2) (mkL mk cs)
abbrev mkP (K : PySem.W.Frag) : Str → Str → TE := fun c f => tMkv (He.ga K c) f (tCons (tVar 0) tNil)
abbrev mkB (K : PySem.W.Frag) : Str → Str → TE := fun c f _ H Q => rMkv (He.ga K c) f .non H Q
/-- what the makers are: at these slots, the error of g -/
def MkG (K : PySem.W.Frag) (mk : Str → Str → TE) (σ : St) (g : V) : Prop := ∀ (c f : Str) (H : Hp) (Q : VK), rMkv (He.ga K c) f g H Q → mk c f σ H Q
def flds : List (Str × Str) := exs.map fun c => (c, fldOf c)
section
variable {P : Program} {w : World} {K : PySem.W.Frag} {mg : Str → Option Value} {base : Heap} {H H' H0 : Hp} {x g : V} {c y : Str} {p : Addr} {u : HO} {Q : VK} {es xs : List V} {cs ds : List (Str × Str)} {σ : St} {mk : Str → Str → TE}
theorem mkG_P (e : σ[0]? = some (some g)) : MkG K (mkP K) σ g := fun c f H Q q => ⟨g, e, g, rfl, q⟩
theorem mkG_B : MkG K (mkB K) σ .non := fun c f H Q q => q
theorem Made.same (s : Same H H') (h : Made K H cs xs g) : Made K H' cs xs g := ⟨h.1, fun i c e => by
  obtain ⟨a, d, e1, e2, e3⟩ := h.2 i c e
  exact ⟨a, d, e1, s _ _ e2, s _ _ e3⟩⟩
theorem Made.nil : Made K H [] [] g := ⟨rfl, fun i c e => by simp at e⟩
theorem Made.append (h : Made K H cs xs g) (k : Made K H ds es g) : Made K H (cs ++ ds) (xs ++ es) g := ⟨by rw [List.length_append, List.length_append, h.1, k.1], fun i c e => by
  by_cases q : i < cs.length
  · rw [List.getElem?_append_left q] at e
    rw [List.getElem?_append_left (by rw [h.1]; exact q)]
    exact h.2 i c e
  · rw [List.getElem?_append_right (by omega)] at e
    rw [List.getElem?_append_right (by rw [h.1]; omega), h.1]
    exact k.2 _ c e⟩
theorem Made.one {a d : Addr} {f : Str} (h1 : H a = some (exv a (He.ga K c) (some d))) (h2 : H d = some (.xd [(f, g)])) : Made K H [(c, f)] [.ref a] g := ⟨rfl, fun i z e => by
  cases i with
  | zero =>
    simp at e
    subst e
    exact ⟨a, d, rfl, h1, h2⟩
  | succ i => simp at e⟩
theorem Made.errs (h : Made K H flds xs g) : Errs K H xs g := ⟨h.1, fun i c e => by
  obtain ⟨a, d, h1, h2, h3⟩ := h.2 i (c, fldOf c) (by unfold flds; rw [List.getElem?_map, e]; rfl)
  exact ⟨a, d, h1, h2, h3⟩⟩
theorem r_mkL (hm : MkG K mk σ g) : ∀ {cs : List (Str × Str)} {H : Hp} {R : List V → Hp → Prop}, (∀ H' xs, Same H H' → Made K H' cs xs g → R xs H') → mkL mk cs σ H R
  | [], H, R, q => q H [] (Same.refl _) .nil
  | (c, f) :: cs, H, R, q => hm c f H _ fun a d na nd ne => r_mkL hm fun H' xs s h => by
      have s1 : Same H (upd (upd H d (.xd [(f, g)])) a (exv a (He.ga K c) (some d))) := same_own (same_new (Same.refl _) nd) na
      have z1 : upd (upd H d (.xd [(f, g)])) a (exv a (He.ga K c) (some d)) d = some (.xd [(f, g)]) := by rw [upd_ne ne, upd_same]
      exact q H' _ (s1.trans s) ((Made.one (s _ _ upd_same) (s _ _ z1)).append h)
theorem mk_lst (hm : MkG K mk σ g) {i : Nat} {t : TS} {D : Ends} (hc : cs.length ≤ 100) (hq : ∀ p H' xs, Same H H' → H p = none → H' p = some (.lst xs) → Made K H' cs xs g → t D (σ.set i (some (.ref p))) H') :
    tSeq (tAsg (tLst (mkL mk cs)) (gName i)) t D σ H := r_mkL hm fun H' xs s h => ⟨lstLen (by rw [h.1]; omega), fun p n => hq p _ xs (same_new s n) (s.free n) upd_same (h.same (same_new (Same.refl _) n))⟩
theorem mk_cat (hm : MkG K mk σ g) {i : Nat} {t : TS} {D : Ends} (e : σ[i]? = some (some (.ref p))) (hp : H p = some (.lst xs)) (h0 : Made K H ds xs g) (hc : cs.length + ds.length ≤ 100)
    (hq : ∀ p H' xs, Same H H' → H p = none → H' p = some (.lst xs) → Made K H' (ds ++ cs) xs g → t D (σ.set i (some (.ref p))) H') :
    tSeq (tAsg (tOp rCat (tVar i) (tLst (mkL mk cs))) (gName i)) t D σ H :=
  ⟨_, e, r_mkL hm fun H' ys s h => ⟨lstLen (by rw [h.1]; omega), fun p2 n2 => ⟨p, p2, xs, ys, rfl, rfl, kp (s _ _ hp) n2, upd_same, lstLen (by rw [h.1, h0.1]; omega), fun p3 n3 =>
    have s3 := same_new (u := .lst (xs ++ ys)) (same_new (u := .lst ys) (Same.refl H') n2) n3
    hq p3 _ _ (s.trans s3) (s.free (up_none n3).1) upd_same ((h0.same (s.trans s3)).append (h.same s3))⟩⟩⟩
theorem mk_ret (hm : MkG K mk σ g) {i : Nat} {D : Ends} (e : σ[i]? = some (some (.ref p))) (hp : H p = some (.lst xs)) (h0 : Made K H ds xs g) (hc : cs.length + ds.length ≤ 100)
    (hq : ∀ p H' xs, Same H H' → H p = none → H' p = some (.lst xs) → Made K H' (ds ++ cs) xs g → D.rt (.ref p) H') :
    tRet (tOp rCat (tVar i) (tLst (mkL mk cs))) D σ H :=
  ⟨_, e, r_mkL hm fun H' ys s h => ⟨lstLen (by rw [h.1]; omega), fun p2 n2 => ⟨p, p2, xs, ys, rfl, rfl, kp (s _ _ hp) n2, upd_same, lstLen (by rw [h.1, h0.1]; omega), fun p3 n3 =>
    have s3 := same_new (u := .lst (xs ++ ys)) (same_new (u := .lst ys) (Same.refl H') n2) n3
    hq p3 _ _ (s.trans s3) (s.free (up_none n3).1) upd_same ((h0.same (s.trans s3)).append (h.same s3))⟩⟩⟩
/-- a new list of the fourteen errors of g -/
def sp_made (K : PySem.W.Frag) : Sp := fun vs H Q _ => ∃ g, vs = [g] ∧ ∀ p H' xs, Same H H' → H p = none → H' p = some (.lst xs) → Errs K H' xs g → Q (.ref p) H'
def sp_law_bare (K : PySem.W.Frag) : Sp := fun vs H Q _ => vs = [] ∧ ∀ p H' xs, Same H H' → H p = none → H' p = some (.lst xs) → Errs K H' xs .non → Q (.ref p) H'
theorem len_made {vs : List V} {E : XK} (h : sp_made K vs H Q E) : vs.length = 1 := by
  obtain ⟨_, rfl, _⟩ := h
  rfl
theorem len_law_bare {vs : List V} {E : XK} (h : sp_law_bare K vs H Q E) : vs.length = 0 := by
  obtain ⟨rfl, _⟩ := h
  rfl

def t_law_placed (K : PySem.W.Frag) (E : XK) : TS :=
  (tSeq (tAsg (tLst (mkL (mkP K) [("InvalidNumber", "value"), ("InvalidList", "value"), ("InvalidItem", "value"), ("InvalidShop", "value"), ("InvalidThing", "value")])) (gName 1))
    (tSeq (tAsg (tOp rCat (tVar 1) (tLst (mkL (mkP K) [("InvalidTicks", "value"), ("InvalidStore", "value"), ("InvalidWord", "value"), ("InvalidRule", "value")]))) (gName 1))
    (tRet (tOp rCat (tVar 1) (tLst (mkL (mkP K) [("InvalidText", "value"), ("Missing", "value"), ("InvalidName", "name"), ("TakenName", "name"), ("UnknownName", "name")]))))))
def t_law_named (K : PySem.W.Frag) (E : XK) : TS :=
  (tSeq (tAsg (tLst (mkL (mkP K) [("InvalidNumber", "value"), ("InvalidList", "value"), ("InvalidItem", "value"), ("InvalidShop", "value")])) (gName 1))
    (tSeq (tAsg (tOp rCat (tVar 1) (tLst (mkL (mkP K) [("InvalidThing", "value"), ("InvalidTicks", "value"), ("InvalidStore", "value")]))) (gName 1))
    (tSeq (tAsg (tOp rCat (tVar 1) (tLst (mkL (mkP K) [("InvalidWord", "value"), ("InvalidRule", "value"), ("InvalidText", "value")]))) (gName 1))
    (tRet (tOp rCat (tVar 1) (tLst (mkL (mkP K) [("Missing", "value"), ("InvalidName", "name"), ("TakenName", "name"), ("UnknownName", "name")])))))))
def t_law_bare (K : PySem.W.Frag) (E : XK) : TS :=
  (tSeq (tAsg (tLst (mkL (mkB K) [("InvalidNumber", "value"), ("InvalidList", "value"), ("InvalidItem", "value"), ("InvalidShop", "value"), ("InvalidThing", "value"), ("InvalidTicks", "value")])) (gName 0))
    (tSeq (tAsg (tOp rCat (tVar 0) (tLst (mkL (mkB K) [("InvalidStore", "value"), ("InvalidWord", "value"), ("InvalidRule", "value"), ("InvalidText", "value"), ("Missing", "value")]))) (gName 0))
    (tRet (tOp rCat (tVar 0) (tLst (mkL (mkB K) [("InvalidName", "name"), ("TakenName", "name"), ("UnknownName", "name")]))))))
theorem flds_eq : flds = ([(Str.ofString "InvalidNumber", Str.ofString "value"), (Str.ofString "InvalidList", Str.ofString "value"), (Str.ofString "InvalidItem", Str.ofString "value"), (Str.ofString "InvalidShop", Str.ofString "value"), (Str.ofString "InvalidThing", Str.ofString "value"), (Str.ofString "InvalidTicks", Str.ofString "value"), (Str.ofString "InvalidStore", Str.ofString "value"), (Str.ofString "InvalidWord", Str.ofString "value"), (Str.ofString "InvalidRule", Str.ofString "value"), (Str.ofString "InvalidText", Str.ofString "value"), (Str.ofString "Missing", Str.ofString "value"), (Str.ofString "InvalidName", Str.ofString "name"), (Str.ofString "TakenName", Str.ofString "name"), (Str.ofString "UnknownName", Str.ofString "name")] : List (Str × Str)) := by decide +kernel
theorem pure_law_placed {vs : List V} {E : XK} (h : sp_made K vs H Q E) : t_law_placed K E (En Q) (start ["given", "found"] vs) H := by
  obtain ⟨g, rfl, q⟩ := h
  unfold t_law_placed
  refine mk_lst (g := g) (mkG_P rfl) (by decide) fun p1 H1 xs1 s1 f1 h1 m1 => ?_
  refine mk_cat (g := g) (mkG_P rfl) rfl h1 m1 (by decide) fun p2 H2 xs2 r2 f2 h2 m2 => ?_
  have s2 := s1.trans r2
  refine mk_ret (g := g) (mkG_P rfl) rfl h2 m2 (by decide) fun p9 H9 xs9 r9 f9 h9 m9 => ?_
  exact q p9 H9 xs9 (s2.trans r9) (s2.free f9) h9 (Made.errs (by rw [flds_eq]; exact m9))
theorem pure_law_named {vs : List V} {E : XK} (h : sp_made K vs H Q E) : t_law_named K E (En Q) (start ["given", "found"] vs) H := by
  obtain ⟨g, rfl, q⟩ := h
  unfold t_law_named
  refine mk_lst (g := g) (mkG_P rfl) (by decide) fun p1 H1 xs1 s1 f1 h1 m1 => ?_
  refine mk_cat (g := g) (mkG_P rfl) rfl h1 m1 (by decide) fun p2 H2 xs2 r2 f2 h2 m2 => ?_
  have s2 := s1.trans r2
  refine mk_cat (g := g) (mkG_P rfl) rfl h2 m2 (by decide) fun p3 H3 xs3 r3 f3 h3 m3 => ?_
  have s3 := s2.trans r3
  refine mk_ret (g := g) (mkG_P rfl) rfl h3 m3 (by decide) fun p9 H9 xs9 r9 f9 h9 m9 => ?_
  exact q p9 H9 xs9 (s3.trans r9) (s3.free f9) h9 (Made.errs (by rw [flds_eq]; exact m9))
theorem pure_law_bare {vs : List V} {E : XK} (h : sp_law_bare K vs H Q E) : t_law_bare K E (En Q) (start ["found"] vs) H := by
  obtain ⟨rfl, q⟩ := h
  unfold t_law_bare
  refine mk_lst (g := .non) mkG_B (by decide) fun p1 H1 xs1 s1 f1 h1 m1 => ?_
  refine mk_cat (g := .non) mkG_B rfl h1 m1 (by decide) fun p2 H2 xs2 r2 f2 h2 m2 => ?_
  have s2 := s1.trans r2
  refine mk_ret (g := .non) mkG_B rfl h2 m2 (by decide) fun p9 H9 xs9 r9 f9 h9 m9 => ?_
  exact q p9 H9 xs9 (s2.trans r9) (s2.free f9) h9 (Made.errs (by rw [flds_eq]; exact m9))
end
end L2.Fw.K01
namespace L2.Fw.K01
open PySem PySem.Spec PyProof.Rows
def t_chk (K : PySem.W.Frag) : TS :=
  tIfS (tOr (tNot (tB (tCallX (sp_law_right K) Z0 (tCons (tVar 4) (tCons (tVar 3) tNil))))) (tNot (tB (tCallX (sp_law_right K) Z0 (tCons (tVar 5) (tCons (tVar 3) tNil)))))) (tRet (tC (.bl false))) tNext
def t_mid (K : PySem.W.Frag) (t : TS) : TS :=
  tSeq (tIfS (tB (tCB (rIsi K) (tCons (tVar 3) (tCons (tC (.ty "list")) tNil)))) (tDrop (tBM K "list" rAppend (tVar 3) (tCons (tC (.str "more")) tNil))) tNext)
    (tSeq (tIfS (tB (tCB (rIsi K) (tCons (tVar 3) (tCons (tC (.ty "dict")) tNil)))) (sDPut (tVar 3) (tC (.str "more")) (tLst (tCons (tC (.int 1)) tNil))) tNext) t)
def t_body (K : PySem.W.Frag) : TS :=
  tSeq (tPar 4 5 (tCons (tCallX (sp_made K) Z0 (tCons (tVar 3) tNil)) (tCons (tCallX (sp_made K) Z0 (tCons (tVar 3) tNil)) tNil))) (tSeq (t_chk K) (t_mid K (t_chk K)))
section
variable {P : Program} {w : World} {K : PySem.W.Frag} {mg : Str → Option Value} {base : Heap} {H H' H0 H1 H2 : Hp} {x g v : V} {c y : Str} {p q f s l : Addr} {u : HO} {Q : VK} {es fs xs : List V} {d d' : PyData} {σ : St} {D : Ends} {t : TS} {kvs : List (Key × V)}
theorem chk_ok (e3 : σ[3]? = some (some v)) (e4 : σ[4]? = some (some (.ref f))) (e5 : σ[5]? = some (some (.ref s))) (hf : H f = some (.lst es)) (hs : H s = some (.lst fs)) (he : Errs K H es v) (h2 : Errs K H fs v) (hd : Dd K H v d) (fi : Fine d)
    (q : ∀ H', Same H H' → D.nx σ H') : t_chk K D σ H := by
  refine ⟨_, e4, _, e3, f, es, v, d, rfl, .of hf, he, hd, fi, fun H1 s1 => ⟨true, rfl, ?_⟩⟩
  refine iteF ?_
  refine ⟨_, e5, _, e3, s, fs, v, d, rfl, .of (s1 _ _ hs), h2.same s1, hd.same s1, fi, fun H2 s2 => ⟨true, rfl, ?_⟩⟩
  exact iteF (q H2 (s1.trans s2))
/-- what may change at p: a list or a dict stands there -/
def Box (H : Hp) (p : Addr) : Prop := (∃ xs, H p = some (.lst xs)) ∨ ∃ kvs, H p = some (.dK kvs)
/-- all but what stands at m -/
def Kept (m : Option Addr) (H H' : Hp) : Prop := ∀ a o, H a = some o → m ≠ some a → H' a = some o
theorem Kept.of (s : Same H H') (m : Option Addr) : Kept m H H' := fun a o e _ => s a o e
theorem Errs.kept {m : Option Addr} (h : Errs K H es g) (b : ∀ p, m = some p → Box H p) (k : Kept m H H') : Errs K H' es g := ⟨h.1, fun i c e => by
  obtain ⟨a, d, e1, e2, e3⟩ := h.2 i c e
  refine ⟨a, d, e1, k _ _ e2 fun z => ?_, k _ _ e3 fun z => ?_⟩
  · rcases b _ z with ⟨xs, z⟩ | ⟨xs, z⟩ <;> (rw [e2] at z; cases z)
  · rcases b _ z with ⟨xs, z⟩ | ⟨xs, z⟩ <;> (rw [e3] at z; cases z)⟩
/-- what the middle does to v -/
def Mid (K : PySem.W.Frag) (H : Hp) (v : V) (m : Option Addr) (d' : PyData) : Prop := (∀ p, m = some p → Box H p) ∧ ∀ (H1 : Hp) (D : Ends) (σ : St) (t : TS), Same H H1 → σ[3]? = some (some v) → (∀ H2, Kept m H1 H2 → Dd K H2 v d' → t D σ H2) → t_mid K t D σ H1
theorem mid_none {ty : Value} (ht : ∀ H', Same H H' → TyX K H' v ty) (k1 : PySem.W.kitOne K ty (.type "list") = some false) (k2 : PySem.W.kitOne K ty (.type "dict") = some false) (hd : Dd K H v d) : Mid K H v none d :=
  ⟨fun p e => (by cases e), fun H1 D σ t s e3 q => by
    refine ⟨_, e3, v, _, ty, _, false, rfl, .ty _, ht H1 s, k1, ⟨_, rfl, iteF ?_⟩⟩
    refine ⟨_, e3, v, _, ty, _, false, rfl, .ty _, ht H1 s, k2, ⟨_, rfl, iteF ?_⟩⟩
    exact q H1 (.of (Same.refl _) _) (hd.same s)⟩
theorem mid_lst {ds : List PyData} (hp : H p = some (.lst xs)) (hl : xs.length ≤ 100) (hd : ∀ H', Kept (some p) H H' → DdAll K H' xs ds) : Mid K H (.ref p) (some p) (.list (ds ++ [.str "more"])) :=
  ⟨fun p' e => by cases e; exact .inl ⟨_, hp⟩, fun H1 D σ t s e3 q => by
    have k1 := s _ _ hp
    refine ⟨_, e3, _, _, _, _, true, rfl, .ty _, .base (.lst k1), rfl, ⟨_, rfl, iteT ?_⟩⟩
    refine ⟨_, e3, .inl ⟨rfl, xs, .of k1⟩, p, xs, _, rfl, rfl, k1, lstLt (by omega), ?_⟩
    refine ⟨_, e3, _, _, _, _, false, rfl, .ty _, .base (.lst upd_same), rfl, ⟨_, rfl, iteF ?_⟩⟩
    have kk : Kept (some p) H1 (upd H1 p (.lst (xs ++ [.str "more"]))) := fun a o e ne => by rw [upd_ne (fun z => ne (by rw [z]))]; exact e
    refine q _ kk (Dd.lst (.of upd_same) ?_)
    exact (hd _ fun a o e ne => kk a o (s a o e) ne).snoc (.str _)⟩
def DctAll (K : PySem.W.Frag) (H : Hp) (kvs : List (Key × V)) (es : List (PyData × PyData)) : Prop := kvs.map (fun p => keyD p.1) = es.map (·.1) ∧ DdAll K H (kvs.map (·.2)) (es.map (·.2))
theorem Dd.dct {es : List (PyData × PyData)} (hs : H p = some (.dK kvs)) (h : DctAll K H kvs es) : Dd K H (.ref p) (.dict es) := Dn.dct trivial hs h.1 fun i a e e1 e2 => h.2.2 i _ _ (by rw [List.getElem?_map, e1]; rfl) (by rw [List.getElem?_map, e2]; rfl)
theorem mid_dct {es : List (PyData × PyData)} (hp : H p = some (.dK kvs)) (hl : kvs.length ≤ 100) (hk : ∀ z, putK kvs (.inr "more") z = kvs ++ [(.inr "more", z)]) (hd : ∀ H', Kept (some p) H H' → DctAll K H' kvs es) :
    Mid K H (.ref p) (some p) (.dict (es ++ [(.str "more", .list [.int 1])])) :=
  ⟨fun p' e => by cases e; exact .inr ⟨_, hp⟩, fun H1 D σ t s e3 q => by
    have k1 := s _ _ hp
    refine ⟨_, e3, _, _, _, _, false, rfl, .ty _, .base (.dK k1), rfl, ⟨_, rfl, iteF ?_⟩⟩
    refine ⟨_, e3, _, _, _, _, true, rfl, .ty _, .base (.dK k1), rfl, ⟨_, rfl, iteT ?_⟩⟩
    refine ⟨lstLen (by show 1 ≤ 1000; decide), fun r nr => ⟨_, e3, p, _, rfl, DPut.k (k := .inr "more") (kp k1 nr) (lstLt (by omega)), ?_⟩⟩
    have ne : r ≠ p := fun z => by
      rw [z, k1] at nr
      cases nr
    have kk : Kept (some p) H1 (upd (upd H1 r (.lst [.int 1])) p (.dK (putK kvs (.inr "more") (.ref r)))) := fun a o e n => by
      rw [upd_ne (fun z => n (by rw [z]))]
      exact kp e nr
    refine q _ kk (Dd.dct upd_same ?_)
    rw [hk]
    obtain ⟨d1, d2⟩ := hd _ fun a o e n => kk a o (s a o e) n
    rw [hk] at d2
    refine ⟨by rw [List.map_append, List.map_append, d1]; rfl, ?_⟩
    rw [List.map_append, List.map_append]
    refine d2.snoc (Dd.lst (.of ?_) (.cons (.int 1) .nil))
    rw [upd_ne ne, upd_same]⟩
theorem body_ok {m : Option Addr} {a0 a1 a2 a4 a5 : Option V} (hv : Dd K H v d) (fi : Fine d) (fi' : Fine d') (b : Mid K H v m d') (nx : ∀ f s H', Kept m H H' → D.nx [a0, a1, a2, some v, some f, some s] H') : t_body K D [a0, a1, a2, some v, a4, a5] H := by
  refine ⟨_, rfl, v, rfl, fun p1 H1 es s1 n1 h1 e1 => ?_⟩
  refine ⟨_, rfl, v, rfl, fun p2 H2 fs s2 n2 h2 e2 => ⟨_, _, rfl, ?_⟩⟩
  refine chk_ok (v := v) (f := p1) (s := p2) rfl rfl rfl (s2 _ _ h1) h2 (e1.same s2) e2 (hv.same (s1.trans s2)) fi fun H3 s3 => ?_
  have s03 := (s1.trans s2).trans s3
  have bx : ∀ p, m = some p → Box H3 p := fun p e => by
    rcases b.1 p e with ⟨xs, z⟩ | ⟨xs, z⟩
    · exact .inl ⟨xs, s03 _ _ z⟩
    · exact .inr ⟨xs, s03 _ _ z⟩
  have nb : ∀ p, m = some p → H p ≠ none := fun p e => by
    rcases b.1 p e with ⟨xs, z⟩ | ⟨xs, z⟩ <;> (rw [z]; simp)
  refine b.2 H3 _ _ _ s03 rfl fun H4 k4 d4 => ?_
  have z1 : H4 p1 = some (.lst es) := k4 _ _ (s3 _ _ (s2 _ _ h1)) fun e => nb _ e n1
  have z2 : H4 p2 = some (.lst fs) := k4 _ _ (s3 _ _ h2) fun e => nb _ e (s1.free n2)
  refine chk_ok (v := v) (f := p1) (s := p2) rfl rfl rfl z1 z2 ((e1.same (s2.trans s3)).kept bx k4) ((e2.same s3).kept bx k4) d4 fi' fun H5 s5 => ?_
  exact nx _ _ H5 fun a o e n => s5 _ _ (k4 _ _ (s03 _ _ e) n)
end
end L2.Fw.K01
namespace L2.Fw.K01
open PySem PySem.Spec PyProof.Rows
theorem int_wt {i : Int} (h : i.natAbs < 10 ^ 12) : (PyData.int i).weight ≤ 40 ∧ i.natAbs.log2 < 1920 := by
  simp only [PyData.weight]
  by_cases e : i.natAbs = 0
  · rw [e]
    have : i = 0 := Int.natAbs_eq_zero.mp e
    subst this
    decide
  · have z := (Nat.log2_lt e).mpr (Nat.lt_of_lt_of_le h (by decide : 10 ^ 12 ≤ 2 ^ 40))
    refine ⟨?_, by omega⟩
    split <;> omega
theorem fine_int {i : Int} (h : i.natAbs < 10 ^ 12) : Fine (.int i) := ⟨decide_eq_true (PyData.shown_int_le h), decide_eq_true (int_wt h).2, Nat.zero_le _, Nat.le_trans (int_wt h).1 (by decide)⟩
theorem fine_dctA {i : Int} (h : i.natAbs < 10 ^ 12) : Fine (.dict [(.str "a", .list [.int i])]) := by
  obtain ⟨h1, h2, _, _⟩ := fine_int h
  refine ⟨?_, ?_, ?_, ?_⟩
  · simp only [PyData.leavesShort, PyData.leavesShortAll, PyData.leavesShortKv] at h1 ⊢
    rw [h1]
    decide +kernel
  · simp only [PyData.showable, PyData.showableAll, PyData.showableKv] at h2 ⊢
    rw [h2]
    rfl
  · simp only [PyData.depth, PyData.depthAll, PyData.depthKv]
    decide
  · have z := (int_wt h).1
    simp only [PyData.weight, PyData.weightAll, PyData.weightKv] at z ⊢
    have e : (Str.ofString "a").cps.size = 1 := rfl
    omega
theorem fine_dctB {i : Int} (h : i.natAbs < 10 ^ 12) : Fine (.dict ([(.str "a", .list [.int i])] ++ [(.str "more", .list [.int 1])])) := by
  obtain ⟨h1, h2, _, _⟩ := fine_int h
  refine ⟨?_, ?_, ?_, ?_⟩
  · simp only [List.cons_append, List.nil_append, PyData.leavesShort, PyData.leavesShortAll, PyData.leavesShortKv] at h1 ⊢
    rw [h1]
    decide +kernel
  · simp only [List.cons_append, List.nil_append, PyData.showable, PyData.showableAll, PyData.showableKv] at h2 ⊢
    rw [h2]
    rfl
  · simp only [List.cons_append, List.nil_append, PyData.depth, PyData.depthAll, PyData.depthKv]
    decide
  · have z := (int_wt h).1
    simp only [List.cons_append, List.nil_append, PyData.weight, PyData.weightAll, PyData.weightKv] at z ⊢
    have e : (Str.ofString "a").cps.size = 1 := rfl
    have e2 : (Str.ofString "more").cps.size = 4 := rfl
    have e3 : (if ((1 : Int) == 0) = true then 0 else (Int.natAbs 1).log2 + 1) = 1 := by decide +kernel
    omega
/-- all the parts by one look -/
theorem fine_of {d : PyData} (h : (d.leavesShort 13 && d.showable && decide (d.depth ≤ 10) && decide (d.weight ≤ 1000)) = true) : Fine d := by
  simp only [Bool.and_eq_true, decide_eq_true_eq] at h
  exact ⟨h.1.1.1, h.1.1.2, h.1.2, h.2⟩
def sp_law (K : PySem.W.Frag) : Sp := fun vs H Q _ => ∃ (l : Addr) (ns : List Int), vs = [.ref l] ∧ SqL K H l (ns.map V.int) ∧ ∀ H', Q (.bl true) H'
theorem len_law {K : PySem.W.Frag} {vs : List V} {H : Hp} {Q : VK} {E : XK} (h : sp_law K vs H Q E) : vs.length = 1 := by
  obtain ⟨_, _, rfl, _⟩ := h
  rfl
/-- the thirteen values -/
def t_vals : TA :=
  tCons (tVar 1) (tCons (tOp rSubI (tC (.int 0)) (tVar 1)) (tCons (tTup (tCons (tC (.int 1)) (tCons (tC (.int 2)) tNil))) (tCons (tTup tNil) (tCons (tLst (tCons (tC (.int 1)) tNil)) (tCons (tLst tNil) (tCons tDNewK
    (tCons (tDisp [(tC (.str "a"), tLst (tCons (tVar 1) tNil))]) (tCons (tC (.str "a b")) (tCons (tC (.str "")) (tCons (tC (.bl true)) (tCons (tC .non) (tCons (tTup (tCons (tC (.str "f")) (tCons (tC (.int 2)) tNil))) tNil))))))))))))
/-- the values as they stand at first -/
structure Vals13 (H : Hp) (m : Int) (t1 t2 l1 l2 d1 d2 lm t3 : Addr) : Prop where
  h_t1 : H t1 = some (.tup [.int 1, .int 2])
  h_t2 : H t2 = some (.tup [])
  h_l1 : H l1 = some (.lst [.int 1])
  h_l2 : H l2 = some (.lst [])
  h_d1 : H d1 = some (.dK [])
  h_d2 : H d2 = some (.dK [(.inr "a", .ref lm)])
  h_lm : H lm = some (.lst [.int m])
  h_t3 : H t3 = some (.tup [.str "f", .int 2])
  n1 : lm ≠ l1
  n2 : lm ≠ l2
abbrev vals13 (m : Int) (t1 t2 l1 l2 d1 d2 t3 : Addr) : List V := [.int m, .int (0 - m), .ref t1, .ref t2, .ref l1, .ref l2, .ref d1, .ref d2, .str "a b", .str "", .bl true, .non, .ref t3]
theorem vals_ok {σ : St} {H : Hp} {R : List V → Hp → Prop} {m : Int} (e : σ[1]? = some (some (.int m)))
    (q : ∀ H' t1 t2 l1 l2 d1 d2 lm t3, Same H H' → Vals13 H' m t1 t2 l1 l2 d1 d2 lm t3 → H l1 = none → H l2 = none → H d1 = none → H d2 = none → R (vals13 m t1 t2 l1 l2 d1 d2 t3) H') : t_vals σ H R := by
  refine ⟨_, e, _, e, _, _, rfl, rfl, ?_⟩
  refine ⟨lstLen (by show 2 ≤ 1000; decide), fun t1 n1 => ⟨lstLen (by show 0 ≤ 1000; decide), fun t2 n2 => ⟨lstLen (by show 1 ≤ 1000; decide), fun l1 n3 => ⟨lstLen (by show 0 ≤ 1000; decide), fun l2 n4 => fun d1 n5 => fun d2 n6 => ?_⟩⟩⟩⟩
  refine ⟨_, e, lstLen (by show 1 ≤ 1000; decide), fun lm n7 => ?_⟩
  have n7' := up_none n7
  refine ⟨kp upd_same n7, [(.inr "a", .ref lm)], rfl, by show 1 ≤ 15; decide, ?_⟩
  refine ⟨lstLen (by show 2 ≤ 1000; decide), fun t3 n8 => ?_⟩
  have sa := Same.up (u := .tup [.int 1, .int 2]) n1
  have sb := Same.up (u := .tup []) n2
  have sc := Same.up (u := .lst [.int 1]) n3
  have sd := Same.up (u := .lst []) n4
  have se := Same.up (u := .dK []) n5
  have sf := same_own (u := .dK (mergeK [] [(.inr "a", .ref lm)])) (same_new (u := .lst [.int m]) (Same.up (u := .dK []) n6) n7) n6
  have sg := Same.up (u := .tup [.str "f", .int 2]) n8
  have h7 := sf.trans sg
  have h5 := se.trans h7
  have h4 := sd.trans h5
  have h3 := sc.trans h4
  have h2 := sb.trans h3
  refine q _ t1 t2 l1 l2 d1 d2 lm t3 (sa.trans h2) ⟨h2 _ _ upd_same, h3 _ _ upd_same, h4 _ _ upd_same, h5 _ _ upd_same, h7 _ _ upd_same, sg _ _ upd_same, sg _ _ ?_, upd_same, fun z => ?_, fun z => ?_⟩
    ((sa.trans sb).free n3) ((sa.trans (sb.trans sc)).free n4) ((sa.trans (sb.trans (sc.trans sd))).free n5) ((sa.trans (sb.trans (sc.trans (sd.trans se)))).free n6)
  · rw [upd_ne n7'.2, upd_same]
  · exact ne_of_none ((sd.trans se) _ _ upd_same) n7'.1 z.symm
  · exact ne_of_none (se _ _ upd_same) n7'.1 z.symm
end L2.Fw.K01
namespace L2.Fw.K01
open PySem PySem.Spec PyProof.Rows
def t_last (K : PySem.W.Frag) : TS :=
  tSeq (tIfS (tOr (tNot (tB (tCallX (sp_law_right K) Z0 (tCons (tOp (rIx K) (tVar 2) (tC (.int 0))) (tCons (tVar 1) tNil))))) (tOr (tNot (tB (tCallX (sp_law_right K) Z0 (tCons (tOp (rIx K) (tVar 2) (tC (.int 1))) (tCons (tC (.str "elder")) tNil)))))
    (tNot (tB (tCallX (sp_law_right K) Z0 (tCons (tCallX (sp_law_bare K) Z0 tNil) (tCons (tC .non) tNil))))))) (tRet (tC (.bl false))) tNext)
    (tRet (tOp (rEqD K) (tCallX (sp_law_kinds K) Z0 (tCons (tMkn (He.ga K "NothingToUndo")) tNil)) (tLst (tCons (tC (.int 14)) tNil))))
def t_law (K : PySem.W.Frag) (E : XK) : TS :=
  tSeq (tAsg (tCallX (sp_law_random K) Z0 (tCons (tCallX (sp_law_generator K) Z0 (tCons (tVar 0) (tCons (tC (.int 0)) tNil))) (tCons (tOp rPowI (tC (.int 10)) (tC (.int 12))) tNil))) (gName 1))
    (tSeq (tAsg (tLst (tCons (tCallX (sp_made K) Z0 (tCons (tVar 1) tNil)) (tCons (tCallX (sp_made K) Z0 (tCons (tC (.str "elder")) tNil)) tNil))) (gName 2))
    (tSeq (tFor (iList K (tLst t_vals)) (gName 3) (t_body K)) (t_last K)))
section
variable {P : Program} {w : World} {K : PySem.W.Frag} {mg : Str → Option Value} {base : Heap} {H H' H0 H1 H2 : Hp} {x g v : V} {c y : Str} {p q f s l : Addr} {u : HO} {Q : VK} {es fs xs : List V} {d d' : PyData} {σ : St} {D : Ends} {t : TS} {kvs : List (Key × V)}
theorem last_ok {m : Int} {e0 e1 el : Addr} (hm : m.natAbs < 10 ^ 12) (v1 : σ[1]? = some (some (.int m))) (v2 : σ[2]? = some (some (.ref el))) (hl : H el = some (.lst [.ref e0, .ref e1])) (h0 : H e0 = some (.lst es)) (h1 : H e1 = some (.lst fs))
    (r0 : Errs K H es (.int m)) (r1 : Errs K H fs (.str "elder")) (q : ∀ H', D.rt (.bl true) H') : t_last K D σ H := by
  refine ⟨_, v2, .inl ⟨el, _, 0, .ref e0, rfl, rfl, .of hl, rfl, _, v1, e0, es, _, _, rfl, .of h0, r0, .int m, fine_int hm, fun H1 s1 => ⟨true, rfl, ?_⟩⟩⟩
  refine iteF ?_
  refine ⟨_, v2, .inl ⟨el, _, 1, .ref e1, rfl, rfl, .of (s1 _ _ hl), rfl, e1, fs, _, _, rfl, .of (s1 _ _ h1), r1.same s1, .str _, fine_of (by decide +kernel), fun H2 s2 => ⟨true, rfl, ?_⟩⟩⟩
  refine iteF ?_
  refine ⟨rfl, fun p H3 xs s3 np hp hx => ⟨p, xs, _, _, rfl, .of hp, hx, .non, fine_of (by decide +kernel), fun H4 s4 => ⟨true, rfl, ?_⟩⟩⟩
  refine iteF ?_
  intro a na
  refine ⟨_, "NothingToUndo", 14, rfl, by decide +kernel, ⟨a, none, rfl, upd_same, fun dd z => by cases z⟩, fun p2 H5 s5 n5 h5 => ?_⟩
  refine ⟨lstLen (by show 1 ≤ 1000; decide), fun p3 n3 => ?_⟩
  refine ⟨.list [.int 14], .list [.int 14], (Dd.lst (.of (kp h5 n3)) (.cons (.int _) .nil)).dp (by decide +kernel), (Dd.lst (.of upd_same) (.cons (.int _) .nil)).dp (by decide +kernel), by decide +kernel, by decide +kernel, ?_⟩
  have e : PyData.eqv (.list [.int 14]) (.list [.int 14]) = true := by decide +kernel
  rw [e]
  exact q _
theorem for_lst {ta : TA} {gt : TG} {tb : TS} (h : ta σ H fun xs H1 => xs.length ≤ sizeLine ∧ ∀ p, H1 p = none → ∃ a, V.ref p = .ref a ∧ (∃ ys, SqL K (upd H1 p (.lst xs)) a ys) ∧ tFor (fun _ H R => R (Itl K a) H) gt tb { D with nx := t D } σ (upd H1 p (.lst xs))) :
    tSeq (tFor (iList K (tLst ta)) gt tb) t D σ H := h
theorem for_vals {m : Int} {gt : TG} {tb : TS} (e : σ[1]? = some (some (.int m)))
    (q : ∀ H' t1 t2 l1 l2 d1 d2 lm t3 G, Same H H' → Vals13 H' m t1 t2 l1 l2 d1 d2 lm t3 → H l1 = none → H l2 = none → H d1 = none → H d2 = none → H' G = some (.lst (vals13 m t1 t2 l1 l2 d1 d2 t3)) → l1 ≠ G → l2 ≠ G → d1 ≠ G → d2 ≠ G →
      tFor (fun _ H R => R (Itl K G) H) gt tb { D with nx := t D } σ H') : tSeq (tFor (iList K (tLst t_vals)) gt tb) t D σ H := by
  refine for_lst ?_
  exact vals_ok (m := m) e fun HF t1 t2 l1 l2 d1 d2 lm t3 sF V k1 k2 k3 k4 => ⟨lstLen (by show 13 ≤ 1000; decide), fun G nG =>
    have sG := Same.up (u := .lst (vals13 m t1 t2 l1 l2 d1 d2 t3)) nG
    ⟨G, rfl, ⟨_, .of upd_same⟩, q _ t1 t2 l1 l2 d1 d2 lm t3 G (sF.trans sG) ⟨sG _ _ V.h_t1, sG _ _ V.h_t2, sG _ _ V.h_l1, sG _ _ V.h_l2, sG _ _ V.h_d1, sG _ _ V.h_d2, sG _ _ V.h_lm, sG _ _ V.h_t3, V.n1, V.n2⟩
      k1 k2 k3 k4 upd_same (ne_of_none V.h_l1 nG) (ne_of_none V.h_l2 nG) (ne_of_none V.h_d1 nG) (ne_of_none V.h_d2 nG)⟩⟩
theorem pure_law {vs : List V} {E : XK} (h : sp_law K vs H Q E) : t_law K E (En Q) (start ["script", "mark", "elder", "given", "first", "second"] vs) H := by
  obtain ⟨l, ns, rfl, hl, q⟩ := h
  unfold t_law
  refine ⟨_, rfl, l, ns, 0, rfl, hl, by decide, by decide, fun pg a b ng a0 a1 b0 b1 => ?_⟩
  refine ⟨_, _, rfl, rfl, ⟨by decide, by decide +kernel⟩, pg, a, b, _, _, rfl, upd_same, a0, a1, b0, b1, by decide, by decide, by decide, by decide, fun m a' c' m0 m1 _ _ _ _ => ?_⟩
  have hm : m.natAbs < 10 ^ 12 := by
    have e : (10 : Int) ^ (12 : Int).toNat = 1000000000000 := by decide
    rw [e] at m1
    omega
  generalize upd _ pg (.lst [.int a', .int b, .int c']) = HA
  refine ⟨_, rfl, _, rfl, fun e0 HB es sB n0 h0 r0 => ?_⟩
  refine ⟨_, rfl, fun e1 HC fs sC n1 h1 r1 => ⟨lstLen (by show 2 ≤ 1000; decide), fun el nE => ?_⟩⟩
  have sE := Same.up (u := .lst [.ref e0, .ref e1]) nE
  have h0' := sE _ _ (sC _ _ h0)
  have h1' := sE _ _ h1
  have r0' := (r0.same sC).same sE
  have r1' := r1.same sE
  have hE : upd HC el (.lst [.ref e0, .ref e1]) el = some (.lst [.ref e0, .ref e1]) := upd_same
  generalize upd HC el (.lst [.ref e0, .ref e1]) = HD at h0' h1' r0' r1' hE
  refine for_vals (m := m) rfl fun HG t1 t2 l1 l2 d1 d2 lm t3 G sDG W k1 k2 k3 k4 hG g1 g2 g3 g4 => ?_
  obtain ⟨w1, w2, w3, w4, w5, w6, w7, w8, m1, m2⟩ := W
  refine for_list (xs := vals13 m t1 t2 l1 l2 d1 d2 t3) (fun i σ H => (∃ g f s, σ = [some (.ref l), some (.int m), some (.ref el), g, f, s]) ∧
    ∀ a o, HG a = some o → (a = l1 → i ≤ 4) → (a = l2 → i ≤ 5) → (a = d1 → i ≤ 6) → (a = d2 → i ≤ 7) → H a = some o) ?_ ?_ ?_ ?_
  · exact ⟨⟨_, _, _, rfl⟩, fun a o e _ _ _ _ => e⟩
  · rintro i σ H hi ⟨_, hk⟩
    exact .of (hk G _ hG (fun z => absurd z.symm g1) (fun z => absurd z.symm g2) (fun z => absurd z.symm g3) (fun z => absurd z.symm g4))
  · have step : ∀ {i : Nat} {x : V} {mm : Option Addr} {d d' : PyData} {H : Hp} {g f s : Option V} {D : Ends}, (∀ a o, HG a = some o → (a = l1 → i ≤ 4) → (a = l2 → i ≤ 5) → (a = d1 → i ≤ 6) → (a = d2 → i ≤ 7) → H a = some o) →
        Dd K H x d → Fine d → Fine d' → Mid K H x mm d' → (∀ a, mm = some a → (a = l1 ∧ i = 4) ∨ (a = l2 ∧ i = 5) ∨ (a = d1 ∧ i = 6) ∨ (a = d2 ∧ i = 7)) →
        (∀ σ H', ((∃ g f s, σ = [some (.ref l), some (.int m), some (.ref el), g, f, s]) ∧ ∀ a o, HG a = some o → (a = l1 → i + 1 ≤ 4) → (a = l2 → i + 1 ≤ 5) → (a = d1 → i + 1 ≤ 6) → (a = d2 → i + 1 ≤ 7) → H' a = some o) → D.nx σ H') →
        gName 3 x [some (.ref l), some (.int m), some (.ref el), g, f, s] H fun σ2 H2 => t_body K D σ2 H2 := by
      intro i x mm d d' H g f s D hk hd fi fi' md hm2 nx
      refine body_ok hd fi fi' md fun f' s' H' k => nx _ _ ⟨⟨_, _, _, rfl⟩, fun a o e c1 c2 c3 c4 => k a o (hk a o e (fun z => by have := c1 z; omega) (fun z => by have := c2 z; omega) (fun z => by have := c3 z; omega) (fun z => by have := c4 z; omega)) fun z => ?_⟩
      rcases hm2 a z with ⟨z1, z2⟩ | ⟨z1, z2⟩ | ⟨z1, z2⟩ | ⟨z1, z2⟩
      · have := c1 z1; omega
      · have := c2 z1; omega
      · have := c3 z1; omega
      · have := c4 z1; omega
    have no : ∀ (i : Nat) (a : Addr), (none : Option Addr) = some a → (a = l1 ∧ i = 4) ∨ (a = l2 ∧ i = 5) ∨ (a = d1 ∧ i = 6) ∨ (a = d2 ∧ i = 7) := fun _ _ z => by cases z
    have nt : ∀ {a b : Addr} {xs : List V} {o : HO}, HG a = some (.tup xs) → HG b = some o → (∀ ys, o ≠ .tup ys) → a ≠ b := fun ha hb n z => by
      rw [z, hb] at ha
      cases ha
      exact n _ rfl
    rintro i x σ H hx ⟨⟨g, f, s, rfl⟩, hk⟩
    match i, hx with
    | 0, hx =>
      cases hx
      exact step hk (.int _) (fine_int hm) (fine_int hm) (mid_none (fun _ _ => .base (.int _)) rfl rfl (.int _)) (no _) fun σ H' h => h
    | 1, hx =>
      cases hx
      have hm2 : (0 - m).natAbs < 10 ^ 12 := by omega
      exact step hk (.int _) (fine_int hm2) (fine_int hm2) (mid_none (fun _ _ => .base (.int _)) rfl rfl (.int _)) (no _) fun σ H' h => h
    | 2, hx =>
      cases hx
      have z := hk t1 _ w1 (fun z => absurd z (nt w1 w3 (by simp))) (fun z => absurd z (nt w1 w4 (by simp))) (fun z => absurd z (nt w1 w5 (by simp))) (fun z => absurd z (nt w1 w6 (by simp)))
      have dd : Dd K H (.ref t1) (.tuple [.int 1, .int 2]) := Dd.tup (.of z) (.cons (.int _) (.cons (.int _) .nil))
      have fi : Fine (.tuple [.int 1, .int 2]) := fine_of (by decide +kernel)
      exact step hk dd fi fi (mid_none (fun _ s => .base (.tup (s _ _ z))) rfl rfl dd) (no _) fun σ H' h => h
    | 3, hx =>
      cases hx
      have z := hk t2 _ w2 (fun z => absurd z (nt w2 w3 (by simp))) (fun z => absurd z (nt w2 w4 (by simp))) (fun z => absurd z (nt w2 w5 (by simp))) (fun z => absurd z (nt w2 w6 (by simp)))
      have dd : Dd K H (.ref t2) (.tuple []) := Dd.tup (.of z) .nil
      have fi : Fine (.tuple []) := fine_of (by decide +kernel)
      exact step hk dd fi fi (mid_none (fun _ s => .base (.tup (s _ _ z))) rfl rfl dd) (no _) fun σ H' h => h
    | 4, hx =>
      cases hx
      have z := hk l1 _ w3 (fun _ => by omega) (fun _ => by omega) (fun _ => by omega) (fun _ => by omega)
      have dd : Dd K H (.ref l1) (.list [.int 1]) := Dd.lst (.of z) (.cons (.int _) .nil)
      exact step hk dd (fine_of (by decide +kernel)) (d' := .list ([.int 1] ++ [.str "more"])) (fine_of (by decide +kernel)) (mid_lst z (by show 1 ≤ 100; decide) fun _ _ => .cons (.int _) .nil) (fun a e => .inl ⟨(Option.some.inj e).symm, rfl⟩) fun σ H' h => h
    | 5, hx =>
      cases hx
      have n : l2 ≠ l1 := fun z => by
        rw [z, w3] at w4
        cases w4
      have z := hk l2 _ w4 (fun z => absurd z n) (fun _ => by omega) (fun _ => by omega) (fun _ => by omega)
      have dd : Dd K H (.ref l2) (.list []) := Dd.lst (.of z) .nil
      exact step hk dd (fine_of (by decide +kernel)) (d' := .list ([] ++ [.str "more"])) (fine_of (by decide +kernel)) (mid_lst z (by show 0 ≤ 100; decide) fun _ _ => .nil) (fun a e => .inr (.inl ⟨(Option.some.inj e).symm, rfl⟩)) fun σ H' h => h
    | 6, hx =>
      cases hx
      have n : d1 ≠ l1 := fun z => by
        rw [z, w3] at w5
        cases w5
      have n2 : d1 ≠ l2 := fun z => by
        rw [z, w4] at w5
        cases w5
      have z := hk d1 _ w5 (fun z => absurd z n) (fun z => absurd z n2) (fun _ => by omega) (fun _ => by omega)
      have dd : Dd K H (.ref d1) (.dict []) := Dd.dct z ⟨rfl, .nil⟩
      exact step hk dd (fine_of (by decide +kernel)) (d' := .dict ([] ++ [(.str "more", .list [.int 1])])) (fine_of (by decide +kernel)) (mid_dct z (by show 0 ≤ 100; decide) (fun _ => rfl) fun _ _ => ⟨rfl, .nil⟩) (fun a e => .inr (.inr (.inl ⟨(Option.some.inj e).symm, rfl⟩))) fun σ H' h => h
    | 7, hx =>
      cases hx
      have n : d2 ≠ l1 := fun z => by
        rw [z, w3] at w6
        cases w6
      have n2 : d2 ≠ l2 := fun z => by
        rw [z, w4] at w6
        cases w6
      have n3 : d2 ≠ d1 := fun z => by
        rw [z, w5] at w6
        cases w6
      have n4 : lm ≠ d1 := fun z => by
        rw [z, w5] at w7
        cases w7
      have n5 : lm ≠ d2 := fun z => by
        rw [z, w6] at w7
        cases w7
      have z := hk d2 _ w6 (fun z => absurd z n) (fun z => absurd z n2) (fun z => absurd z n3) (fun _ => by omega)
      have z2 := hk lm _ w7 (fun z => absurd z m1) (fun z => absurd z m2) (fun z => absurd z n4) (fun _ => by omega)
      have da : ∀ H', Kept (some d2) H H' → DctAll K H' [(.inr "a", .ref lm)] [(.str "a", .list [.int m])] := fun H' k => ⟨rfl, .cons (Dd.lst (.of (k _ _ z2 fun e => n5 (Option.some.inj e).symm)) (.cons (.int _) .nil)) .nil⟩
      have dd : Dd K H (.ref d2) (.dict [(.str "a", .list [.int m])]) := Dd.dct z (da H fun _ _ e _ => e)
      exact step hk dd (fine_dctA hm) (fine_dctB hm) (mid_dct z (by show 1 ≤ 100; decide) (fun _ => rfl) da) (fun a e => .inr (.inr (.inr ⟨(Option.some.inj e).symm, rfl⟩))) fun σ H' h => h
    | 8, hx =>
      cases hx
      have fi : Fine (.str "a b") := fine_of (by decide +kernel)
      exact step hk (.str _) fi fi (mid_none (fun _ _ => .base (.str _)) rfl rfl (.str _)) (no _) fun σ H' h => h
    | 9, hx =>
      cases hx
      have fi : Fine (.str "") := fine_of (by decide +kernel)
      exact step hk (.str _) fi fi (mid_none (fun _ _ => .base (.str _)) rfl rfl (.str _)) (no _) fun σ H' h => h
    | 10, hx =>
      cases hx
      have fi : Fine (.bool true) := fine_of (by decide +kernel)
      exact step hk (.bl _) fi fi (mid_none (fun _ _ => .base (.bl _)) rfl rfl (.bl _)) (no _) fun σ H' h => h
    | 11, hx =>
      cases hx
      have fi : Fine .none := fine_of (by decide +kernel)
      exact step hk .non fi fi (mid_none (fun _ _ => .base .non) rfl rfl .non) (no _) fun σ H' h => h
    | 12, hx =>
      cases hx
      have z := hk t3 _ w8 (fun z => absurd z (nt w8 w3 (by simp))) (fun z => absurd z (nt w8 w4 (by simp))) (fun z => absurd z (nt w8 w5 (by simp))) (fun z => absurd z (nt w8 w6 (by simp)))
      have dd : Dd K H (.ref t3) (.tuple [.str "f", .int 2]) := Dd.tup (.of z) (.cons (.str _) (.cons (.int _) .nil))
      have fi : Fine (.tuple [.str "f", .int 2]) := fine_of (by decide +kernel)
      exact step hk dd fi fi (mid_none (fun _ s => .base (.tup (s _ _ z))) rfl rfl dd) (no _) fun σ H' h => h
    | i + 13, hx => simp at hx
  · rintro σ H ⟨⟨g, f, s, rfl⟩, hk⟩
    have kk : Same HD H := fun a o e => hk a o (sDG a o e) (fun z => by rw [z, k1] at e; cases e) (fun z => by rw [z, k2] at e; cases e) (fun z => by rw [z, k3] at e; cases e) (fun z => by rw [z, k4] at e; cases e)
    exact last_ok (σ := [some (.ref l), some (.int m), some (.ref el), g, f, s]) hm rfl rfl (kk _ _ hE) (kk _ _ h0') (kk _ _ h1') (r0'.same kk) (r1'.same kk) q
end
end L2.Fw.K01
namespace L2.Fw.K01
open PySem PySem.Spec PyProof.Rows
section
variable {P : Program} {w : World} {K : PySem.W.Frag} {mg : Str → Option Value} {base : Heap}
theorem ok_law_cell (T : Txt P w K mg base) : CalO P w K mg base 1 "_law_cell" ["script", "index"] (sp_law_cell K) := by
  obtain ⟨fd, F⟩ := T.f_law_cell
  refine ⟨_, fd, FunD.ok (CX := L2.CX P w) (P := P) (w := w) (mg := mg) (base := base) (k := 0) F sc_law_cell (fun vs H Q E h => len_law_cell h) (fun cdv A outer s H vs Q E hr h => ?_), T.gl "_law_cell" (by decide), F.kp, F.bindsN fun _ _ _ _ _ _ us hl => match us, hl with | [_, _], _ => rfl⟩
  refine ⟨t_law_cell K E, ?_, pure_law_cell h⟩
  exact pss_cons (ps_if (pt_cmpR op_lt (pv 1) (pe_callB call_len rfl (T.fr "len" (by decide)) (by decide +kernel) (pa_cons (pv 0) pa_nil)) (nomark _)) (pss_one (ps_ret (pe_ix ix_seq (pv 0) (pv 1) (fun _ _ => rfl)))) (pss_nil))
      (pss_one (ps_ret (pe_int)))

theorem ok_law_hash (T : Txt P w K mg base) : CalO P w K mg base 1 "_law_hash" ["seed", "index"] (sp_law_hash K) := by
  obtain ⟨fd, F⟩ := T.f_law_hash
  refine ⟨_, fd, FunD.ok (CX := L2.CX P w) (P := P) (w := w) (mg := mg) (base := base) (k := 0) F sc_law_hash (fun vs H Q E h => len_law_hash h) (fun cdv A outer s H vs Q E hr h => ?_), T.gl "_law_hash" (by decide), F.kp, F.bindsN fun _ _ _ _ _ _ us hl => match us, hl with | [_, _], _ => rfl⟩
  refine ⟨t_law_hash K E, ?_, pure_law_hash h⟩
  exact pss_cons (ps_set (i := 2) sc_law_hash.nd rfl (by first | exact Or.inl rfl | exact Or.inr rfl) (pe_op op_mod (pe_callTy call_int1 rfl (T.fr "int" (by decide)) (by decide +kernel) (pa_cons (pe_op op_add (pe_op op_add (pe_op op_add (pe_op op_mul (pv 0) (pe_int)) (pe_op op_mul (pe_op op_mul (pe_int) (pv 1)) (pv 1))) (pv 1)) (pe_int)) pa_nil)) (pe_int)))
      (pss_cons (ps_set (i := 2) sc_law_hash.nd rfl (by first | exact Or.inl rfl | exact Or.inr rfl) (pe_op op_mod (pe_callTy call_int1 rfl (T.fr "int" (by decide)) (by decide +kernel) (pa_cons (pe_op op_add (pe_op op_mul (pv 2) (pv 2)) (pe_int)) pa_nil)) (pe_int)))
      (pss_one (ps_ret (pe_op op_mod (pe_callTy call_int1 rfl (T.fr "int" (by decide)) (by decide +kernel) (pa_cons (pe_op op_mul (pv 2) (pe_int)) pa_nil)) (pe_int)))))

theorem ok_law_generator (T : Txt P w K mg base) : CalO P w K mg base 2 "_law_generator" ["script", "index"] (sp_law_generator K) := by
  obtain ⟨fd, F⟩ := T.f_law_generator
  refine ⟨_, fd, FunD.ok (CX := L2.CX P w) (P := P) (w := w) (mg := mg) (base := base) (k := 1) F sc_law_generator (fun vs H Q E h => len_law_generator h) (fun cdv A outer s H vs Q E hr h => ?_), T.gl "_law_generator" (by decide), F.kp, F.bindsN fun _ _ _ _ _ _ us hl => match us, hl with | [_, _], _ => rfl⟩
  refine ⟨t_law_generator K E, ?_, pure_law_generator h⟩
  exact pss_cons (ps_set (i := 2) sc_law_generator.nd rfl (by first | exact Or.inl rfl | exact Or.inr rfl) (pe_callO (ok_law_cell T)  hr rfl (fun σ => passZ σ) (pa_cons (pv 0) (pa_cons (pv 1) pa_nil))))
      (pss_one (ps_ret (pe_lst (pa_cons (pe_op op_mod (pe_callTy call_int1 rfl (T.fr "int" (by decide)) (by decide +kernel) (pa_cons (pe_callB (call_max2 rfl) rfl (T.fr "max" (by decide)) (by decide +kernel) (pa_cons (pe_op op_sub (pv 2) (pe_op op_powW (pe_int) (pe_int))) (pa_cons (pe_int) pa_nil))) pa_nil)) (pe_op op_powW (pe_op op_powW (pe_int) (pe_int)) (pe_int))) (pa_cons (pe_op op_mod (pe_callTy call_int1 rfl (T.fr "int" (by decide)) (by decide +kernel) (pa_cons (pv 2) pa_nil)) (pe_int)) (pa_cons (pe_op op_mul (pe_int) (pv 1)) pa_nil))))))

theorem ok_law_random (T : Txt P w K mg base) : CalO P w K mg base 2 "_law_random" ["generator", "bound"] (sp_law_random K) := by
  obtain ⟨fd, F⟩ := T.f_law_random
  refine ⟨_, fd, FunD.ok (CX := L2.CX P w) (P := P) (w := w) (mg := mg) (base := base) (k := 1) F sc_law_random (fun vs H Q E h => len_law_random h) (fun cdv A outer s H vs Q E hr h => ?_), T.gl "_law_random" (by decide), F.kp, F.bindsN fun _ _ _ _ _ _ us hl => match us, hl with | [_, _], _ => rfl⟩
  refine ⟨t_law_random K E, ?_, pure_law_random h⟩
  exact pss_cons (ps_if (pt_cmpR op_gt (pe_ix ix_seq (pv 0) (pe_int) (fun _ _ => rfl)) (pe_int) (nomark _)) (pss_cons (ps_set (i := 2) sc_law_random.nd rfl (by first | exact Or.inl rfl | exact Or.inr rfl) (pe_op op_mod (pe_callTy call_int1 rfl (T.fr "int" (by decide)) (by decide +kernel) (pa_cons (pe_ix ix_seq (pv 0) (pe_int) (fun _ _ => rfl)) pa_nil)) (pv 1)))
      (pss_cons (ps_asg (pe_op op_fdivW (pe_ix ix_seq (pv 0) (pe_int) (fun _ _ => rfl)) (pv 1)) (pg_sub (pv 0) (pe_int) set_list))
      (pss_one (ps_ret (pv 2))))) (pss_nil))
      (pss_cons (ps_set (i := 2) sc_law_random.nd rfl (by first | exact Or.inl rfl | exact Or.inr rfl) (pe_int))
      (pss_cons (ps_for (passes_of rfl) rfl (pi_range1 rfl (T.fr "range" (by decide)) (pa_cons (pe_op op_add (pe_int) (pe_op op_fdivW (pe_bits (pv 1)) (pe_int))) pa_nil)) (pg_name (i := 3) sc_law_random.nd rfl (by first | exact Or.inl rfl | exact Or.inr rfl)) (pss_cons (ps_asg (pe_op op_add (pe_ix ix_seq (pv 0) (pe_int) (fun _ _ => rfl)) (pe_int)) (pg_sub (pv 0) (pe_int) set_list))
      (pss_one (ps_set (i := 2) sc_law_random.nd rfl (by first | exact Or.inl rfl | exact Or.inr rfl) (pe_op op_add (pe_op op_mul (pv 2) (pe_int)) (pe_callO (ok_law_hash T)  hr rfl (fun σ => passZ σ) (pa_cons (pe_ix ix_seq (pv 0) (pe_int) (fun _ _ => rfl)) (pa_cons (pe_ix ix_seq (pv 0) (pe_int) (fun _ _ => rfl)) pa_nil))))))))
      (pss_one (ps_ret (pe_op op_mod (pe_callTy call_int1 rfl (T.fr "int" (by decide)) (by decide +kernel) (pa_cons (pv 2) pa_nil)) (pv 1))))))

theorem ok_law_kinds (T : Txt P w K mg base) : CalO P w K mg base 1 "_law_kinds" ["error"] (sp_law_kinds K) := by
  obtain ⟨fd, F⟩ := T.f_law_kinds
  refine ⟨_, fd, FunD.ok (CX := L2.CX P w) (P := P) (w := w) (mg := mg) (base := base) (k := 0) F sc_law_kinds (fun vs H Q E h => len_law_kinds h) (fun cdv A outer s H vs Q E hr h => ?_), T.gl "_law_kinds" (by decide), F.kp, F.bindsN fun _ _ _ _ _ _ us hl => match us, hl with | [_], _ => rfl⟩
  refine ⟨t_law_kinds K E, ?_, pure_law_kinds T h⟩
  exact pss_cons (ps_set (i := 1) sc_law_kinds.nd rfl (by first | exact Or.inl rfl | exact Or.inr rfl) (pe_lst (pa_cons (pe_callB call_isX rfl (T.fr "isinstance" (by decide)) (by decide +kernel) (pa_cons (pv 0) (pa_cons (pe_glob rfl (T.gl "InvalidNumber" (by decide)) rfl) pa_nil))) (pa_cons (pe_callB call_isX rfl (T.fr "isinstance" (by decide)) (by decide +kernel) (pa_cons (pv 0) (pa_cons (pe_glob rfl (T.gl "InvalidList" (by decide)) rfl) pa_nil))) (pa_cons (pe_callB call_isX rfl (T.fr "isinstance" (by decide)) (by decide +kernel) (pa_cons (pv 0) (pa_cons (pe_glob rfl (T.gl "InvalidItem" (by decide)) rfl) pa_nil))) pa_nil)))))
      (pss_cons (ps_set (i := 1) sc_law_kinds.nd rfl (by first | exact Or.inl rfl | exact Or.inr rfl) (pe_op op_cat (pv 1) (pe_lst (pa_cons (pe_callB call_isX rfl (T.fr "isinstance" (by decide)) (by decide +kernel) (pa_cons (pv 0) (pa_cons (pe_glob rfl (T.gl "InvalidShop" (by decide)) rfl) pa_nil))) (pa_cons (pe_callB call_isX rfl (T.fr "isinstance" (by decide)) (by decide +kernel) (pa_cons (pv 0) (pa_cons (pe_glob rfl (T.gl "InvalidThing" (by decide)) rfl) pa_nil))) pa_nil)))))
      (pss_cons (ps_set (i := 1) sc_law_kinds.nd rfl (by first | exact Or.inl rfl | exact Or.inr rfl) (pe_op op_cat (pv 1) (pe_lst (pa_cons (pe_callB call_isX rfl (T.fr "isinstance" (by decide)) (by decide +kernel) (pa_cons (pv 0) (pa_cons (pe_glob rfl (T.gl "InvalidTicks" (by decide)) rfl) pa_nil))) (pa_cons (pe_callB call_isX rfl (T.fr "isinstance" (by decide)) (by decide +kernel) (pa_cons (pv 0) (pa_cons (pe_glob rfl (T.gl "InvalidStore" (by decide)) rfl) pa_nil))) pa_nil)))))
      (pss_cons (ps_set (i := 1) sc_law_kinds.nd rfl (by first | exact Or.inl rfl | exact Or.inr rfl) (pe_op op_cat (pv 1) (pe_lst (pa_cons (pe_callB call_isX rfl (T.fr "isinstance" (by decide)) (by decide +kernel) (pa_cons (pv 0) (pa_cons (pe_glob rfl (T.gl "InvalidWord" (by decide)) rfl) pa_nil))) (pa_cons (pe_callB call_isX rfl (T.fr "isinstance" (by decide)) (by decide +kernel) (pa_cons (pv 0) (pa_cons (pe_glob rfl (T.gl "InvalidRule" (by decide)) rfl) pa_nil))) pa_nil)))))
      (pss_cons (ps_set (i := 1) sc_law_kinds.nd rfl (by first | exact Or.inl rfl | exact Or.inr rfl) (pe_op op_cat (pv 1) (pe_lst (pa_cons (pe_callB call_isX rfl (T.fr "isinstance" (by decide)) (by decide +kernel) (pa_cons (pv 0) (pa_cons (pe_glob rfl (T.gl "InvalidText" (by decide)) rfl) pa_nil))) (pa_cons (pe_callB call_isX rfl (T.fr "isinstance" (by decide)) (by decide +kernel) (pa_cons (pv 0) (pa_cons (pe_glob rfl (T.gl "Missing" (by decide)) rfl) pa_nil))) pa_nil)))))
      (pss_cons (ps_set (i := 1) sc_law_kinds.nd rfl (by first | exact Or.inl rfl | exact Or.inr rfl) (pe_op op_cat (pv 1) (pe_lst (pa_cons (pe_callB call_isX rfl (T.fr "isinstance" (by decide)) (by decide +kernel) (pa_cons (pv 0) (pa_cons (pe_glob rfl (T.gl "InvalidName" (by decide)) rfl) pa_nil))) (pa_cons (pe_callB call_isX rfl (T.fr "isinstance" (by decide)) (by decide +kernel) (pa_cons (pv 0) (pa_cons (pe_glob rfl (T.gl "TakenName" (by decide)) rfl) pa_nil))) (pa_cons (pe_callB call_isX rfl (T.fr "isinstance" (by decide)) (by decide +kernel) (pa_cons (pv 0) (pa_cons (pe_glob rfl (T.gl "UnknownName" (by decide)) rfl) pa_nil))) pa_nil))))))
      (pss_cons (ps_if (PW.pt (pw_or (pt_not (pt_val (pe_callB call_isX rfl (T.fr "isinstance" (by decide)) (by decide +kernel) (pa_cons (pv 0) (pa_cons (pe_glob rfl (T.gl "TickError" (by decide)) rfl) pa_nil))) (by intro _; rfl))) (pw_or1 (pt_not (pt_val (pe_callB call_isX rfl (T.fr "isinstance" (by decide)) (by decide +kernel) (pa_cons (pv 0) (pa_cons (pe_bltn (v := .ty "ValueError") rfl (T.fr "ValueError" (by decide)) PyProof.Rows.Boot.«ValueError» rfl) pa_nil))) (by intro _; rfl)))))) (pss_one (ps_ret (pe_lst pa_nil))) (pss_nil))
      (pss_one (ps_ret (pe_lc (own := [("at", 2)]) rfl sc_law_kinds.nd (pi_range1 rfl (T.fr "range" (by decide)) (pa_cons (pe_int) pa_nil)) (blkOk_by (N := ["error", "classes", "at"]) (own := [("at", 2)]) (sc := defScope s_law_kinds) (by decide +kernel)) (fun _ _ _ _ _ => pg_name (i := 2) sc_law_kinds.nd rfl (by first | exact Or.inl rfl | exact Or.inr rfl)) (fun _ _ _ _ _ => pts_one (pt_val (pe_ix ix_seq (pe_op op_cat (pv 1) (pe_lst (pa_cons (pe_callB call_isX rfl (T.fr "isinstance" (by decide)) (by decide +kernel) (pa_cons (pv 0) (pa_cons (pe_glob rfl (T.gl "NothingToUndo" (by decide)) rfl) pa_nil))) pa_nil))) (pv 2) (fun _ _ => rfl)) (by intro _; rfl))) (fun _ _ _ _ _ => pv 2))))))))))

theorem ok_law_right (T : Txt P w K mg base) : CalG P w K mg base 2 "_law_right" ["errors", "given"] (sp_law_right K) := by
  obtain ⟨fd, F⟩ := T.f_law_right
  refine ⟨_, fd, okG (P := P) (w := w) (mg := mg) (base := base) (k := 1) F sc_law_right (fun vs H Q E h => len_law_right h) (fun cdv A outer s H vs Q E hgd hr h => ?_), T.gl "_law_right" (by decide), F.kp, F.bindsN fun _ _ _ _ _ _ us hl => match us, hl with | [_, _], _ => rfl⟩
  have hu := hr.units
  refine ⟨t_law_right K E, ?_, pure_law_right T h⟩
  exact pss_cons (ps_if (pt_cmpR (op_neD hu) (pe_lc (own := [("error", 3)]) rfl sc_law_right.nd (pi_list (pv 0)) (blkOk_by (N := ["errors", "given", "fields", "error", "at"]) (own := [("error", 3)]) (sc := defScope s_law_right) (by decide +kernel)) (fun _ _ _ _ _ => pg_name (i := 3) sc_law_right.nd rfl (by first | exact Or.inl rfl | exact Or.inr rfl)) (fun _ _ _ _ _ => pts_nil) (fun _ _ _ _ _ => pe_callO (ok_law_kinds T)  hr rfl (fun σ => passZ σ) (pa_cons (pv 3) pa_nil))) (pe_lc (own := [("at", 4)]) rfl sc_law_right.nd (pi_range1 rfl (T.fr "range" (by decide)) (pa_cons (pe_int) pa_nil)) (blkOk_by (N := ["errors", "given", "fields", "error", "at"]) (own := [("at", 4)]) (sc := defScope s_law_right) (by decide +kernel)) (fun _ _ _ _ _ => pg_name (i := 4) sc_law_right.nd rfl (by first | exact Or.inl rfl | exact Or.inr rfl)) (fun _ _ _ _ _ => pts_nil) (fun _ _ _ _ _ => pe_lst (pa_cons (pv 4) pa_nil))) (nomark _)) (pss_one (ps_ret (pe_bl))) (pss_nil))
      (pss_cons (ps_set (i := 2) sc_law_right.nd rfl (by first | exact Or.inl rfl | exact Or.inr rfl) (pe_op op_cat (pe_lc (own := [("error", 3)]) rfl sc_law_right.nd (pi_list (pe_slice sl_list (pv 0) (po_none) (po_some (pe_int)))) (blkOk_by (N := ["errors", "given", "fields", "error", "at"]) (own := [("error", 3)]) (sc := defScope s_law_right) (by decide +kernel)) (fun _ _ _ _ _ => pg_name (i := 3) sc_law_right.nd rfl (by first | exact Or.inl rfl | exact Or.inr rfl)) (fun _ _ _ _ _ => pts_nil) (fun _ _ _ _ _ => pe_xfv (pv 3))) (pe_lc (own := [("error", 3)]) rfl sc_law_right.nd (pi_list (pe_slice sl_list (pv 0) (po_some (pe_int)) (po_none))) (blkOk_by (N := ["errors", "given", "fields", "error", "at"]) (own := [("error", 3)]) (sc := defScope s_law_right) (by decide +kernel)) (fun _ _ _ _ _ => pg_name (i := 3) sc_law_right.nd rfl (by first | exact Or.inl rfl | exact Or.inr rfl)) (fun _ _ _ _ _ => pts_nil) (fun _ _ _ _ _ => pe_xfv (pv 3)))))
      (pss_one (ps_ret (pe_cmpR op_eq (pe_callB (call_repr hgd hu) rfl (T.fr "repr" (by decide)) (by decide +kernel) (pa_cons (pv 2) pa_nil)) (pe_callB (call_repr hgd hu) rfl (T.fr "repr" (by decide)) (by decide +kernel) (pa_cons (pe_op op_rep (pe_lst (pa_cons (pv 1) pa_nil)) (pe_int)) pa_nil)) (nomark _)))))

theorem ok_law_placed (T : Txt P w K mg base) : CalO P w K mg base 3 "_law_placed" ["given"] (sp_made K) := by
  obtain ⟨fd, F⟩ := T.f_law_placed
  refine ⟨_, fd, FunD.ok (CX := L2.CX P w) (P := P) (w := w) (mg := mg) (base := base) (k := 2) F sc_law_placed (fun vs H Q E h => len_made h) (fun cdv A outer s H vs Q E hr h => ?_), T.gl "_law_placed" (by decide), F.kp, F.bindsN fun _ _ _ _ _ _ us hl => match us, hl with | [_], _ => rfl⟩
  have hr1 := hr.mono (j := 2) (by decide)
  refine ⟨t_law_placed K E, ?_, pure_law_placed h⟩
  exact pss_cons (ps_set (i := 1) sc_law_placed.nd rfl (by first | exact Or.inl rfl | exact Or.inr rfl) (pe_lst (pa_cons (pe_mkv (T.x_InvalidNumber) hr1 rfl (pa_cons (pv 0) pa_nil)) (pa_cons (pe_mkv (T.x_InvalidList) hr1 rfl (pa_cons (pv 0) pa_nil)) (pa_cons (pe_mkv (T.x_InvalidItem) hr1 rfl (pa_cons (pv 0) pa_nil)) (pa_cons (pe_mkv (T.x_InvalidShop) hr1 rfl (pa_cons (pv 0) pa_nil)) (pa_cons (pe_mkv (T.x_InvalidThing) hr1 rfl (pa_cons (pv 0) pa_nil)) pa_nil)))))))
      (pss_cons (ps_set (i := 1) sc_law_placed.nd rfl (by first | exact Or.inl rfl | exact Or.inr rfl) (pe_op op_cat (pv 1) (pe_lst (pa_cons (pe_mkv (T.x_InvalidTicks) hr1 rfl (pa_cons (pv 0) pa_nil)) (pa_cons (pe_mkv (T.x_InvalidStore) hr1 rfl (pa_cons (pv 0) pa_nil)) (pa_cons (pe_mkv (T.x_InvalidWord) hr1 rfl (pa_cons (pv 0) pa_nil)) (pa_cons (pe_mkv (T.x_InvalidRule) hr1 rfl (pa_cons (pv 0) pa_nil)) pa_nil)))))))
      (pss_one (ps_ret (pe_op op_cat (pv 1) (pe_lst (pa_cons (pe_mkv (T.x_InvalidText) hr1 rfl (pa_cons (pv 0) pa_nil)) (pa_cons (pe_mkv (T.x_Missing) hr1 rfl (pa_cons (pv 0) pa_nil)) (pa_cons (pe_mkv (T.x_InvalidName) hr1 rfl (pa_cons (pv 0) pa_nil)) (pa_cons (pe_mkv (T.x_TakenName) hr1 rfl (pa_cons (pv 0) pa_nil)) (pa_cons (pe_mkv (T.x_UnknownName) hr1 rfl (pa_cons (pv 0) pa_nil)) pa_nil))))))))))

theorem ok_law_named (T : Txt P w K mg base) : CalO P w K mg base 3 "_law_named" ["given"] (sp_made K) := by
  obtain ⟨fd, F⟩ := T.f_law_named
  refine ⟨_, fd, FunD.ok (CX := L2.CX P w) (P := P) (w := w) (mg := mg) (base := base) (k := 2) F sc_law_named (fun vs H Q E h => len_made h) (fun cdv A outer s H vs Q E hr h => ?_), T.gl "_law_named" (by decide), F.kp, F.bindsN fun _ _ _ _ _ _ us hl => match us, hl with | [_], _ => rfl⟩
  have hr1 := hr.mono (j := 2) (by decide)
  refine ⟨t_law_named K E, ?_, pure_law_named h⟩
  exact pss_cons (ps_set (i := 1) sc_law_named.nd rfl (by first | exact Or.inl rfl | exact Or.inr rfl) (pe_lst (pa_cons (pe_mkvk (T.x_InvalidNumber) hr1 rfl (pk_cons (pv 0) pk_nil)) (pa_cons (pe_mkvk (T.x_InvalidList) hr1 rfl (pk_cons (pv 0) pk_nil)) (pa_cons (pe_mkvk (T.x_InvalidItem) hr1 rfl (pk_cons (pv 0) pk_nil)) (pa_cons (pe_mkvk (T.x_InvalidShop) hr1 rfl (pk_cons (pv 0) pk_nil)) pa_nil))))))
      (pss_cons (ps_set (i := 1) sc_law_named.nd rfl (by first | exact Or.inl rfl | exact Or.inr rfl) (pe_op op_cat (pv 1) (pe_lst (pa_cons (pe_mkvk (T.x_InvalidThing) hr1 rfl (pk_cons (pv 0) pk_nil)) (pa_cons (pe_mkvk (T.x_InvalidTicks) hr1 rfl (pk_cons (pv 0) pk_nil)) (pa_cons (pe_mkvk (T.x_InvalidStore) hr1 rfl (pk_cons (pv 0) pk_nil)) pa_nil))))))
      (pss_cons (ps_set (i := 1) sc_law_named.nd rfl (by first | exact Or.inl rfl | exact Or.inr rfl) (pe_op op_cat (pv 1) (pe_lst (pa_cons (pe_mkvk (T.x_InvalidWord) hr1 rfl (pk_cons (pv 0) pk_nil)) (pa_cons (pe_mkvk (T.x_InvalidRule) hr1 rfl (pk_cons (pv 0) pk_nil)) (pa_cons (pe_mkvk (T.x_InvalidText) hr1 rfl (pk_cons (pv 0) pk_nil)) pa_nil))))))
      (pss_one (ps_ret (pe_op op_cat (pv 1) (pe_lst (pa_cons (pe_mkvk (T.x_Missing) hr1 rfl (pk_cons (pv 0) pk_nil)) (pa_cons (pe_mkvk (T.x_InvalidName) hr1 rfl (pk_cons (pv 0) pk_nil)) (pa_cons (pe_mkvk (T.x_TakenName) hr1 rfl (pk_cons (pv 0) pk_nil)) (pa_cons (pe_mkvk (T.x_UnknownName) hr1 rfl (pk_cons (pv 0) pk_nil)) pa_nil))))))))))

theorem ok_law_bare (T : Txt P w K mg base) : CalO P w K mg base 3 "_law_bare" [] (sp_law_bare K) := by
  obtain ⟨fd, F⟩ := T.f_law_bare
  refine ⟨_, fd, FunD.ok (CX := L2.CX P w) (P := P) (w := w) (mg := mg) (base := base) (k := 2) F sc_law_bare (fun vs H Q E h => len_law_bare h) (fun cdv A outer s H vs Q E hr h => ?_), T.gl "_law_bare" (by decide), F.kp, F.bindsN fun _ _ _ _ _ _ us hl => match us, hl with | [], _ => rfl⟩
  have hr1 := hr.mono (j := 2) (by decide)
  refine ⟨t_law_bare K E, ?_, pure_law_bare h⟩
  exact pss_cons (ps_set (i := 0) sc_law_bare.nd rfl (by first | exact Or.inl rfl | exact Or.inr rfl) (pe_lst (pa_cons (pe_mkv0 (T.x_InvalidNumber) hr1 rfl) (pa_cons (pe_mkv0 (T.x_InvalidList) hr1 rfl) (pa_cons (pe_mkv0 (T.x_InvalidItem) hr1 rfl) (pa_cons (pe_mkv0 (T.x_InvalidShop) hr1 rfl) (pa_cons (pe_mkv0 (T.x_InvalidThing) hr1 rfl) (pa_cons (pe_mkv0 (T.x_InvalidTicks) hr1 rfl) pa_nil))))))))
      (pss_cons (ps_set (i := 0) sc_law_bare.nd rfl (by first | exact Or.inl rfl | exact Or.inr rfl) (pe_op op_cat (pv 0) (pe_lst (pa_cons (pe_mkv0 (T.x_InvalidStore) hr1 rfl) (pa_cons (pe_mkv0 (T.x_InvalidWord) hr1 rfl) (pa_cons (pe_mkv0 (T.x_InvalidRule) hr1 rfl) (pa_cons (pe_mkv0 (T.x_InvalidText) hr1 rfl) (pa_cons (pe_mkv0 (T.x_Missing) hr1 rfl) pa_nil))))))))
      (pss_one (ps_ret (pe_op op_cat (pv 0) (pe_lst (pa_cons (pe_mkv0 (T.x_InvalidName) hr1 rfl) (pa_cons (pe_mkv0 (T.x_TakenName) hr1 rfl) (pa_cons (pe_mkv0 (T.x_UnknownName) hr1 rfl) pa_nil))))))))

theorem fn_law (T : Txt P w K mg base) {fd : FuncData} (F : FunD K "law" "law" (defArgs s_law) (defBody s_law) (defScope s_law) [] [] (He.ga K "law") fd) : FnG P w K mg base 4 (He.ga K "law") fd ["script"] (sp_law K) := by
  refine okG (P := P) (w := w) (mg := mg) (base := base) (k := 3) F sc_law (fun vs H Q E h => len_law h) (fun cdv A outer s H vs Q E hgd hr h => ?_)
  have hu := hr.units
  have hu1 := hu_of hr
  refine ⟨t_law K E, ?_, pure_law h⟩
  exact pss_cons (ps_set (i := 1) sc_law.nd rfl (by first | exact Or.inl rfl | exact Or.inr rfl) (pe_callO (ok_law_random T)  hr rfl (fun σ => passZ σ) (pa_cons (pe_callO (ok_law_generator T)  hr rfl (fun σ => passZ σ) (pa_cons (pv 0) (pa_cons (pe_int) pa_nil))) (pa_cons (pe_op op_powW (pe_int) (pe_int)) pa_nil))))
      (pss_cons (ps_set (i := 2) sc_law.nd rfl (by first | exact Or.inl rfl | exact Or.inr rfl) (pe_lst (pa_cons (pe_callO (ok_law_placed T)  hr rfl (fun σ => passZ σ) (pa_cons (pv 1) pa_nil)) (pa_cons (pe_callO (ok_law_named T)  hr rfl (fun σ => passZ σ) (pa_cons (pe_str) pa_nil)) pa_nil))))
      (pss_cons (ps_for (passes_of rfl) rfl (pi_list (pe_lst (pa_cons (pv 1) (pa_cons (pe_op op_sub (pe_int) (pv 1)) (pa_cons (pe_tup (pa_cons (pe_int) (pa_cons (pe_int) pa_nil))) (pa_cons (pe_tup pa_nil) (pa_cons (pe_lst (pa_cons (pe_int) pa_nil)) (pa_cons (pe_lst pa_nil) (pa_cons (pe_dnewK) (pa_cons (pe_disp (pps_cons (pe_str) (pe_lst (pa_cons (pv 1) pa_nil)) (pps_nil)) (by rfl) (by rfl) (fun z => by cases z) (by decide)) (pa_cons (pe_str) (pa_cons (pe_str) (pa_cons (pe_bl) (pa_cons (pe_non) (pa_cons (pe_tup (pa_cons (pe_str) (pa_cons (pe_int) pa_nil))) pa_nil))))))))))))))) (pg_name (i := 3) sc_law.nd rfl (by first | exact Or.inl rfl | exact Or.inr rfl)) (pss_cons (ps_par (i := 4) (j := 5) (by rfl) sc_law.nd rfl rfl (by decide) rfl rfl (pa_cons (pe_callO (ok_law_placed T)  hr rfl (fun σ => passZ σ) (pa_cons (pv 3) pa_nil)) (pa_cons (pe_callO (ok_law_named T)  hr rfl (fun σ => passZ σ) (pa_cons (pv 3) pa_nil)) pa_nil)) (by rfl))
      (pss_cons (ps_if (PW.pt (pw_or (pt_not (pt_val (pe_callG (ok_law_right T) hgd hr rfl (fun σ => passZ σ) (pa_cons (pv 4) (pa_cons (pv 3) pa_nil))) (by intro _; rfl))) (pw_or1 (pt_not (pt_val (pe_callG (ok_law_right T) hgd hr rfl (fun σ => passZ σ) (pa_cons (pv 5) (pa_cons (pv 3) pa_nil))) (by intro _; rfl)))))) (pss_one (ps_ret (pe_bl))) (pss_nil))
      (pss_cons (ps_if (pt_val (pe_callB call_isi rfl (T.fr "isinstance" (by decide)) (by decide +kernel) (pa_cons (pv 3) (pa_cons (pe_bltn (v := .ty "list") rfl (T.fr "list" (by decide)) PyProof.Rows.Boot.«list» rfl) pa_nil))) (by intro _; rfl)) (pss_one (ps_expr (pe_bm PySem.F.plainAttrs_list PySem.F.slot_list_append PySem.F.type_list_append mt_append (pv 3) (pa_cons (pe_str) pa_nil)))) (pss_nil))
      (pss_cons (ps_if (pt_val (pe_callB call_isi rfl (T.fr "isinstance" (by decide)) (by decide +kernel) (pa_cons (pv 3) (pa_cons (pe_bltn (v := .ty "dict") rfl (T.fr "dict" (by decide)) PyProof.Rows.Boot.«dict» rfl) pa_nil))) (by intro _; rfl)) (pss_one (ps_dput hu1 (pv 3) (pe_str) (pe_lst (pa_cons (pe_int) pa_nil)) rfl)) (pss_nil))
      (pss_one (ps_if (PW.pt (pw_or (pt_not (pt_val (pe_callG (ok_law_right T) hgd hr rfl (fun σ => passZ σ) (pa_cons (pv 4) (pa_cons (pv 3) pa_nil))) (by intro _; rfl))) (pw_or1 (pt_not (pt_val (pe_callG (ok_law_right T) hgd hr rfl (fun σ => passZ σ) (pa_cons (pv 5) (pa_cons (pv 3) pa_nil))) (by intro _; rfl)))))) (pss_one (ps_ret (pe_bl))) (pss_nil))))))))
      (pss_cons (ps_if (PW.pt (pw_or (pt_not (pt_val (pe_callG (ok_law_right T) hgd hr rfl (fun σ => passZ σ) (pa_cons (pe_ix ix_seq (pv 2) (pe_int) (fun _ _ => rfl)) (pa_cons (pv 1) pa_nil))) (by intro _; rfl))) (pw_or (pt_not (pt_val (pe_callG (ok_law_right T) hgd hr rfl (fun σ => passZ σ) (pa_cons (pe_ix ix_seq (pv 2) (pe_int) (fun _ _ => rfl)) (pa_cons (pe_str) pa_nil))) (by intro _; rfl))) (pw_or1 (pt_not (pt_val (pe_callG (ok_law_right T) hgd hr rfl (fun σ => passZ σ) (pa_cons (pe_callO0 (ok_law_bare T)  hr rfl (fun σ => passZ σ)) (pa_cons (pe_non) pa_nil))) (by intro _; rfl))))))) (pss_one (ps_ret (pe_bl))) (pss_nil))
      (pss_one (ps_ret (pe_cmpR (op_eqD hu) (pe_callO (ok_law_kinds T)  hr rfl (fun σ => passZ σ) (pa_cons (pe_mkn PySem.F.excBase_ValueError T.ntu (T.gl "NothingToUndo" (by decide)) T.ntk rfl) pa_nil)) (pe_lst (pa_cons (pe_int) pa_nil)) (nomark _)))))))

end
end L2.Fw.K01
namespace L2.Fw.K01
open PySem PySem.Spec PyProof.Rows
theorem facts {P : Program} {w : World} {K : PySem.W.Frag} {h : Heap} {mg : Str → Option Value} {f : Addr} (X : K.In h) (G : h.Ns mainGlobals mg) (hfa : mg ("law" : Str) = some (.ref f)) (c : SayK chk fn K) :
    ∃ fd : FuncData, (∀ (s : Shared) (v : Value), BindsTo s fd ⟨[v], []⟩ [("script", v)]) ∧ ∀ base : Heap, K.In base → base.Ns mainGlobals mg → FnG P w K mg base 4 f fd ["script"] (sp_law K) := by
  have T : Txt P w K mg h := txt X G c
  obtain ⟨fd, F⟩ := T.f_law
  have e := hfa.symm.trans (T.gl "law" (by decide))
  cases e
  have b := FunD.bindsA (ps := ["script"]) F fun _ _ _ _ _ _ us hl => match us, hl with | [_], _ => rfl
  exact ⟨fd, fun s v => b s [v] rfl, fun base X2 G2 => fn_law (txt X2 G2 c) F⟩
end L2.Fw.K01
open PySem PySem.W PySem.Calls PyProof.Rows
theorem PySem.Challenge.cw_tickcounts_k01_errors_holds : PySem.Challenge.rw_tickcounts_k01_errors.Holds := by
  w_on; o_law
  refine HandSHeadRun.head_any (r := L2.Fw.K01.R) (q := view L2.Fw.K01.R.prog [L2.Fw.K01.lawAt]) (H := L2.Fw.K01.hk) (ob := L2.Fw.K01.ob) (M := 6000) (loose := L2.Fw.K01.loose) (d := HandSHeadRun.topDef L2.Fw.K01.R.prog L2.Fw.K01.lawAt) (kwd := []) L2.Fw.K01.ob_eq
    (by kernel_rfl) (fun s => by kernel_rfl) L2.Fw.K01.run (by kernel_rfl) (by kernel_rfl) (by kernel_rfl) (by rfl) (by first | assumption | decide +kernel) (by decide +kernel) ⟨rfl, rfl, rfl, rfl, rfl, by decide +kernel⟩ ?hw ?hc
  case hw => w_witness2
  case hc =>
    refine L2.Fw.walk_ofG (l := PySem.Challenge.rw_tickcounts_k01_errors) (n := 63) (k := 4) (x := "script") rfl (by decide) (by kernel_rfl) ⟨rfl, by decide, by decide⟩ ?F
    intro w mg fa h Y G hmg0
    obtain ⟨K, KX, c⟩ := Y
    have hmg : mg ("law" : PySem.Str) = some (.ref fa) := by
      have e : (HandSHeadRun.topDef L2.Fw.K01.R.prog L2.Fw.K01.lawAt).name = ("law" : PySem.Str) := by kernel_rfl
      rw [← e]
      exact hmg0
    obtain ⟨fd, hb, hF⟩ := L2.Fw.K01.facts (P := (PySem.Challenge.rw_tickcounts_k01_errors).prog) (w := w) KX G hmg c
    exact ⟨K, fd, L2.Fw.K01.sp_law K, KX, hb, fun H a ns hl _ hS => ⟨a, ns, rfl, hS, fun _ => rfl⟩, hF⟩
