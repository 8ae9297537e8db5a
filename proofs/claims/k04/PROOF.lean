import PyProof.Rows.All
import Wide.All
import OpenK.AllK
import Wide.FinOn
import KE.KExcInit
import KE.KExcIs
import HandS.ForExc
import HandS.ExcInit
import HandS.ExcField
import HandS.MakeKwOnly
import HandS.Codes
import HandS.ForMost
import HandS.Style
import HandS.HeadEnd
import HandS.HeadHook2
import HandS.Head2
import PyProof.ReprRoads
import HandS.Walk
import HandS.SetFor
import KE.KTryMore
import HandS.GenCall
import PyProof.Rows.ListAppend
import HandS.GenList
import HandS.IsInst
import PyProof.InstEq
import HandS.Star
import HandS.Property
import HandS.ClsMeth
import PyProof.Rows.RuleB_pow
import PyProof.StrOps2
import HandS.ExcOwn
import PyProof.EqAt
import PyProof.NeKinds
import HandS.DictComp
import HandS.ListItems
import PyProof.TupleOfSeq
import PyProof.Rows.Range3
import KE.GoesMore
import HandS.GenYield
import HandS.Comp
import PyProof.EqKinds
import HandS.TupAny
import HandS.Text
import HandS.Conv
import HandS.MakeKw
import PyProof.StrLawsRepr
import PyProof.Rows.ReprOcc
import HandS.HeadHook3
import HandS.HeadNt
import PySem.Challenge.RW_brinejar_k04_books
set_option Elab.async false
set_option linter.all false
set_option maxRecDepth 100000
set_option maxHeartbeats 4000000
/-! VxA: exceptions of own classes over any of the built-in bases, with an own __init__, held as values: made, told apart, read. -/
namespace PySem
namespace VxS
open PySem.W PySem.Calls PyProof.Rows PySem.HandSPX
section
open Builtin Builtin.ObjectAttr
variable {prog : Program} {w : World} {A : Around} {E : Value → Shared → Prop} {R : Result → Shared → Prop} {hp : Heap} {g : Array GenState} {d : Drawn} {t : Nat} {os : OsState}
/-- a class chain over a built-in base: own classes, then the base's chain, stores by object.__setattr__ -/
structure Tail (bmB : List Value) (mro : List Value) : Prop where
  tail : excTail bmB mro = true
  pass : ∀ self, refuseLoop self "__setattr__" bmB = pure ()
  obj : bmB.contains (.type "object") = true
theorem Tail.has {bmB mro : List Value} (T : Tail bmB mro) : mro.contains (.type "object") = true := (excTail_contains "object" mro T.tail).trans T.obj
theorem Tail.ne {bmB mro : List Value} (T : Tail bmB mro) : mro.isEmpty = false := by
  cases mro with
  | nil => exact absurd T.has (by decide)
  | cons _ _ => rfl
/-- the first field -/
theorem osa_new {K : W.Frag} {name : Str} {tk : Tok} {v : Value} {x C : Addr} {fv : Array Value} {cd : ClassData} {bmB : List Value}
    (X : K.In hp) (hx : hp.get? x = some { cls := .ref C, data := .fields fv }) (hcd : W.clsIn K C = some cd) (T : Tail bmB cd.mro) (hh : cd.hasDict = true) (ha : W.findIn K (.ref C) name = some none)
    (hq : ∀ h' tk' dx, (∀ b o, b ≠ x → hp.get? b = some o → h'.get? b = some o) → hp.objs.size ≤ dx → dx ≠ x → h'.get? x = some { cls := .ref C, dict := some dx, data := .fields fv } →
      h'.Ns1 dx (fun y => if y = name then some v else none) → R (.ok (.ret .none)) ⟨h', g, d, tk', os⟩) :
    codeAny (model prog w) A (.call (.builtin "object.__setattr__") ⟨[.ref x, .str name tk, v], []⟩) R ⟨hp, g, d, t, os⟩ := by
  have I : W.InstAt hp x { cls := .ref C, data := .fields fv } C none := ⟨hx, rfl, rfl, trivial⟩
  have SF := F.store_object
  have hxs : x ≠ hp.objs.size := Nat.ne_of_lt (Heap.lt_size hx)
  have sub : W.Looks (model prog w) hp (isInstance (.ref x) (.type "object")) true := I.type.andThen (W.looks_mroIn X (by unfold W.mroIn; rw [hcd, Option.bind_some, if_neg (by rw [T.ne]; decide), T.has]))
  refine codeAny_call_builtin SF.slot.plain SF.entry (@W.check_slot (model prog w) _ _ ⟨hp, g, d, t, os⟩ "object.__setattr__" "object" "__setattr__" (.ref x) [.str name tk, v] [] _ SF.kind SF.split sub (SF.args (.ref x) (.str name tk) v) ?_)
  have hmr : W.Looks (model prog w) hp (mroOf (.ref C)) cd.mro := (W.looks_clsIn X hcd).andThen .now
  have L3 : W.Looks (model prog w) hp (storeTaker? none) none := .now
  have hcls : W.Looks (model prog w) hp (classData C) cd := W.looks_clsIn X hcd
  rw [W.osa_eq, refuse_eq]
  refine wpAny_bind (wpAny_bind (I.type.at (wpAny_bind (hmr.at ?_))))
  rw [excTail_pass _ (T.pass _) _ T.tail]
  refine wpAny_pure (wpAny_bind (I.type.at (wpAny_bind ((W.looks_findIn X ha).at (wpAny_bind (L3.at ?_))))))
  show wpAny _ _ (storeInOwnDict (.ref x) (.ref C) (.str name tk) name v false) _ _ _
  obtain ⟨nm, bs, mro, ns, qn, hd, sn, sb, ab, col, del⟩ := cd
  dsimp only at hh
  subst hh
  unfold storeInOwnDict ownDictForStores
  repeat (first | with_reducible refine store_in_new ?_ ?_ | with_reducible refine wpAny_loadPart_at hx ?_ | with_reducible refine hcls.at ?_ | wp_step)
  · exact ⟨_, #[], _, (Heap.get?_update_ne _ _ _ _ hxs.symm).trans (Heap.get?_push_at rfl rfl), rfl, fun e he => absurd he (by simp), fun _ => rfl⟩
  · intro h' tk' hn' hs
    have hx₁ : (hp.push { cls := .type "dict", data := .dict #[] }).get? x = some { cls := .ref C, data := .fields fv } := Heap.get?_push_of_some _ hx
    refine hq h' tk' hp.objs.size (fun b o hb ho => ?_) (Nat.le_refl _) hxs.symm ?_ hn'
    · exact (hs.2 b (Nat.ne_of_lt (Heap.lt_size ho))).trans ((Heap.get?_update_ne _ _ _ _ hb).trans (Heap.get?_push_of_some _ ho))
    · exact (hs.2 x hxs).trans (Heap.get?_update_self _ hx₁ rfl)
/-- a further field -/
theorem osa_old {K : W.Frag} {name : Str} {tk : Tok} {v : Value} {x C dx : Addr} {fv : Array Value} {cd : ClassData} {m0 : Str → Option Value} {nl : List Str} {bmB : List Value}
    (X : K.In hp) (hx : hp.get? x = some { cls := .ref C, dict := some dx, data := .fields fv }) (hns : hp.Ns1 dx m0) (hw : Within m0 nl) (hz : nl.length ≤ 1000) (hcd : W.clsIn K C = some cd) (T : Tail bmB cd.mro) (hh : cd.hasDict = true)
    (ha : W.findIn K (.ref C) name = some none)
    (hq : ∀ h' tk', (∀ b o, b ≠ dx → hp.get? b = some o → h'.get? b = some o) → h'.Ns1 dx (fun y => if y = name then some v else m0 y) → R (.ok (.ret .none)) ⟨h', g, d, tk', os⟩) :
    codeAny (model prog w) A (.call (.builtin "object.__setattr__") ⟨[.ref x, .str name tk, v], []⟩) R ⟨hp, g, d, t, os⟩ := by
  obtain ⟨oD, esD, epD, hoD, hdD, _⟩ := hns.count hw
  have I : W.InstAt hp x { cls := .ref C, dict := some dx, data := .fields fv } C (some oD) := ⟨hx, rfl, rfl, hoD⟩
  have SF := F.store_object
  have sub : W.Looks (model prog w) hp (isInstance (.ref x) (.type "object")) true := I.type.andThen (W.looks_mroIn X (by unfold W.mroIn; rw [hcd, Option.bind_some, if_neg (by rw [T.ne]; decide), T.has]))
  refine codeAny_call_builtin SF.slot.plain SF.entry (@W.check_slot (model prog w) _ _ ⟨hp, g, d, t, os⟩ "object.__setattr__" "object" "__setattr__" (.ref x) [.str name tk, v] [] _ SF.kind SF.split sub (SF.args (.ref x) (.str name tk) v) ?_)
  have hmr : W.Looks (model prog w) hp (mroOf (.ref C)) cd.mro := (W.looks_clsIn X hcd).andThen .now
  have L3 : W.Looks (model prog w) hp (storeTaker? none) none := .now
  have hcls : W.Looks (model prog w) hp (classData C) cd := W.looks_clsIn X hcd
  rw [W.osa_eq, refuse_eq]
  refine wpAny_bind (wpAny_bind (I.type.at (wpAny_bind (hmr.at ?_))))
  rw [excTail_pass _ (T.pass _) _ T.tail]
  refine wpAny_pure (wpAny_bind (I.type.at (wpAny_bind ((W.looks_findIn X ha).at (wpAny_bind (L3.at ?_))))))
  show wpAny _ _ (storeInOwnDict (.ref x) (.ref C) (.str name tk) name v false) _ _ _
  obtain ⟨nm, bs, mro, ns, qn, hd, sn, sb, ab, col, del⟩ := cd
  dsimp only at hh
  subst hh
  unfold storeInOwnDict ownDictForStores
  repeat (first | with_reducible refine OEX.store_in_old hns hw hz ?_ | with_reducible refine wpAny_loadPart_at hx ?_ | with_reducible refine hcls.at ?_ | wp_step)
  intro h' tk' hn' hs
  exact hq h' tk' (fun b o hb ho => (hs.2 b hb).trans ho) hn'
end
end VxS
end PySem

set_option Elab.async false
set_option linter.all false
set_option maxRecDepth 100000
set_option maxHeartbeats 4000000
namespace L2
open PySem PySem.Spec PyProof.Rows

/-- what the written part says of an exception class of the program -/
structure Xc (K : PySem.W.Frag) (C : Addr) : Prop where
  cls : ∃ (nm q : Str) (N : Addr) (bs bm : List Value) (sn : List Str) (sub : List Value) (ab : Bool) (col : Option Bool) (dd : Option Addr) (k0 k1 k2 k3 k5 : Option Value) (B newId initId : String) (bmB : List Value),
    K.lookup C = some (excClassObj nm q C N bs bm true sn sub ab col dd k0 k1 k2 k3 k5 newId) ∧ ExcBaseFacts B newId initId bmB ∧ VxS.Tail bmB (.ref C :: bm)
  sa : PySem.W.findIn K (.ref C) "__setattr__" = some (some (.builtin "object.__setattr__"))
  ga : PySem.W.findIn K (.ref C) "__getattribute__" = some (some (.builtin "BaseException.__getattribute__"))
  gg : PySem.W.findIn K (.ref C) "__getattr__" = some none
  exC : PySem.W.subIn K (.ref C) (.type "BaseException") = some true
  tyC : PySem.W.typeIn K (.ref C) = some (.type "type")
  kC : PySem.W.keepIn K (.ref C) = true
  hdC : PySem.W.hasDictIn K C = true
  ca : PySem.W.findIn K (.ref C) "__class__" = some (some (.builtin "object.__class__"))
  cn : PySem.W.specialIn K (.builtin "object.__class__") "__get__" = some (some (.builtin "getset_descriptor.__get__"))
  ct : PySem.W.takesIn K (.builtin "object.__class__") = some true
  cm : PySem.W.mroIn K C (.type "object") = some true

/-- an exception of the class at C, its own dict at d -/
def exV (e C d : Addr) : HO := .ext fun h => ∃ (oe : Obj) (vs : Array Value), h.get? e = some oe ∧ oe.cls = .ref C ∧ oe.dict = some d ∧ oe.data = .fields vs
theorem exV_ok {P : Program} {w : World} {H : Hp} {h : Heap} {e C d : Addr} {oe : Obj} {vs : Array Value} (he : h.get? e = some oe) (hc : oe.cls = .ref C) (hd : oe.dict = some d) (hv : oe.data = .fields vs) : ObjOk P w H h e (exV e C d) :=
  ⟨⟨oe, vs, he, hc, hd, hv⟩, ⟨_, he⟩, fun h1 h2 z k => by
    obtain ⟨o, v, q, r⟩ := z
    exact ⟨o, v, k _ q, r⟩⟩
theorem exV_at {P : Program} {w : World} {H : Hp} {h : Heap} {e C d : Addr} (hok : HOk P w H h) (he : H e = some (exV e C d)) : ∃ (oe : Obj) (vs : Array Value), h.get? e = some oe ∧ oe.cls = .ref C ∧ oe.dict = some d ∧ oe.data = .fields vs := by
  have x : ObjOk P w H h e (.ext fun h => ∃ (oe : Obj) (vs : Array Value), h.get? e = some oe ∧ oe.cls = .ref C ∧ oe.dict = some d ∧ oe.data = .fields vs) := hok e _ he
  exact x.1
/-- at e: an exception of the class at C with these fields -/
def ExAt (H : Hp) (e C : Addr) (fs : List (Str × V)) : Prop := ∃ d, H e = some (exV e C d) ∧ H d = some (.xd fs)
theorem ExAt.mono {H H' : Hp} {e C : Addr} {fs : List (Str × V)} (x : ExAt H e C fs) (s : Same H H') : ExAt H' e C fs := by
  obtain ⟨d, h1, h2⟩ := x
  exact ⟨d, s _ _ h1, s _ _ h2⟩

section
variable {X : Cx} {pins : List (Addr × Obj)} {σ : St} {H : Hp} {s : Shared} {a C dx : Addr} {f : Str} {y : V} {u : Value} {fs : List (Str × V)} {Q : Unit → Shared → Prop} {E : Value → Shared → Prop} {A : Around}
theorem xst_new (T : Xc X.K C) (I : Inv X pins σ H s) (e : H a = some (exo a C none)) (hno : PySem.W.findIn X.K (.ref C) f = some none) (ry : RelV y u)
    (h : ∀ dx s', H dx = none → dx ≠ a → Inv X pins σ (upd (upd H dx (exd dx [(f, y)])) a (exo a C (some dx))) s' → Q () s') : wpAny (model X.prog X.w) A (setAttr (.ref a) f u) Q E s := by
  obtain ⟨nm, q, N, bs, bm, sn, sub, ab, col, dd, k0, k1, k2, k3, k5, B, newId, initId, bmB, hC, FB, hbm⟩ := T.cls
  have hcl : PySem.W.clsIn X.K C = some { name := nm, bases := bs, mro := .ref C :: bm, ns := N, qualname := q, hasDict := true, slotNames := sn, subclasses := sub, abstract := ab, collection := col, hasDel := false } := by unfold PySem.W.clsIn; rw [hC] <;> rfl
  obtain ⟨t1, ho⟩ := exo_at I.hok e
  obtain ⟨hp, g, d, t, os⟩ := s
  refine PySem.W.set_plain I.kIn (ox := { cls := .ref C, dict := none, data := .fields #[.ref t1, .none, .none, .none, .bool false, .none] }) (od := none) ⟨ho, rfl, rfl, trivial⟩ T.sa ?_
  refine VxS.osa_new I.kIn ho hcl hbm rfl hno (fun h' tk' dx k dn dne hx hn => ?_)
  have hnd : H dx = none := I.hok.fresh dn
  have nd : ∀ {b : Addr} {o : Obj}, hp.get? b = some o → b ≠ dx := fun {b o} q => Nat.ne_of_lt (Nat.lt_of_lt_of_le (Heap.lt_size q) dn)
  have na : ∀ {b : Addr}, H b = none → b ≠ a := fun {b} n z => by
    rw [z, e] at n
    cases n
  have Un1 : Un X.fs [] H (upd (upd H dx (exd dx [(f, y)])) a (exo a C (some dx))) hp h' := {
    keep := fun b o q n _ _ => k b o (na n) q
    slot := fun b o q n _ _ => ⟨o.slots, k b o (na n) q⟩
    free := fun b o q n _ => by rw [upd_ne (na n), upd_ne (nd q)]; exact n
    there := fun b o q _ => by
      by_cases hb : b = a
      · exact ⟨_, by rw [hb]; exact hx⟩
      · exact ⟨o, k b o hb q⟩
    tups := fun b xs q => by rw [upd_ne (at_ne e q exo_tup), upd_ne (ne_of_none q hnd)]; exact q
    frzs := fun b o v q => by rw [upd_ne (at_ne e q exo_frz), upd_ne (ne_of_none q hnd)]; exact q
    tbls := fun b ps q => ⟨#[], by rw [upd_ne (at_ne e q exo_tbl), upd_ne (ne_of_none q hnd), q]; simp⟩ }
  refine h dx _ hnd dne (I.un (t' := tk') Un1 fun b o q => ?_)
  by_cases hb : b = a
  · subst hb
    rw [upd_same] at q
    cases q
    exact exo_ok hx
  · rw [upd_ne hb] at q
    by_cases hd : b = dx
    · subst hd
      rw [upd_same] at q
      cases q
      exact exd_ok hn (relO_put (fs := []) ry fun g => True.intro)
    · rw [upd_ne hd] at q
      exact (I.hok b o q).stay (fun c v hc z => k c v (by
          rcases hc with hc | hc
          · rw [hc]
            exact hb
          · exact at_ne e hc exo_own) z)
        (fun c hc => by rw [upd_ne (at_ne e hc exo_own), upd_ne (ne_of_none hc hnd)]; exact hc) (fun c xs hc => by rw [upd_ne (at_ne e hc exo_tup), upd_ne (ne_of_none hc hnd)]; exact hc)
theorem xst_old (T : Xc X.K C) (I : Inv X pins σ H s) (e : H a = some (exo a C (some dx))) (ed : H dx = some (exd dx fs)) (hl : fs.length ≤ 900) (hno : PySem.W.findIn X.K (.ref C) f = some none) (ry : RelV y u)
    (h : ∀ s', Inv X pins σ (upd H dx (exd dx ((f, y) :: fs))) s' → Q () s') : wpAny (model X.prog X.w) A (setAttr (.ref a) f u) Q E s := by
  obtain ⟨nm, q, N, bs, bm, sn, sub, ab, col, dd, k0, k1, k2, k3, k5, B, newId, initId, bmB, hC, FB, hbm⟩ := T.cls
  have hcl : PySem.W.clsIn X.K C = some { name := nm, bases := bs, mro := .ref C :: bm, ns := N, qualname := q, hasDict := true, slotNames := sn, subclasses := sub, abstract := ab, collection := col, hasDel := false } := by unfold PySem.W.clsIn; rw [hC] <;> rfl
  obtain ⟨t1, ho⟩ := exo_at I.hok e
  obtain ⟨mA, hns, rel⟩ := exd_at I.hok ed
  have hw := within_of rel
  obtain ⟨hp, g, d, t, os⟩ := s
  obtain ⟨oD, _, _, hoD, _, _⟩ := hns.count hw
  refine PySem.W.set_plain I.kIn (ox := { cls := .ref C, dict := some dx, data := .fields #[.ref t1, .none, .none, .none, .bool false, .none] }) (od := some oD) ⟨ho, rfl, rfl, hoD⟩ T.sa ?_
  refine VxS.osa_old I.kIn ho hns hw (by rw [List.length_map]; omega) hcl hbm rfl hno (fun h' tk' k hn => ?_)
  have hd : ∃ o, h'.get? dx = some o := by
    obtain ⟨o, _, _, e', _⟩ := hn
    exact ⟨o, e'⟩
  exact h _ (I.write (t' := tk') (x := dx) (e := dx) (o := exd dx ((f, y) :: fs)) (by rw [ed]; exact True.intro) (.inl rfl) k hd (exd_ok hn (relO_put ry rel)))
end
/-- self.f = e in an exception's __init__ -/
def tXst (K : PySem.W.Frag) (f : Str) (to te : TE) : TS := fun D σ H => te σ H fun y H1 => to σ H1 fun x H2 => ∃ a C : Addr, x = .ref a ∧ Xc K C ∧ PySem.W.findIn K (.ref C) f = some none ∧
  ((H2 a = some (exo a C none) ∧ ∀ dx, H2 dx = none → dx ≠ a → D.nx σ (upd (upd H2 dx (exd dx [(f, y)])) a (exo a C (some dx)))) ∨
    ∃ (dx : Addr) (fs : List (Str × V)), H2 a = some (exo a C (some dx)) ∧ H2 dx = some (exd dx fs) ∧ fs.length ≤ 900 ∧ D.nx σ (upd H2 dx (exd dx ((f, y) :: fs))))
section
variable {X : Cx} {o e : Expr} {es : List Expr} {to te : TE} {ta : TA} {f : Str} {p p' p1 p2 pos : Pos}
theorem ps_xst (ho : PE X o to) (he : PE X e te) (hs : swapsWith e (some (.Attribute o f p')) pos.line X.env = pure false := by rfl) : PS X (.Assign [.Attribute o f p'] e pos) (tXst X.K f to te) := by
  refine ⟨fun pins s σ H D I h => ?_⟩
  refine plainObj_wpAny_Assign_Attribute (thn (he.run pins s σ H _ I h) fun v s1 ⟨y, H1, I1, r1, q1⟩ => thn (ho.run pins s1 σ H1 _ I1 q1) fun u s2 ⟨x, H2, I2, r2, a, C, ex, T, hno, q⟩ => ?_) hs
  subst ex
  obtain rfl : u = Value.ref a := r2
  rcases q with ⟨ea, q⟩ | ⟨dx, fs, ea, ed, hl, q⟩
  · exact xst_new T I2 ea hno r1 fun dx s' n ne J => ⟨σ, _, J, q dx n ne⟩
  · exact xst_old T I2 ea ed hl hno r1 fun s' J => ⟨σ, _, J, q⟩
end
/-- isinstance(e, c), e an exception of the program -/
def rIsX (K : PySem.W.Frag) : List V → Hp → VK → Prop := fun xs H Q => ∃ (a C : Addr) (fs : List (Str × V)) (c : V) (cv : Value) (b : Bool), xs = [.ref a, c] ∧ ExAt H a C fs ∧ Xc K C ∧ (∀ u, RelV c u → u = cv) ∧ PySem.W.kitOne K (.ref C) cv = some b ∧ Q (.bl b) H
theorem exV_inst {X : Cx} {pins : List (Addr × Obj)} {σ : St} {H : Hp} {s : Shared} {a C : Addr} {fs : List (Str × V)} (I : Inv X pins σ H s) (x : ExAt H a C fs) :
    ∃ (oe od : Obj) (mA : Str → Option Value), PySem.W.InstAt s.heap a oe C (some od) ∧ (∀ name, PySem.W.lookIn name od = some (mA name)) ∧ ∀ f, RelO (fs.lookup f) (mA f) := by
  obtain ⟨d, h1, h2⟩ := x
  obtain ⟨oe, vs, he, hc, hd, hv⟩ := exV_at I.hok h1
  have hx : ObjOk X.prog X.w H s.heap d (.xd fs) := I.hok d _ h2
  obtain ⟨mA, hns, hr⟩ := hx
  obtain ⟨od, ho, hl⟩ := lookIn_ns hns
  exact ⟨oe, od, mA, ⟨he, hc, by unfold PySem.W.notCls; rw [hv] <;> rfl, by rw [hd]; exact ho⟩, hl, hr⟩
theorem Xc.kit {K : PySem.W.Frag} {C x : Addr} {ox : Obj} {od : Option Obj} (T : Xc K C) : PySem.W.KitX K (.ref x) (.ref C) (fun h => PySem.W.InstAt h x ox C od) :=
  PySem.W.kitx_exc (by
    obtain ⟨cd, hc, _⟩ := PySem.W.any_some T.hdC
    rw [hc] <;> rfl) T.ga T.gg T.exC T.ca T.cn T.ct T.cm
theorem call_isX {X : Cx} : CallR X (.builtin "isinstance") (rIsX X.K) := by
  intro pins s σ H xs us Q I r h
  obtain ⟨a, C, fs, c, cv, b, rfl, x, T, hcv, e, q⟩ := h
  cases r with
  | cons rx rr =>
    cases rr with
    | cons rt rr =>
      cases rr
      cases rx
      have ec := hcv _ rt
      subst ec
      obtain ⟨oe, od, mA, J, _, _⟩ := exV_inst I x
      exact PySem.W.kia_one T.kit I.kIn J e (fun z => nomatch z) fun tk => ⟨.bl b, H, I.kept (t' := tk) fun _ _ z => z, rfl, q⟩
/-- isinstance(e, (c1, c2, ..)), e an exception of the program -/
def rIsXT (K : PySem.W.Frag) : List V → Hp → VK → Prop := fun xs H Q => ∃ (a C tp : Addr) (fs : List (Str × V)) (ts : List V) (cvs : List Value) (b : Bool), xs = [.ref a, .ref tp] ∧ ExAt H a C fs ∧ Xc K C ∧ H tp = some (.tup ts) ∧
  (∀ us, Vals ts us → us = cvs) ∧ PySem.W.kitAny K (.ref C) cvs = some b ∧ Q (.bl b) H
theorem call_isXT {X : Cx} : CallR X (.builtin "isinstance") (rIsXT X.K) := by
  intro pins s σ H xs us Q I r h
  obtain ⟨a, C, tp, fs, ts, cvs, b, rfl, x, T, ht, hcv, e, q⟩ := h
  cases r with
  | cons rx rr =>
    cases rr with
    | cons rt rr =>
      cases rr
      cases rx
      cases rt
      obtain ⟨oe, od, mA, J, _, _⟩ := exV_inst I x
      obtain ⟨_, its, rv, o, ho, hcl, n, hdt⟩ := I.hok tp _ ht
      have ev := hcv _ rv
      subst ev
      obtain ⟨oc, odd, oda, osl⟩ := o
      dsimp only at hcl hdt
      subst hcl hdt
      exact PySem.W.kia_tup T.kit I.kIn J ho e (fun z => nomatch z) fun tk => ⟨.bl b, H, I.kept (t' := tk) fun _ _ z => z, rfl, q⟩
/-- e.f of an exception of the program -/
def tXfd (K : PySem.W.Frag) (f : Str) (te : TE) : TE := fun σ H Q => te σ H fun x H1 => ∃ (a C : Addr) (fs : List (Str × V)) (v : V), x = .ref a ∧ ExAt H1 a C fs ∧ Xc K C ∧ PySem.W.findIn K (.ref C) f = some none ∧ fs.lookup f = some v ∧ Q v H1
theorem pe_xfd {X : Cx} {e : Expr} {te : TE} {pos : Pos} {n : Str} (he : PE X e te) (hb : attributeBase e n X.env (eval e X.env) = eval e X.env := by rfl) : PE X (.Attribute e n pos) (tXfd X.K n te) := by
  refine ⟨fun pins s σ H Q I h => ?_⟩
  refine attr_of hb (thn (he.run pins s σ H _ I h) fun u s1 hh => ?_)
  obtain ⟨x, H1, I1, rx, a, C, fs, v, ex, xa, T, hno, l, q⟩ := hh
  subst ex
  obtain rfl : u = Value.ref a := rx
  obtain ⟨oe, od, mA, J, hl, hr⟩ := exV_inst I1 xa
  obtain ⟨u, hu, ru⟩ := RelO.some_of (v := v) (o := mA n) (by rw [← l]; exact hr n)
  exact HandSPX.exc_get I1.kIn J T.ga T.gg T.exC (PySem.W.findObj_own T.hdC hno rfl (by rw [hl, hu])) (handed_of ru) ⟨v, H1, I1.tok _, ru, q⟩
end L2

set_option Elab.async false
set_option linter.all false
set_option maxRecDepth 100000
set_option maxHeartbeats 4000000
namespace PySem
namespace VxS
open PySem.W PySem.Calls PyProof.Rows PySem.HandSPX
section
variable {M : Model} {A : Around} {E : Value → Shared → Prop} {h : Heap} {g : Array GenState} {d : Drawn} {t : Nat} {os : OsState}
variable {nm q : Str} {C N : Addr} {bs bm bmB : List Value} {hdct : Bool} {sn : List Str} {sub : List Value} {ab : Bool} {col : Option Bool} {dd : Option Addr} {k0 k1 k2 k3 k5 : Option Value} {B newId initId : String}
theorem check_newK (F : ExcBaseFacts B newId initId bmB) (hT : ∀ X : String, bm.contains (.type X) = bmB.contains (.type X)) {rest : List Value} {kw : List (Str × Value)} {Q : Unit → Shared → Prop}
    (hC : h.get? C = some (excClassObj nm q C N bs bm hdct sn sub ab col dd k0 k1 k2 k3 k5 newId)) (hq : Q () ⟨h, g, d, t, os⟩) : wpAny M A (checkBuiltinCall newId ⟨.ref C :: rest, kw⟩) Q E ⟨h, g, d, t, os⟩ := by
  have hcont : (Value.ref C :: bm).contains (.type B) = true := by rw [List.contains_cons, hT, F.hasB, Bool.or_true]
  have hstar := F.noStar
  simp only [checkBuiltinCall, F.newKind, F.newSplit, F.newRow]
  repeat (first | refine wpAny_loadPart_at hC ?_ | (refine wpAny_isSubtype_exc hC ?_; rw [hcont]) | refine wpAny_staticBase_exc hC ?_ | refine wpAny_madeBy_exc hC ?_ | simp only [bne_self_eq_false, Bool.false_eq_true, if_false] | wp_step)
  exact hq
end
section
variable {prog : Program} {w : World} {A : Around} {E : Value → Shared → Prop} {R : Result → Shared → Prop} {h : Heap} {g : Array GenState} {d : Drawn} {t : Nat} {os : OsState}
variable {nm q : Str} {C N : Addr} {bs bm bmB : List Value} {hdct : Bool} {sn : List Str} {sub : List Value} {ab : Bool} {col : Option Bool} {dd : Option Addr} {k0 k1 k2 k3 k5 : Option Value} {B newId initId : String}
theorem new_K (F : ExcBaseFacts B newId initId bmB) (hT : ∀ X : String, bm.contains (.type X) = bmB.contains (.type X)) {rest : List Value} {kw : List (Str × Value)}
    (hC : h.get? C = some (excClassObj nm q C N bs bm hdct sn sub ab col dd k0 k1 k2 k3 k5 newId))
    (hq : R (.ok (.ret (.ref (h.objs.size + 1)))) ⟨(h.push { cls := .type "tuple", data := .seq rest.toArray }).push
      { cls := .ref C, data := .fields #[.ref h.objs.size, .none, .none, .none, .bool false, .none] }, g, d, t, os⟩) (hrest : rest.length ≤ sizeLine) :
    codeAny (model prog w) A (.builtin newId ⟨.ref C :: rest, kw⟩) R ⟨h, g, d, t, os⟩ := by
  have hends := F.ends
  have hcB : (Value.ref C :: bm).contains (.type B) = true := by rw [List.contains_cons, hT, F.hasB, Bool.or_true]
  have hcA : (Value.ref C :: bm).contains (.type "AttributeError") = false := by rw [List.contains_cons, hT, F.noAttr]; rfl
  have hcN : (Value.ref C :: bm).contains (.type "NameError") = false := by rw [List.contains_cons, hT, F.noName]; rfl
  refine codeAny_builtinAt F.entry ?_
  unfold Builtin.«BaseException.__new__»
  refine wpAt_bind ?_
  show wpAt _ _ _ (stack >>= _) _ _ _
  refine wpAt_bind (wpAt_stack fun p below => wpAt_of_wpAny ?_)
  wp_walk
  refine wpAt_of_wpAny ?_
  rw [F.owner]
  repeat (first | with_reducible refine wpAny_madeHere_exc F.canon hC ?_ | with_reducible refine wpAny_loadPart_at hC ?_ | (with_reducible refine wpAny_isSubtype_exc hC ?_; first | rw [hcB] | rw [hcA] | rw [hcN]) | wp_step)
  show R _ _
  rw [Heap.size_push]
  exact hq
theorem type_call_K (F : ExcBaseFacts B newId initId bmB) (hT : ∀ X : String, bm.contains (.type X) = bmB.contains (.type X)) {rest : List Value} {kw : List (Str × Value)} {fI : Addr} {Q : Fin → Shared → Prop}
    (hC : h.get? C = some (excClassObj nm q C N bs bm hdct sn sub ab col dd k0 k1 k2 k3 k5 newId))
    (hi : W.Looks (model prog w) h (typeLookup (.ref C) "__init__") (some (.ref fI))) (hb : ∀ self, W.Looks (model prog w) h (bindSpecial (.ref fI) self) (.ref fI, [self])) (hrest : rest.length ≤ sizeLine)
    (hq : codeAny (model prog w) A (.call (.ref fI) ⟨.ref (h.objs.size + 1) :: rest, kw⟩)
      (fun r s' => match r with | .ok (.ret v) => v = .none ∧ Q (.done (.ret (.ref (h.objs.size + 1)))) s' | .ok _ => False | .error e => E e s')
      ⟨(h.push (W.kdv_tup rest)).push (excO C h.objs.size), g, d, t, os⟩) :
    wpAny (model prog w) A (Builtin.«type.__call__» ⟨.ref C :: rest, kw⟩) Q E ⟨h, g, d, t, os⟩ := by
  repeat (first | with_reducible refine wpAny_loadPart_at hC ?_ | with_reducible refine wpAny_madeBy_exc hC ?_ | wp_step)
  refine codeAny_call_builtin_code (Code.quiet_builtin _ F.quiet) (check_newK F hT hC ?_)
  refine new_K F hT hC ?_ hrest
  show wpAny _ _ _ _ _ _
  have k : ∀ b o, h.get? b = some o → ((h.push (W.kdv_tup rest)).push (excO C h.objs.size)).get? b = some o := fun b o e => Heap.get?_push_of_some _ (Heap.get?_push_of_some _ e)
  have hC₁ := k _ _ hC
  have hget : ((h.push (W.kdv_tup rest)).push (excO C h.objs.size)).get? (h.objs.size + 1) = some (excO C h.objs.size) := by heap_get
  have hcC : (Value.ref C :: bm).contains (.ref C) = true := by simp
  have i1 := hi.keeps k
  have b1 := (hb (.ref (h.objs.size + 1))).keeps k
  unfold isInstance
  repeat (first | with_reducible refine wpAny_loadPart_at hget ?_ | (with_reducible refine wpAny_isSubtype_exc hC₁ ?_; rw [hcC]) | wp_step)
  show wpAny _ _ (typeLookup (.ref C) _) _ _ _
  refine i1.at ?_
  refine wpAny_holding (wpAny_bind (b1.at ?_))
  refine wpAny_bind (wpAny_call (codeAny_mono hq fun r s' z => ?_))
  rcases r with e | (v | _ | _ | _) <;> first | exact z | exact z.elim | skip
  obtain ⟨rfl, z⟩ := z
  first
    | exact wpAny_pure (wpAny_pure z)
    | (wp_walk; exact z)
theorem call_K (F : ExcBaseFacts B newId initId bmB) (hT : ∀ X : String, bm.contains (.type X) = bmB.contains (.type X)) {rest : List Value} {kw : List (Str × Value)} {fI : Addr}
    (hC : h.get? C = some (excClassObj nm q C N bs bm hdct sn sub ab col dd k0 k1 k2 k3 k5 newId))
    (hi : W.Looks (model prog w) h (typeLookup (.ref C) "__init__") (some (.ref fI))) (hb : ∀ self, W.Looks (model prog w) h (bindSpecial (.ref fI) self) (.ref fI, [self])) (hrest : rest.length ≤ sizeLine)
    (hq : codeAny (model prog w) (A.under (.builtin "type.__call__" ⟨.ref C :: rest, kw⟩)) (.call (.ref fI) ⟨.ref (h.objs.size + 1) :: rest, kw⟩) (W.InitBack (h.objs.size + 1) R)
      ⟨(h.push (W.kdv_tup rest)).push (excO C h.objs.size), g, d, t, os⟩) :
    codeAny (model prog w) A (.call (.ref C) ⟨rest, kw⟩) R ⟨h, g, d, t, os⟩ := by
  have f1 := tc_lookup
  have f2 := tc_bind (.ref C)
  have hTy : (⟨h, g, d, t, os⟩ : Shared).TypeIs (.ref C) "type" := ⟨_, hC, rfl⟩
  refine codeAny_of_tree ?_
  show wpAny _ _ (callAny (.ref C) _) _ _ _
  repeat (any_goals (first | assumption | with_reducible refine wpAny_loadPart_at hC ?_ | wp_step))
  refine ⟨rfl, ?_⟩
  refine codeAny_call_builtin_at (Code.quiet_builtin _ (by decide +kernel)) entry_typeCall (wpAny_check_type_call_sub hC (type_call_K F hT hC hi hb hrest ?_))
  refine codeAny_mono hq fun r s' z => ?_
  rcases r with e | (v | _ | _ | _) <;> exact z
end
end VxS
end PySem

set_option Elab.async false
set_option linter.all false
set_option maxRecDepth 100000
set_option maxHeartbeats 4000000
namespace L2
open PySem PySem.Spec PyProof.Rows
/-- an object is told otherwise -/
theorem HOk.retype {P : Program} {w : World} {H : Hp} {h : Heap} {x : Addr} {o' : HO} (ok : HOk P w H h) (mu : Mut (H x)) (hx : ∃ o, h.get? x = some o) (new : ObjOk P w (upd H x o') h x o') : HOk P w (upd H x o') h :=
  ok.write mu (.inl rfl) (fun _ _ _ e => e) hx new
section
variable {X : Cx} {CX : CXT} {k : Nat} {C fI : Addr} {fd : FuncData} {ps : List Str} {sp : Sp} {x : Str} {p pos : Pos} {e : Expr} {es : List Expr} {kws : List Keyword} {t tk : TA}
/-- behind the __init__: the exception and its dict stand as an exception's -/
theorem xnew_end {pins : List (Addr × Obj)} {σ : St} {H1 H2 : Hp} {hp hp2 h2 : Heap} {g1 g2 : Array GenState} {d1 d2 : Drawn} {t1 t2 : Nat} {os1 os2 : OsState} {a d : Addr} {fs : List (Str × V)} (I1 : Inv X pins σ H1 ⟨hp, g1, d1, t1, os1⟩)
    (ha : hp.objs.size ≤ a) (kk : ∀ b o, hp.get? b = some o → hp2.get? b = some o) (un : Un (frs X.stack) [] (upd H1 a (exo a C none)) H2 hp2 h2) (hok : HOk X.prog X.w H2 h2) (ho : os2 = os1) (hb : AllBare g2)
    (ea : H2 a = some (exo a C (some d))) (ed : H2 d = some (exd d fs)) : Inv X pins σ (upd (upd H2 a (exV a C d)) d (.xd fs)) ⟨h2, g2, d2, t2, os2⟩ := by
  obtain ⟨t0, hoe⟩ := exo_at hok ea
  obtain ⟨mA, hns, rel⟩ := exd_at hok ed
  have hn : H1 a = none := I1.hok.fresh ha
  have hda : d ≠ a := fun z => by
    obtain ⟨o, es, ep, e1, e2, _⟩ := hns
    rw [z, hoe] at e1
    have z2 := Option.some.inj e1
    subst z2
    cases e2
  have nha : ∀ {b : Addr} {o : Obj}, hp.get? b = some o → b ≠ a := fun {b o} z => Nat.ne_of_lt (Nat.lt_of_lt_of_le (Heap.lt_size z) ha)
  have up : ∀ {b : Addr}, b ≠ a → H1 b = none → upd H1 a (exo a C none) b = none := fun {b} hb n => by rw [upd_ne hb]; exact n
  have nd : ∀ {b : Addr} {o : Obj}, hp.get? b = some o → H1 b = none → b ≠ d := fun {b o} z n e => by
    have y := un.free b o (kk b o z) (up (nha z) n) (by simp)
    rw [e, ed] at y
    cases y
  have U : Un (frs X.stack) [] H1 (upd (upd H2 a (exV a C d)) d (.xd fs)) hp h2 := {
    keep := fun b o z n hf hx => un.keep b o (kk b o z) (up (nha z) n) hf hx
    slot := fun b o z n hf hx => un.slot b o (kk b o z) (up (nha z) n) hf hx
    free := fun b o z n hx => by
      rw [upd_ne (nd z n), upd_ne (nha z)]
      exact un.free b o (kk b o z) (up (nha z) n) hx
    there := fun b o z hx => un.there b o (kk b o z) hx
    tups := fun b xs z => by
      have q := un.tups b xs (by rw [upd_ne (ne_of_none z hn)]; exact z)
      rw [upd_ne (at_ne ed q exd_tup), upd_ne (ne_of_none z hn)]
      exact q
    frzs := fun b o v z => by
      have q := un.frzs b o v (by rw [upd_ne (ne_of_none z hn)]; exact z)
      rw [upd_ne (at_ne ed q (fun y => by
        have y' : HO.ext _ = HO.frz o v := y
        cases y')), upd_ne (ne_of_none z hn)]
      exact q
    tbls := fun b ps z => by
      obtain ⟨m, q⟩ := un.tbls b ps (by rw [upd_ne (ne_of_none z hn)]; exact z)
      refine ⟨m, ?_⟩
      rw [upd_ne (at_ne ed q (fun y => by
        have y' : HO.ext _ = HO.tbl (ps ++ m) := y
        cases y')), upd_ne (ne_of_none z hn)]
      exact q }
  have ok1 : HOk X.prog X.w (upd H2 a (exV a C d)) h2 := hok.retype (by rw [ea]; exact True.intro) ⟨_, hoe⟩ (exV_ok hoe rfl rfl rfl)
  have ed1 : (upd H2 a (exV a C d)) d = some (exd d fs) := by rw [upd_ne hda]; exact ed
  have ok2 : HOk X.prog X.w (upd (upd H2 a (exV a C d)) d (.xd fs)) h2 := by
    obtain ⟨o, es, ep, e1, r⟩ := id hns
    exact ok1.retype (by rw [ed1]; exact True.intro) ⟨o, e1⟩ ⟨mA, hns, rel⟩
  exact I1.call' (ch := []) ho U ok2 hb (fun b z => absurd z (by simp))
/-- C(..) of an exception class of the program, as a value. us: the positional values, kw the keywords', zs: bound in the parameters' order -/
theorem run_xnew {pins : List (Addr × Obj)} {σ : St} {H : Hp} {s : Shared} {Q : VK} {us zs : List Value} {kw : List (Str × Value)} {vs : List V} (T : Xc X.K C) (iC : PySem.W.findIn X.K (.ref C) "__init__" = some (some (.ref fI))) (tI : PySem.W.typeIn X.K (.ref fI) = some (.type "function"))
    (F1 : FnOk X.prog X.w X.K X.mg X.base CX k fI fd ps sp) (hr : Room (k + 1) X.A) (hx : Passes CX X (fun _ _ _ => False)) (hz : us.length ≤ sizeLine)
    (hb : ∀ (s : Shared) (a : Addr), X.K.In s.heap → BindsTo s fd ⟨Value.ref a :: us, kw⟩ (ps.zip (Value.ref a :: zs))) (I : Inv X pins σ H s) (r : Vals vs zs)
    (h : ∀ a, H a = none → sp (.ref a :: vs) (upd H a (exo a C none)) (fun v H2 => v = .non ∧ ∃ (d : Addr) (fs : List (Str × V)), H2 a = some (exo a C (some d)) ∧ H2 d = some (exd d fs) ∧ Q (.ref a) (upd (upd H2 a (exV a C d)) d (.xd fs))) (fun _ _ _ => False)) :
    wpAny (model X.prog X.w) X.A (call (.ref C) us kw) (EP X pins σ Q) X.xe s := by
  obtain ⟨nm, q, N, bs, bm, sn, sub, ab, col, dd, k0, k1, k2, k3, k5, B, newId, initId, bmB, hC, FB, hbm⟩ := T.cls
  have hT : ∀ Y : String, bm.contains (.type Y) = bmB.contains (.type Y) := fun Y => by
    have z := PySem.W.excTail_contains Y _ hbm.tail
    rw [List.contains_cons] at z
    have e : (Value.type Y == Value.ref C) = false := rfl
    rw [e, Bool.false_or] at z
    exact z
  obtain ⟨hp, g, dr, tk, os⟩ := s
  have hsz : hp.objs.size ≤ hp.objs.size + 1 := Nat.le_succ _
  have hn : H (hp.objs.size + 1) = none := I.hok.fresh hsz
  have hq := h (hp.objs.size + 1) hn
  have kk : ∀ b o, hp.get? b = some o → ((hp.push (PySem.W.kdv_tup us)).push (PySem.HandSPX.excO C hp.objs.size)).get? b = some o := fun b o e => Heap.get?_push_of_some _ (Heap.get?_push_of_some _ e)
  have hget : ((hp.push (PySem.W.kdv_tup us)).push (PySem.HandSPX.excO C hp.objs.size)).get? (hp.objs.size + 1) = some (PySem.HandSPX.excO C hp.objs.size) := by heap_get
  have I2 : Inv X pins σ (upd H (hp.objs.size + 1) (exo (hp.objs.size + 1) C none)) ⟨(hp.push (PySem.W.kdv_tup us)).push (PySem.HandSPX.excO C hp.objs.size), g, dr, tk, os⟩ :=
    I.laid (t' := tk) (a := hp.objs.size + 1) (o := exo (hp.objs.size + 1) C none) (h' := (hp.push (PySem.W.kdv_tup us)).push (PySem.HandSPX.excO C hp.objs.size)) kk hsz (exo_ok hget)
  have r2 : Vals (V.ref (hp.objs.size + 1) :: vs) (Value.ref (hp.objs.size + 1) :: zs) := .cons rfl r
  refine wpAny_call (VxS.call_K FB hT (I.kIn _ _ hC) (PySem.W.looks_findIn I.kIn iC) (fun self => PySem.W.bind_fn I.kIn self tI) hz
    (codeAny_mono (F1.run _ X.stack _ _ ⟨Value.ref (hp.objs.size + 1) :: us, kw⟩ (Value.ref (hp.objs.size + 1) :: zs) _ _ (fun _ _ _ => False) (hr.make C us kw) (I2.env0.make C us kw) (hb _ _ I2.kIn) r2 hq) fun r s' hq' => ?_))
  cases r with
  | error er => exact hx pins σ _ _ er s' I2 hq'
  | ok fl =>
    cases fl with
    | ret u =>
      obtain ⟨v, H2, os2, bare2, un2, hok2, rv, ev, d, fs, ea, ed, q2⟩ := hq'
      subst ev
      obtain ⟨h2, g2, d2, t2, os'⟩ := s'
      exact ⟨rv, .ref (hp.objs.size + 1), _, xnew_end (d2 := d2) (t2 := t2) I hsz kk un2 hok2 os2 bare2 ea ed, rfl, q2⟩
    | next => exact False.elim hq'
    | brk => exact False.elim hq'
    | cont => exact False.elim hq'
/-- the wish behind C(..): sp is the __init__'s promise, vs the values in the parameters' order -/
def XNew (C : Addr) (sp : Sp) (vs : List V) (H : Hp) (Q : VK) : Prop :=
  ∀ a, H a = none → sp (.ref a :: vs) (upd H a (exo a C none)) (fun v H2 => v = .non ∧ ∃ (d : Addr) (fs : List (Str × V)), H2 a = some (exo a C (some d)) ∧ H2 d = some (exd d fs) ∧ Q (.ref a) (upd (upd H2 a (exV a C d)) d (.xd fs))) (fun _ _ _ => False)
def tXnew (C : Addr) (sp : Sp) (t : TA) : TE := fun σ H Q => t σ H fun vs H1 => vs.length ≤ 1000 ∧ XNew C sp vs H1 Q
theorem pe_xnew (T : Xc X.K C) (iC : PySem.W.findIn X.K (.ref C) "__init__" = some (some (.ref fI))) (tI : PySem.W.typeIn X.K (.ref fI) = some (.type "function"))
    (F1 : FnOk X.prog X.w X.K X.mg X.base CX k fI fd ps sp) (hr : Room (k + 1) X.A) (hbd : Binds X.K fd ps []) (hx : Passes CX X (fun _ _ _ => False)) (hg : Gl X x) (hm : X.mg x = some (.ref C)) (ha : PA X (e :: es) t)
    (hdb : (x == ("__debug__" : Str)) = false := by decide) (he : starEach (e :: es) X.env = (false, eval e X.env) :: starEach es X.env := by rfl) (hpl : (backTo pos (starEach es X.env)).any (·.1) = false := by rfl) :
    PE X (.Call (.Name x p) (e :: es) [] pos) (tXnew C sp t) := by
  refine ⟨fun pins s σ H Q I h => ?_⟩
  refine wpAny_Call_Name_kw (ld_glob I hg hm ?_ hdb)
  refine PySem.W.callWith_K (h₀ := X.base) I.ok.mod.kin T.kC (thn (ha.run pos pins s σ H _ I h) fun us s1 ⟨vs, H1, I1, r1, hz, q1⟩ => ⟨I1.kIn, ?_⟩) he hpl
  have hl : ∀ a : Addr, (Value.ref a :: us).length = ps.length := fun a => by
    have e1 := F1.len _ _ _ _ (q1 s1.heap.objs.size (I1.hok.fresh (Nat.le_refl _)))
    rw [List.length_cons] at e1
    rw [List.length_cons, ← r1.length]
    exact e1
  exact run_xnew (us := us) T iC tI F1 hr hx (by rw [← r1.length, sizeLine_eq]; omega) (fun s a kin => by
    have z := hbd s (Value.ref a :: us) kin (by rw [List.append_nil]; exact hl a)
    rw [List.append_nil] at z
    exact z) I1 r1 q1
/-- C(k = v, ..): one | two keywords, in the parameters' order pe -/
def tXnewK (C : Addr) (sp : Sp) (n : Nat) (gV : List V → List V) (tk : TA) : TE := fun σ H Q => tk σ H fun zs H1 => zs.length = n ∧ XNew C sp (gV zs) H1 Q
theorem pe_xnewK {ks : List Str} {g : List Value → List Value} {gV : List V → List V} (T : Xc X.K C) (iC : PySem.W.findIn X.K (.ref C) "__init__" = some (some (.ref fI))) (tI : PySem.W.typeIn X.K (.ref fI) = some (.type "function"))
    (F1 : FnOk X.prog X.w X.K X.mg X.base CX k fI fd ps sp) (hr : Room (k + 1) X.A) (hbd : ∀ (s : Shared) (a : Addr) (ws : List Value), X.K.In s.heap → ws.length = ks.length → BindsTo s fd ⟨[Value.ref a], ks.zip ws⟩ (ps.zip (Value.ref a :: g ws)))
    (rel : ∀ {zs : List V} {ws : List Value}, Vals zs ws → Vals (gV zs) (g ws)) (hx : Passes CX X (fun _ _ _ => False)) (hg : Gl X x) (hm : X.mg x = some (.ref C)) (hkw : PK X kws tk)
    (hall : (backToKw pos (keywordEach kws X.env)).all (·.1.isSome) = true := by rfl) (hks : (backToKw pos (keywordEach kws X.env)).filterMap (·.1) = ks := by rfl) (hdb : (x == ("__debug__" : Str)) = false := by decide)
    (hpl : ((backTo pos (starEach [] X.env)).any (·.1) || (backToKw pos (keywordEach kws X.env)).any (·.1.isNone)) = false := by rfl) :
    PE X (.Call (.Name x p) [] kws pos) (tXnewK C sp ks.length gV tk) := by
  refine ⟨fun pins s σ H Q I h => ?_⟩
  refine wpAny_Call_Name_kw (ld_glob I hg hm ?_ hdb)
  refine PySem.W.callWith_KW0 (h₀ := X.base) I.ok.mod.kin T.kC hall ?_ hpl
  refine thn (hkw.run pos pins s σ H _ I h) fun ws s2 ⟨zs, H2, I2, rz, l2, q2⟩ => ⟨I2.kIn, ?_⟩
  rw [hks]
  exact run_xnew (us := []) T iC tI F1 hr hx (Nat.zero_le _) (fun s a kin => hbd s a ws kin (by rw [← rz.length]; exact l2)) I2 (rel rz) q2
end
/-! ### what the written part says, by one look -/
def xcB (K : PySem.W.Frag) (C : Addr) (bmB : List Value) (newId : String) : Bool :=
  PySem.W.excInitIn K C bmB newId && (PySem.W.hasDictIn K C && (decide (PySem.W.findIn K (.ref C) "__setattr__" = some (some (.builtin "object.__setattr__"))) && (decide (PySem.W.findIn K (.ref C) "__getattribute__" = some (some (.builtin "BaseException.__getattribute__"))) &&
  (decide (PySem.W.findIn K (.ref C) "__getattr__" = some none) && (decide (PySem.W.subIn K (.ref C) (.type "BaseException") = some true) && (decide (PySem.W.typeIn K (.ref C) = some (.type "type")) && (PySem.W.keepIn K (.ref C) &&
  (decide (PySem.W.findIn K (.ref C) "__class__" = some (some (.builtin "object.__class__"))) && (decide (PySem.W.specialIn K (.builtin "object.__class__") "__get__" = some (some (.builtin "getset_descriptor.__get__"))) &&
  (decide (PySem.W.takesIn K (.builtin "object.__class__") = some true) && decide (PySem.W.mroIn K C (.type "object") = some true)))))))))))
theorem band {a b : Bool} (h : (a && b) = true) : a = true ∧ b = true := Bool.and_eq_true_iff.mp h
theorem xc_of {K : PySem.W.Frag} {C : Addr} {B newId initId : String} {bmB : List Value} (FB : ExcBaseFacts B newId initId bmB) (SF : StoreFacts B bmB "object.__setattr__" "object") (h : xcB K C bmB newId = true) : Xc K C := by
  obtain ⟨h1, h⟩ := band h
  obtain ⟨h2, h⟩ := band h
  obtain ⟨h3, h⟩ := band h
  obtain ⟨h4, h⟩ := band h
  obtain ⟨h5, h⟩ := band h
  obtain ⟨h6, h⟩ := band h
  obtain ⟨h7, h⟩ := band h
  obtain ⟨h8, h⟩ := band h
  obtain ⟨h9, h⟩ := band h
  obtain ⟨h10, h⟩ := band h
  obtain ⟨h11, h12⟩ := band h
  refine ⟨?_, of_decide_eq_true h3, of_decide_eq_true h4, of_decide_eq_true h5, of_decide_eq_true h6, of_decide_eq_true h7, h8, h2, of_decide_eq_true h9, of_decide_eq_true h10, of_decide_eq_true h11, of_decide_eq_true h12⟩
  obtain ⟨cd0, hc0, hd0⟩ := PySem.W.any_some h2
  unfold PySem.W.excInitIn at h1
  split at h1
  · rename_i dd cd sl ho
    split at h1
    · rename_i C' bm k0 k1 k2 k3 n k5 hm hs
      simp only [Bool.and_eq_true, beq_iff_eq, Bool.not_eq_true'] at h1
      obtain ⟨⟨⟨rfl, rfl⟩, hdel⟩, ht⟩ := h1
      have hcl : PySem.W.clsIn K C' = some cd := by unfold PySem.W.clsIn; rw [ho] <;> rfl
      rw [hcl] at hc0
      have ec := Option.some.inj hc0
      rw [← ec] at hd0
      obtain ⟨nm, bs, mro, ns, qn, hd, sn, sub, ab, col, del⟩ := cd
      dsimp only at hm hdel hd0
      subst hm hdel hd0
      have hsl : sl = #[k0, k1, k2, k3, some (.builtin n), k5] := by
        obtain ⟨l⟩ := sl
        simp only at hs
        rw [hs]
      subst hsl
      exact ⟨nm, qn, ns, bs, bm, sn, sub, ab, col, dd, k0, k1, k2, k3, k5, B, n, initId, bmB, ho, FB, ⟨ht, SF.passes, SF.hasOwner⟩⟩
    · cases h1
  · cases h1
/-- the three bases -/
abbrev bmVE : List Value := [.type "ValueError", .type "Exception", .type "BaseException", .type "object"]
abbrev bmRE : List Value := [.type "RuntimeError", .type "Exception", .type "BaseException", .type "object"]
abbrev bmLE : List Value := [.type "LookupError", .type "Exception", .type "BaseException", .type "object"]
theorem xc_VE {K : PySem.W.Frag} {C : Addr} (h : xcB K C bmVE "ValueError.__new__" = true) : Xc K C := xc_of PySem.F.excBase_ValueError PySem.F.store_ValueError h
theorem xc_RE {K : PySem.W.Frag} {C : Addr} (h : xcB K C bmRE "RuntimeError.__new__" = true) : Xc K C := xc_of PySem.F.excBase_RuntimeError PySem.F.store_RuntimeError h
theorem xc_LE {K : PySem.W.Frag} {C : Addr} (h : xcB K C bmLE "LookupError.__new__" = true) : Xc K C := xc_of PySem.F.excBase_LookupError PySem.F.store_LookupError h
end L2

set_option Elab.async false
set_option linter.all false
set_option maxRecDepth 100000
set_option maxHeartbeats 4000000
/-! VxE: list + list where the left one may be the script; the state that draws leave -/
namespace L2
open PySem PySem.Spec PyProof.Rows
section
variable {X : Cx}
def rCatS (K : PySem.W.Frag) : R2 := fun x y H Q => ∃ l b xs zs, x = .ref l ∧ y = .ref b ∧ SqL K H l xs ∧ SqL K H b zs ∧ xs.length + zs.length ≤ sizeLine ∧ ∀ p, H p = none → Q (.ref p) (upd H p (.lst (xs ++ zs)))
theorem op_catS : OpR X (binaryOp .Add) (rCatS X.K) := by
  intro pins s σ H x y v u Q I rx ry h
  obtain ⟨l, b, xs, zs, rfl, rfl, hH, hB, hz, q⟩ := h
  cases rx
  cases ry
  obtain ⟨its, r, ⟨o, n, e, e1, e2, e3⟩, z⟩ := I.list hH
  obtain ⟨its2, r2, ⟨o2, n2, f, f1, f2, f3⟩, z2⟩ := I.list hB
  obtain ⟨c, d, dt, sl⟩ := o
  obtain ⟨c2, d2, dt2, sl2⟩ := o2
  dsimp only at e1 e2 e3 f1 f2 f3
  subst e1 e2 e3 f1 f2 f3
  have ea : its.toArray ++ its2.toArray = (its ++ its2).toArray := by simp
  refine concat_meets ⟨_, e, rfl⟩ ⟨_, f, rfl⟩ noFill_list_add seq_list_add PySem.F.slot_list_add PySem.F.entry_list_add (PySem.F.args_list_add_2 _ _) (list_addW l b its.toArray its2.toArray n n2 none none sl sl2 (by rw [List.size_toArray, List.size_toArray, ← r.length, ← r2.length]; exact hz)) ⟨e, f, ?_⟩
  rw [ea]
  exact ⟨.ref _, _, I.lnew (t' := s.toks) (r.append r2) (by rw [List.length_append]; exact hz), rfl, q _ I.fresh⟩
end
/-! ### draws -/
abbrev kCells : Key := Sum.inr "cells"
abbrev kAt : Key := Sum.inr "at"
abbrev kLeft : Key := Sum.inr "left"
abbrev kUsed : Key := Sum.inr "used"
def drawKv (l : Addr) (a b c : Int) : List (Key × V) := [(kCells, .ref l), (kAt, .int a), (kLeft, .int b), (kUsed, .int c)]
theorem dk_cells {l : Addr} {a b c : Int} : valV (drawKv l a b c) kCells = some (.ref l) := by kernel_rfl
theorem dk_at {l : Addr} {a b c : Int} : valV (drawKv l a b c) kAt = some (.int a) := by kernel_rfl
theorem dk_left {l : Addr} {a b c : Int} : valV (drawKv l a b c) kLeft = some (.int b) := by kernel_rfl
theorem dk_used {l : Addr} {a b c : Int} : valV (drawKv l a b c) kUsed = some (.int c) := by kernel_rfl
theorem dp_at {l : Addr} {a b c z : Int} : putK (drawKv l a b c) kAt (.int z) = drawKv l z b c := by kernel_rfl
theorem dp_left {l : Addr} {a b c z : Int} : putK (drawKv l a b c) kLeft (.int z) = drawKv l a z c := by kernel_rfl
theorem dp_used {l : Addr} {a b c z : Int} : putK (drawKv l a b c) kUsed (.int z) = drawKv l a b z := by kernel_rfl
/-- at p: the dict that the draws go on with; at most N draws are behind it -/
def DrawAt (H : Hp) (p : Addr) (N : Nat) : Prop := ∃ (l : Addr) (cs : List Int) (a b c : Int), H p = some (.dK (drawKv l a b c)) ∧ H l = some (.lst (cs.map V.int)) ∧ 0 < cs.length ∧ cs.length ≤ 64 ∧ 0 ≤ a ∧ a ≤ N ∧ 0 ≤ b ∧ 0 ≤ c ∧ c ≤ N
/-- all that was tracked but p stands -/
def Keep (p : Addr) (H H' : Hp) : Prop := ∀ c o, H c = some o → c ≠ p → H' c = some o
theorem Keep.refl {p : Addr} {H : Hp} : Keep p H H := fun _ _ e _ => e
theorem Keep.trans {p : Addr} {H H1 H2 : Hp} (a : Keep p H H1) (b : Keep p H1 H2) : Keep p H H2 := fun c o e n => b c o (a c o e n) n
theorem Keep.of {p : Addr} {H H' : Hp} (s : Same H H') : Keep p H H' := fun c o e _ => s c o e
theorem Keep.upd {p : Addr} {H : Hp} {o : HO} : Keep p H (upd H p o) := fun c o e n => by rw [upd_ne n]; exact e
theorem same_new {H : Hp} {p : Addr} {o : HO} (h : H p = none) : Same H (upd H p o) := fun c u e => by rw [upd_ne (ne_of_none e h)]; exact e
theorem DrawAt.same {H H' : Hp} {p : Addr} {N : Nat} (d : DrawAt H p N) (s : Same H H') : DrawAt H' p N := by
  obtain ⟨l, cs, a, b, c, h1, h2, r⟩ := d
  exact ⟨l, cs, a, b, c, s _ _ h1, s _ _ h2, r⟩
theorem DrawAt.ne {H : Hp} {p : Addr} {N : Nat} (d : DrawAt H p N) {q : Addr} {o : HO} (h : H q = some o) (n : ∀ kvs, o ≠ .dK kvs) : q ≠ p := by
  obtain ⟨l, cs, a, b, c, h1, _⟩ := d
  exact ne_of h h1 (n _)
theorem DrawAt.mono {H : Hp} {p : Addr} {N M : Nat} (d : DrawAt H p N) (h : N ≤ M) : DrawAt H p M := by
  obtain ⟨l, cs, a, b, c, h1, h2, r1, r2, r3, r4, r5, r6, r7⟩ := d
  exact ⟨l, cs, a, b, c, h1, h2, r1, r2, r3, by omega, r5, r6, by omega⟩
/-- the promises of the three defs -/
def spBegin (K : PySem.W.Frag) : Sp := fun vs H Q _ => ∃ (a : Addr) (ns : List Int), vs = [.ref a] ∧ SqL K H a (ns.map V.int) ∧ ns.length ≤ 63 ∧ ∀ p H', H p = none → Same H H' → DrawAt H' p 0 → Q (.ref p) H'
def spMixed : Sp := fun vs H Q _ => ∃ c k : Int, vs = [.int c, .int k] ∧ 0 ≤ k ∧ k < 1099511627776 ∧ ∀ r : Int, 0 ≤ r → r < 2147483648 → Q (.int r) H
def spNext : Sp := fun vs H Q _ => ∃ (p : Addr) (b : Int) (N : Nat), vs = [.ref p, .int b] ∧ DrawAt H p N ∧ N < 1000000000 ∧ 0 < b ∧ b < 1073741824 ∧ ∀ (r : Int) (H' : Hp), 0 ≤ r → r < b → DrawAt H' p (N + 1) → Keep p H H' → Q (.int r) H'
/-! ### facts behind the top: the facts of HeadHook2 and one look more -/
end L2
namespace He
open PySem PySem.Spec PyProof.Rows L2
def hookX (n : Nat) (fa : List Fa) (fn : List DefD) (chk : PySem.W.Frag → Bool) : PySem.W.Hook where
  α := AlD × Bool
  obs := fun s => (obsD fa fn (frG s.heap.get? (asD s.heap.get? n)), chk (frG s.heap.get? (asD s.heap.get? n)))
  val := fun _ => (valD fn, true)
  says := fun _ h => ∃ K : PySem.W.Frag, K.In h ∧ SaysD fa fn K ∧ chk K = true
  of := fun _ _ e => ⟨_, frG_in, congrArg Prod.fst e, congrArg Prod.snd e⟩
  keeps := fun _ _ _ ⟨K, hK, c⟩ k => ⟨K, PySem.W.Frag.In.keeps hK k, c⟩
def obsX (n : Nat) (fa : List Fa) (fn : List DefD) (chk : PySem.W.Frag → Bool) (g : Addr → Option Obj) : AlD × Bool := (obsD fa fn (frG g (asD g n)), chk (frG g (asD g n)))
theorem obsX_eq {n : Nat} {fa : List Fa} {fn : List DefD} {chk : PySem.W.Frag → Bool} {g : Addr → Option Obj} {s : Shared} (h : ∀ a, g a = s.heap.get? a) : obsX n fa fn chk g = (hookX n fa fn chk).obs s := by
  have e : g = s.heap.get? := funext h
  rw [e] <;> rfl
end He

set_option Elab.async false
set_option linter.all false
set_option maxRecDepth 100000
set_option maxHeartbeats 4000000
/-! VxG: defs that are promised where nothing is being shown (no repr runs): FnG; their bodies, their calls; a law's end over them. -/
namespace L2
open PySem PySem.Spec PyProof.Rows
structure FnG (P : Program) (w : World) (K : PySem.W.Frag) (mg : Str → Option Value) (base : Heap) (CX : CXT) (k : Nat) (f : Addr) (fd : FuncData) (ps : List Str) (sp : Sp) : Prop where
  len : ∀ vs H Q E, sp vs H Q E → vs.length = ps.length
  run : ∀ (A : Around), A.guards = some [] → Room k A → ∀ (outer : List Env) (s : Shared) (H : Hp) (args : Args) (us : List Value) (vs : List V) (Q : VK) (E : XK), Env0 P w K mg base A outer s H → BindsTo s fd args (ps.zip us) → Vals vs us → sp vs H Q E →
    codeAny (model P w) A (.call (.ref f) args) (CR CX outer P w H s Q E) s
section
variable {P : Program} {w : World} {K : PySem.W.Frag} {mg : Str → Option Value} {base : Heap} {CX : CXT} {k : Nat} {f : Addr} {fd : FuncData} {N ps : List Str} {sp : Sp}
theorem FnOk.g (F : FnOk P w K mg base CX k f fd ps sp) : FnG P w K mg base CX k f fd ps sp := ⟨F.len, fun A _ hr outer s H args us vs Q E => F.run A outer s H args us vs Q E hr⟩
/-- such a def, by its body -/
theorem FunD.okG {x qual : Str} {params : Arguments} {body : List Stmt} {scope : Scope} {dvs : List V} {kws : List (Str × V)} (F : FunD K x qual params body scope dvs kws f fd) (S : FnScope N ps scope) (len : ∀ vs H Q E, sp vs H Q E → vs.length = ps.length)
    (hbody : ∀ (cdv : Value) (A : Around) (outer : List Env) (s : Shared) (H : Hp) (vs : List V) (Q : VK) (E : XK), (A.deeper (envOfC qual scope s.heap.objs.size f cdv)).guards = some [] → Room k (A.deeper (envOfC qual scope s.heap.objs.size f cdv)) → sp vs H Q E →
      ∃ t, PSs (cxOf CX P w K mg base N qual scope f cdv A outer s H E) body t ∧ t { nx := fun _ H' => Q .non H', rt := Q } (start N vs) H) : FnG P w K mg base CX (k + 1) f fd ps sp := by
  obtain ⟨oc, od, dV, kV, doc, pm, an, cdv, ct, osl, rfl, lk, hcd, _, _⟩ := F.ex
  refine ⟨len, fun A hgu hr outer s H args us vs Q E e0 hb r hsp => ?_⟩
  have kin : K.In s.heap := e0.mod.kin.keeps fun b o e => (e0.bs b o e).1
  have par : ∀ y ∈ ps.zip us, scope.names.lookup y.1 = some .local ∨ (scope.names.lookup y.1 = some .cell ∧ ((cellsFrom (s.heap.objs.size + 1) scope.names []).lookup y.1).isSome = true) := by
    intro y hy
    obtain ⟨n, v⟩ := y
    exact (S.par n (List.of_mem_zip hy).1).imp id fun q => ⟨q, PySem.W.cellsFrom_some _ _ _ (.inl q)⟩
  refine codeAny_call_function hr.depth (kin _ _ lk) rfl S.co S.gen rfl (PySem.W.codeRec_of kin hcd) (hb _ _ _ _ (wpAny_newFunctionEnv_cells S.kind par fun env he s1 x => ?_))
  subst he
  refine ⟨(e0.mod.nolimit.keeps fun b o e => (e0.bs b o e).1).keeps x.toInCall.keep, codeAny_func ?_⟩
  obtain ⟨t, ht, hq⟩ := hbody cdv A outer s H vs Q E hgu (hr.deeper _) hsp
  refine wpAny_mono (ht.run [] s1 (start N vs) H _ (inv_start S hr.hd e0 (len _ _ _ _ hsp) r x) hq) (fun fl s' hs => ?_) fun _ _ hs => hs
  cases fl with
  | ret u =>
    obtain ⟨v, _, H', J, rv, q⟩ := hs
    exact ⟨v, H', J.os, J.bare, J.base, J.hok, rv, q⟩
  | next =>
    obtain ⟨_, H', J, q⟩ := hs
    exact ⟨V.non, H', J.os, J.bare, J.base, J.hok, rfl, q⟩
  | brk => exact hs.elim fun _ z => z.elim fun _ z => z.2.elim
  | cont => exact hs.elim fun _ z => z.elim fun _ z => z.2.elim
end
section
variable {X : Cx} {CX : CXT} {k : Nat} {f : Addr} {fd : FuncData} {ps : List Str} {sp : Sp} {dvs : List V} {ds : List Value} {E : XK} {x : Str} {p pos : Pos} {e : Expr} {es : List Expr} {t : TA}
/-- f(e, ..) -/
theorem pe_callG (hgu : X.A.guards = some []) (F : FnG X.prog X.w X.K X.mg X.base CX k f fd ps sp) (hr : Room k X.A) (hg : Gl X x) (hm : X.mg x = some (.ref f)) (hk : PySem.W.keepIn X.K (.ref f) = true) (hb : Binds X.K fd ps ds) (hd : Vals dvs ds) (hx : Passes CX X E)
    (ha : PA X (e :: es) t) (hdb : (x == ("__debug__" : Str)) = false := by decide) (he : starEach (e :: es) X.env = (false, eval e X.env) :: starEach es X.env := by rfl) (hpl : (backTo pos (starEach es X.env)).any (·.1) = false := by rfl) :
    PE X (.Call (.Name x p) (e :: es) [] pos) (tCall sp dvs E t) := by
  refine ⟨fun pins s σ H Q I h => wpAny_Call_Name_kw (ld_glob I hg hm (PySem.W.callWith_K (h₀ := X.base) I.ok.mod.kin hk (thn (ha.run pos pins s σ H _ I h) fun us s1 z => ?_) he hpl) hdb)⟩
  obtain ⟨vs, H1, I1, r, q⟩ := z
  have r2 : Vals (vs ++ dvs) (us ++ ds) := r.append hd
  refine ⟨I1.kIn, wpAny_call (codeAny_mono (F.run X.A hgu hr X.stack s1 H1 ⟨us, []⟩ (us ++ ds) (vs ++ dvs) Q E I1.env0 (hb s1 us I1.kIn (r2.length.symm.trans (F.len _ _ _ _ q))) r2 q) fun rs s' hq => ?_)⟩
  cases rs with
  | error er => exact hx pins σ H1 s1 er s' I1 hq
  | ok fl =>
    cases fl with
    | ret u => exact I1.after hq
    | next => exact hq.elim
    | brk => exact hq.elim
    | cont => exact hq.elim
end
/-- the script, tracked as the list that it is -/
def onlyAt (a : Addr) (o : Obj) (xs : List V) : Hp := fun b => if b = a then some (.frz o (.lst xs)) else none
/-- a law's end: its def is promised where nothing is being shown -/
theorem law_callG {P : Program} {w : World} {K : PySem.W.Frag} {mg mb : Str → Option Value} {k : Nat} {fa a : Addr} {fd : FuncData} {x : Str} {sp : Sp} {s₁ : Shared} {vs : List Value} {ns : List Int}
    (kin : K.In s₁.heap) (hns : s₁.heap.Ns mainGlobals mg) (hb : s₁.heap.Ns builtinsNs mb) (hbb : ∀ x : Str, x ≠ "__name__" → mb x = bootBuiltins x) (hlim : s₁.heap.NoLimit) (hg : s₁.gens = #[])
    (ha : s₁.heap.get? a = some { cls := .type "list", data := .seq vs.toArray }) (hi : IntsAre vs ns) (hl : ns.length ≤ sizeLine) (hr : Room k callerA)
    (F : ∀ base : Heap, K.In base → base.Ns mainGlobals mg → FnG P w K mg base CX0 k fa fd [x] sp) (hbind : ∀ (s : Shared) (u : Value), BindsTo s fd ⟨[u], []⟩ [(x, u)])
    (hsp : ∀ H : Hp, Only H → SqL K H a (ns.map V.int) → sp [.ref a] H (fun v _ => v = .bl true) fun _ _ _ => False) :
    codeAny (model P w) callerA (.call (.ref fa) ⟨[.ref a], []⟩) (fun r s' => r = .ok (.ret (.bool true)) ∧ OldK s₁.heap s'.heap ∧ s'.os = s₁.os ∧ AllBare s'.gens) s₁ := by
  have rv : Vals (ns.map V.int) vs := vals_ints hi
  have key : ∀ H : Hp, Only H → SqL K H a (ns.map V.int) → HOk P w H s₁.heap → (∀ b, H b ≠ none → b = a) → (H a ≠ none → K.lookup a = none) →
      codeAny (model P w) callerA (.call (.ref fa) ⟨[.ref a], []⟩) (fun r s' => r = .ok (.ret (.bool true)) ∧ OldK s₁.heap s'.heap ∧ s'.os = s₁.os ∧ AllBare s'.gens) s₁ := by
    intro H hO hS hok only hK
    have free : ∀ b, b ≠ a → H b = none := fun b nb => by
      cases q : H b with
      | none => rfl
      | some u => exact absurd (only b (by rw [q]; exact fun z => nomatch z)) nb
    have dictNe : ∀ {b : Addr} {o : Obj} {es : Array DictEntry} {ep : Nat}, s₁.heap.get? b = some o → o.data = .dict es ep → b ≠ a := fun {b o es ep} e d z => by
      rw [z, ha] at e
      have eo := Option.some.inj e
      rw [← eo] at d
      exact nomatch (show Data.seq vs.toArray _ = Data.dict es ep from d)
    have nsK : ∀ {b : Addr} {m : Str → Option Value}, s₁.heap.Ns b m → (hidT s₁.heap H).Ns b m := fun {b m} z => by
      obtain ⟨o, es, ep, e, d, r⟩ := z
      exact ⟨o, es, ep, hidT_get e (free b (dictNe e d)), d, r⟩
    have kinB : K.In (hidT s₁.heap H) := fun b o e => hidT_get (kin b o e) (by
      by_cases nb : b = a
      · cases q : H b with
        | none => rfl
        | some u =>
          have z := hK (by rw [← nb, q]; exact fun z => nomatch z)
          rw [← nb, e] at z
          cases z
      · exact free b nb)
    have md : Mod K mg (hidT s₁.heap H) := ⟨kinB, nsK hns, ⟨mb, nsK hb, hbb⟩, by
      obtain ⟨mc, h1, h2⟩ := hlim
      exact ⟨mc, nsK h1, h2⟩⟩
    have e0 : Env0 P w K mg (hidT s₁.heap H) callerA [] s₁ H := ⟨rfl, md, fun b o e => of_hidT e, Nat.le_of_eq (hidT_size _ _), trivial, fun b z => (List.not_mem_nil z).elim, hok, .of_eq hg⟩
    refine codeAny_mono ((F _ kinB (nsK hns)).run callerA rfl hr [] s₁ H ⟨[.ref a], []⟩ [.ref a] [.ref a] _ _ e0 (hbind s₁ (.ref a)) (.cons rfl .nil) (hsp H hO hS)) fun r s' h => ?_
    cases r with
    | error e => exact False.elim h
    | ok fl =>
      cases fl with
      | next => exact False.elim h
      | brk => exact False.elim h
      | cont => exact False.elim h
      | ret u =>
        obtain ⟨v, H', os, bare, un, hok', r', q⟩ := h
        have ev : v = .bl true := q
        rw [ev] at r'
        have eu : u = Value.bool true := r'
        rw [eu]
        refine ⟨rfl, OldK.of_keep fun b o e => ?_, os, bare⟩
        rcases hO b with z | ⟨ob, xs, z⟩
        · exact un.keep b o e z (fun y => (List.not_mem_nil y).elim) (fun y => (List.not_mem_nil y).elim)
        · have e1 := (hok b _ z).1
          have e2 := (hok' b _ (un.frzs b ob _ z)).1
          rw [e] at e1
          rw [Option.some.inj e1]
          exact e2
  cases hk : K.lookup a with
  | some o =>
    have e := kin a o hk
    rw [ha] at e
    have eo := Option.some.inj e
    refine key (fun _ => none) (fun _ => .inl rfl) (.inr ⟨o, vs.toArray, _, hk, by rw [← eo], by rw [← eo], by rw [← eo], by rw [List.size_toArray, hi.length]; exact hl, by simpa using rv⟩) (fun b u z => nomatch (show (none : Option HO) = some u from z)) (fun b z => absurd rfl z) fun z => absurd rfl z
  | none =>
    have at_ : onlyAt a { cls := .type "list", data := .seq vs.toArray } (ns.map V.int) a = some (.frz { cls := .type "list", data := .seq vs.toArray } (.lst (ns.map V.int))) := if_pos rfl
    have off : ∀ b, b ≠ a → onlyAt a { cls := .type "list", data := .seq vs.toArray } (ns.map V.int) b = none := fun b nb => if_neg nb
    refine key (onlyAt a { cls := .type "list", data := .seq vs.toArray } (ns.map V.int)) (fun b => ?_) (.inl (.inr ⟨_, at_⟩)) (fun b u z => ?_) (fun b z => ?_) fun _ => hk
    · by_cases nb : b = a
      · exact .inr ⟨_, _, by rw [nb]; exact at_⟩
      · exact .inl (off b nb)
    · by_cases nb : b = a
      · subst nb
        rw [at_] at z
        have ez := Option.some.inj z
        subst ez
        exact ⟨ha, by rw [List.length_map]; exact hl, vs, _, rv, ha⟩
      · rw [off b nb] at z
        cases z
    · by_cases nb : b = a
      · exact nb
      · exact absurd (off b nb) z
theorem walk_ofG {l : PySem.W.OpenLaw} {n k : Nat} {q : Program} {loose : List Str} {XP : (Str → Option Value) → Heap → Prop} {YP : World → Heap → Prop} {d : DefRec} {x : Str}
    (hn : l.most = some n) (hn2 : n ≤ sizeLine) (hdf : d.params.defaults = []) (hr : Room k callerA)
    (F : ∀ (w : World) (mg : Str → Option Value) (fa : Addr) (h : Heap), YP w h → h.Ns mainGlobals mg → mg d.name = some (.ref fa) →
      ∃ (K : PySem.W.Frag) (fd : FuncData) (sp : Sp), K.In h ∧ (∀ (s : Shared) (u : Value), BindsTo s fd ⟨[u], []⟩ [(x, u)]) ∧
        (∀ (H : Hp) (a : Addr) (ns : List Int), ns.length ≤ n → Only H → SqL K H a (ns.map V.int) → sp [.ref a] H (fun v _ => v = .bl true) fun _ _ _ => False) ∧
        ∀ base : Heap, K.In base → base.Ns mainGlobals mg → FnG l.prog w K mg base CX0 k fa fd [x] sp) :
    PySem.W.WalkO q loose XP YP l.row.toRowW d [] (fun f vs => PySem.call f vs) :=
  Att.attach_call hn hdf fun w s₀ s₁ mg mb fa o pm cd doc a vs ns G Y ho hd hcd hmg hobj hints hlen hg => by
    obtain ⟨K, fd, sp, kin, hb, hsp, hF⟩ := F w mg fa _ Y G.T.g hmg
    exact law_callG kin G.T.g G.T.b G.T.builtins G.T.nolimit hg hobj hints (Nat.le_trans hlen hn2) hr hF hb fun H hO hS => hsp H a ns hlen hO hS
/-! ### repr -/
/-- what a value says of itself: None, bools, ints, texts, lists, tuples of these, an empty dict -/
inductive Sw (K : PySem.W.Frag) (H : Hp) : V → PyData → Prop
  | non : Sw K H .non .none
  | bl (b : Bool) : Sw K H (.bl b) (.bool b)
  | int (i : Int) : Sw K H (.int i) (.int i)
  | str (x : Str) : Sw K H (.str x) (.str x)
  | emp {a : Addr} : H a = some (.dK []) → Sw K H (.ref a) (.dict [])
end L2

set_option Elab.async false
set_option linter.all false
set_option maxRecDepth 100000
set_option maxHeartbeats 4000000
/-! VxR: repr of values that are data: None, bools, ints, texts, lists and tuples of these, dicts of no or one entry. -/
namespace L2
open PySem PySem.Spec PyProof.Rows
/-- the written part holds sys.modules, which is a dict -/
def SysK (K : PySem.W.Frag) : Prop := ∃ (o : Obj) (es : Array DictEntry) (n : Nat), K.lookup sysModules = some o ∧ o.data = .dict es n
def sysB (K : PySem.W.Frag) : Bool := match K.lookup sysModules with
  | some ⟨_, _, .dict _ _, _⟩ => true
  | _ => false
theorem sys_of {K : PySem.W.Frag} (h : sysB K = true) : SysK K := by
  unfold sysB at h
  split at h
  · rename_i es n sl e
    exact ⟨_, _, _, e, rfl⟩
  · cases h
def keyD : Key → PyData
  | .inl i => .int i
  | .inr x => .str x
mutual
inductive Sd (K : PySem.W.Frag) (H : Hp) : V → PyData → Prop
  | non : Sd K H .non .none
  | bl (b : Bool) : Sd K H (.bl b) (.bool b)
  | int (i : Int) : Sd K H (.int i) (.int i)
  | str (x : Str) : Sd K H (.str x) (.str x)
  | lst {a : Addr} {xs : List V} {ds : List PyData} : SqL K H a xs → SdAll K H xs ds → Sd K H (.ref a) (.list ds)
  | tup {a : Addr} {xs : List V} {ds : List PyData} : SqT K H a xs → SdAll K H xs ds → Sd K H (.ref a) (.tuple ds)
  | emp {a : Addr} : H a = some (.dK []) → Sd K H (.ref a) (.dict [])
  | one {a : Addr} {k : Key} {v : V} {d : PyData} : H a = some (.dK [(k, v)]) → Sd K H v d → Sd K H (.ref a) (.dict [(keyD k, d)])
inductive SdAll (K : PySem.W.Frag) (H : Hp) : List V → List PyData → Prop
  | nil : SdAll K H [] []
  | cons {v : V} {vs : List V} {d : PyData} {ds : List PyData} : Sd K H v d → SdAll K H vs ds → SdAll K H (v :: vs) (d :: ds)
end
section
variable {K : PySem.W.Frag} {H H' : Hp}
theorem SqL.same' {a : Addr} {xs : List V} (s : Same H H') (h : SqL K H a xs) : SqL K H' a xs := s.seq h
mutual
theorem Sd.same (s : Same H H') (st : ∀ {a : Addr} {xs : List V}, SqT K H a xs → SqT K H' a xs) : ∀ {v : V} {d : PyData}, Sd K H v d → Sd K H' v d
  | _, _, .non => .non
  | _, _, .bl b => .bl b
  | _, _, .int i => .int i
  | _, _, .str x => .str x
  | _, _, .lst h a => .lst (s.seq h) (SdAll.same s st a)
  | _, _, .tup h a => .tup (st h) (SdAll.same s st a)
  | _, _, .emp h => .emp (s _ _ h)
  | _, _, .one h a => .one (s _ _ h) (Sd.same s st a)
theorem SdAll.same (s : Same H H') (st : ∀ {a : Addr} {xs : List V}, SqT K H a xs → SqT K H' a xs) : ∀ {vs : List V} {ds : List PyData}, SdAll K H vs ds → SdAll K H' vs ds
  | _, _, .nil => .nil
  | _, _, .cons h a => .cons (Sd.same s st h) (SdAll.same s st a)
end
end
section
variable {X : Cx} {pins : List (Addr × Obj)} {σ : St} {H : Hp} {s : Shared}
theorem sys_free (S : SysK X.K) (I : Inv X pins σ H s) : H sysModules = none := by
  obtain ⟨o, es, n, hk, _⟩ := S
  exact (I.bs _ _ (I.ok.mod.kin _ _ hk)).2
theorem sys_list (S : SysK X.K) (I : Inv X pins σ H s) {a : Addr} {o : Obj} {its : Array Value} {n : Nat} (e : s.heap.get? a = some o) (d : o.data = .seq its n) : a ≠ sysModules := by
  obtain ⟨o2, es, n2, hk, hd⟩ := S
  intro z
  rw [z, I.kIn _ _ hk] at e
  rw [← Option.some.inj e, hd] at d
  cases d
mutual
theorem Sd.reads (S : SysK X.K) (I : Inv X pins σ H s) : ∀ (d : PyData) (v : V) (u : Value), Sd X.K H v d → RelV v u → ∃ as, Reads s.heap u d as ∧ sysModules ∉ as
  | .none, _, _, h, r => by
    cases h
    cases r
    exact ⟨_, Reads.none, List.not_mem_nil⟩
  | .bool b, _, _, h, r => by
    cases h
    cases r
    exact ⟨_, Reads.bool b, List.not_mem_nil⟩
  | .int i, _, _, h, r => by
    cases h
    obtain ⟨t, rfl⟩ := r
    exact ⟨_, Reads.int i t, List.not_mem_nil⟩
  | .str x, _, _, h, r => by
    cases h
    obtain ⟨t, rfl⟩ := r
    exact ⟨_, Reads.str x t, List.not_mem_nil⟩
  | .list ds, _, _, h, r => by
    cases h with
    | lst hs ha =>
      cases r
      obtain ⟨its, rv, ⟨o, n, ho, hc, _, hd⟩, _⟩ := I.list hs
      obtain ⟨as, hr, hn⟩ := SdAll.reads S I ds _ its ha rv
      exact ⟨_, Reads.list ho hc hd hr, fun m => (List.mem_cons.mp m).elim (fun z => sys_list S I ho hd z.symm) hn⟩
  | .tuple ds, _, _, h, r => by
    cases h with
    | tup hs ha =>
      cases r
      obtain ⟨its, rv, ⟨o, ho, hc, n, hd⟩, _⟩ := I.tuple hs
      obtain ⟨as, hr, hn⟩ := SdAll.reads S I ds _ its ha rv
      exact ⟨_, Reads.tuple ho hc hd hr, hn⟩
  | .dict [], _, _, h, r => by
    cases h with
    | emp ha =>
      cases r
      obtain ⟨_, hsy, vs, kv, o, es, ep, ho, hx, hd, _, hp, _⟩ := I.hok _ _ ha
      cases kv
      have e0 : es.toList = [] := by
        generalize es.toList = l at hp
        cases hp
        rfl
      exact ⟨_, Reads.dict ho hx.1 hd (by rw [e0]; exact .nil) (by rw [e0]; exact .nil), fun m => by
        rcases List.mem_append.mp m with m | m
        · rcases List.mem_cons.mp m with z | z
          · rw [z] at hsy
            simp at hsy
          · exact (List.not_mem_nil z)
        · exact (List.not_mem_nil m)⟩
  | .dict [(kd, d)], _, _, h, r => by
    cases h with
    | @one a k v _ ha hv =>
      cases r
      obtain ⟨_, hsy, vs, kv, o, es, ep, ho, hx, hd, _, hp, _⟩ := I.hok _ _ ha
      cases kv with
      | @cons _ q _ _ h1 h2 =>
        cases h2
        obtain ⟨e1, rv⟩ := h1
        obtain ⟨as, hr, hn⟩ := Sd.reads S I d v q.2 hv rv
        obtain ⟨en, ek, ev, e0⟩ : ∃ en : DictEntry, (mixKind X.prog X.w).is q.1 en.key = true ∧ en.val = q.2 ∧ es.toList = [en] := by
          generalize es.toList = l at hp
          cases hp with
          | cons a1 a2 a3 =>
            cases a3
            exact ⟨_, a1, a2, rfl⟩
        have hk : ∃ as, Reads s.heap en.key (keyD k) as ∧ as = [] := by
          have e1' : k = q.1 := e1
          rw [e1']
          rcases keyIs_shape (show keyIs q.1 en.key = true from ek) with ⟨i, t, z1, z2⟩ | ⟨x, t, z1, z2⟩
          · rw [z1, z2]
            exact ⟨_, Reads.int i t, rfl⟩
          · rw [z1, z2]
            exact ⟨_, Reads.str x t, rfl⟩
        obtain ⟨bs, hb, rfl⟩ := hk
        exact ⟨_, Reads.dict ho hx.1 hd (by rw [e0]; exact .cons hb .nil) (by rw [e0]; exact .cons (as := as) (by show Reads s.heap en.val d as; rw [ev]; exact hr) .nil), fun m => by
          rcases List.mem_append.mp m with m | m
          · rcases List.mem_cons.mp m with z | z
            · rw [z] at hsy
              simp at hsy
            · exact (List.not_mem_nil z)
          · rw [List.append_nil] at m
            exact hn m⟩
  | .dict (_ :: _ :: _), _, _, h, _ => by cases h
theorem SdAll.reads (S : SysK X.K) (I : Inv X pins σ H s) : ∀ (ds : List PyData) (vs : List V) (us : List Value), SdAll X.K H vs ds → Vals vs us → ∃ as, ReadsAll s.heap us ds as ∧ sysModules ∉ as
  | [], _, _, h, r => by
    cases h
    cases r
    exact ⟨_, ReadsAll.nil, List.not_mem_nil⟩
  | d :: ds, _, _, h, r => by
    cases h with
    | cons h1 h2 =>
      cases r with
      | cons r1 r2 =>
        obtain ⟨as, q1, n1⟩ := Sd.reads S I d _ _ h1 r1
        obtain ⟨bs, q2, n2⟩ := SdAll.reads S I ds _ _ h2 r2
        exact ⟨_, ReadsAll.cons q1 q2, fun m => (List.mem_append.mp m).elim n1 n2⟩
end
end
/-- repr(v) -/
def rRepr (K : PySem.W.Frag) : List V → Hp → VK → Prop := fun xs H Q => ∃ (v : V) (d : PyData), xs = [v] ∧ Sd K H v d ∧ d.showable = true ∧ d.depth ≤ 40 ∧ d.shown.length ≤ sizeLine ∧ Q (.str d.shown) H
theorem call_repr {X : Cx} {k : Nat} (hgu : X.A.guards = some []) (hr : Room k X.A) (S : SysK X.K) : CallR X (.builtin "repr") (rRepr X.K) := by
  intro pins s σ H xs us Q I r h
  obtain ⟨v, d, rfl, hv, hs, hd, hz, q⟩ := h
  obtain ⟨u, rfl, ru⟩ := vals1 r
  obtain ⟨as, hr1, hn⟩ := Sd.reads S I d v u hv ru
  have fin : ∀ (h' : Heap) (t tk : Nat), (∀ b o, s.heap.get? b = some o → h'.get? b = some o) → EP X pins σ Q (.str d.shown t) { s with heap := h', toks := tk } := fun h' t tk kp => ⟨.str d.shown, H, I.kept (t' := tk) kp, ⟨t, rfl⟩, q⟩
  have ref : ∀ a, u = .ref a → wpAny (model X.prog X.w) X.A (call (.builtin "repr") [u]) (EP X pins σ Q) X.xe s := fun a e => by
    subst e
    exact repr_of_reads' hr1 hs (fun _ => hn) hgu (by have := hr.un; omega) (fun _ _ e => e) (fun h' t tk kp => fin h' t tk kp) hz
  cases hr1 with
  | none =>
    have q' : Q (.str "None") H := by
      have z := q
      simp only [PyData.shown] at z
      exact z
    exact PySem.P.repr_of_none ⟨.str "None", H, I.tok _, ⟨_, rfl⟩, q'⟩
  | bool b =>
    have q' : Q (.str (if b then "True" else "False")) H := by
      have z := q
      simp only [PyData.shown] at z
      cases b <;> exact z
    cases b
    · exact PySem.P.repr_of_bool ⟨.str "False", H, I.tok _, ⟨_, rfl⟩, q'⟩
    · exact PySem.P.repr_of_bool ⟨.str "True", H, I.tok _, ⟨_, rfl⟩, q'⟩
  | int i t =>
    have q' : Q (.str (toString i)) H := by
      have z := q
      simp only [PyData.shown] at z
      exact z
    exact PySem.P.repr_of_int (by simpa [PyData.showable] using hs) ⟨.str (toString i), H, I.tok _, ⟨_, rfl⟩, q'⟩
  | str x t =>
    have q' : Q (.str (reprText x)) H := by
      have z := q
      simp only [PyData.shown] at z
      exact z
    exact PySem.P.repr_of_str ⟨.str (reprText x), H, I.tok _, ⟨_, rfl⟩, q'⟩ (by simpa only [PyData.shown] using hz)
  | list _ _ _ _ => exact ref _ rfl
  | tuple _ _ _ _ => exact ref _ rfl
  | dict _ _ _ _ _ => exact ref _ rfl
/-! ### a bound of what is shown -/
mutual
def wt : PyData → Nat
  | .none => 4
  | .bool _ => 5
  | .int _ => 1921
  | .str x => (reprText x).length
  | .list xs => wtAll xs + 2
  | .tuple xs => wtAll xs + 3
  | .dict kvs => wtKv kvs + 2
def wtAll : List PyData → Nat
  | [] => 0
  | x :: xs => wt x + 2 + wtAll xs
def wtKv : List (PyData × PyData) → Nat
  | [] => 0
  | (k, v) :: r => wt k + wt v + 4 + wtKv r
end
theorem listText_le (ts : List Str) : (listText ts).length ≤ piled ts + 2 := by
  cases ts with
  | nil => decide
  | cons t r =>
    have h1 : (listText (t :: r)).length = (textFrom 1 (("[" : Str) ++ (if (0 : Nat) > 0 then ", " else "" : String) ++ t) r).length + 1 := by
      show (textFrom 0 "[" (t :: r) ++ "]").length = _
      rw [strLen_append]
      rfl
    have h2 := textFrom_length_pos r 1 (("[" : Str) ++ (if (0 : Nat) > 0 then ", " else "" : String) ++ t) (Nat.succ_pos 0)
    have h3 : (("[" : Str) ++ (if (0 : Nat) > 0 then ", " else "" : String) ++ t).length = 1 + t.length := by
      rw [strLen_append, strLen_append]
      rfl
    rw [h1, h2, h3, piled_cons]
    omega
theorem join_le (ts : List Str) : (Str.join ", " ts).length ≤ piled ts := by
  by_cases h : ts = []
  · subst h
    decide
  · have := join_length_add ts h
    omega
theorem tupleText_le (ts : List Str) : (tupleText ts).length ≤ piled ts + 3 := by
  unfold tupleText
  rw [strLen_append, strLen_append]
  have e1 : ((("(" : String) : Str)).length = 1 := rfl
  have e3 : (((if ts.length == 1 then ",)" else ")" : String) : Str)).length ≤ 2 := by split <;> decide
  have := join_le ts
  omega
theorem dictText_le (ts : List Str) : (dictText ts).length ≤ piled ts + 2 := by
  unfold dictText
  rw [strLen_append, strLen_append]
  have e1 : ((("{" : String) : Str)).length = 1 := rfl
  have e2 : ((("}" : String) : Str)).length = 1 := rfl
  have := join_le ts
  omega
mutual
theorem shown_le : ∀ d : PyData, d.showable = true → d.shown.length ≤ wt d
  | .none, _ => by simp only [PyData.shown, wt]; decide
  | .bool b, _ => by cases b <;> simp only [PyData.shown, wt] <;> decide
  | .int i, h => by
    simp only [PyData.shown, wt]
    exact int_text_len_1921 (by simpa [PyData.showable] using h)
  | .str x, _ => by simp only [PyData.shown, wt]; exact Nat.le_refl _
  | .list xs, h => by
    simp only [PyData.shown, wt]
    have h1 := shownAll_le xs (by simpa [PyData.showable] using h)
    have := listText_le (PyData.shownAll xs)
    omega
  | .tuple xs, h => by
    simp only [PyData.shown, wt]
    have h1 := shownAll_le xs (by simpa [PyData.showable] using h)
    have := tupleText_le (PyData.shownAll xs)
    omega
  | .dict kvs, h => by
    simp only [PyData.shown, wt]
    have h1 := shownKv_le kvs (by simpa [PyData.showable] using h)
    have := dictText_le (PyData.shownKv kvs)
    omega
theorem shownAll_le : ∀ xs : List PyData, PyData.showableAll xs = true → piled (PyData.shownAll xs) ≤ wtAll xs
  | [], _ => by simp only [PyData.shownAll, wtAll]; decide
  | x :: xs, h => by
    have h' : x.showable = true ∧ PyData.showableAll xs = true := by simpa [PyData.showableAll] using h
    simp only [PyData.shownAll, wtAll]
    rw [piled_cons]
    have h1 := shown_le x h'.1
    have h2 := shownAll_le xs h'.2
    omega
theorem shownKv_le : ∀ kvs : List (PyData × PyData), PyData.showableKv kvs = true → piled (PyData.shownKv kvs) ≤ wtKv kvs
  | [], _ => by simp only [PyData.shownKv, wtKv]; decide
  | (k, v) :: r, h => by
    have h' : (k.showable = true ∧ v.showable = true) ∧ PyData.showableKv r = true := by simpa [PyData.showableKv] using h
    simp only [PyData.shownKv, wtKv]
    rw [piled_cons, strLen_append, strLen_append]
    have h1 := shown_le k h'.1.1
    have h2 := shown_le v h'.1.2
    have h3 := shownKv_le r h'.2
    have e : (((": " : String) : Str)).length = 2 := rfl
    omega
end
theorem shown_fits {d : PyData} (h : d.showable = true) (h2 : wt d ≤ sizeLine) : d.shown.length ≤ sizeLine := Nat.le_trans (shown_le d h) h2
end L2

set_option Elab.async false
set_option linter.all false
set_option maxRecDepth 100000
set_option maxHeartbeats 4000000
/-! VxX: the classes of errors of a program, each with an __init__ that stores its one or two fields; lists of new errors, lists of isinstance. -/
namespace L2
open PySem PySem.Spec PyProof.Rows
theorem PE.imp {X : Cx} {e : Expr} {t t' : TE} (h : PE X e t) (i : ∀ σ H Q, t' σ H Q → t σ H Q) : PE X e t' := ⟨fun pins s σ H Q I q => h.run pins s σ H Q I (i σ H Q q)⟩
theorem PA.imp {X : Cx} {es : List Expr} {t t' : TA} (h : PA X es t) (i : ∀ σ H Q, t' σ H Q → t σ H Q) : PA X es t' := ⟨fun pos pins s σ H Q I q => h.run pos pins s σ H Q I (i σ H Q q)⟩
theorem Same.refl' {H : Hp} : Same H H := fun _ _ e => e
theorem Same.tr {H H1 H2 : Hp} (a : Same H H1) (b : Same H1 H2) : Same H H2 := fun c o e => b c o (a c o e)
/-- self.f = v -/
def spIni (C : Addr) (f : Str) : Sp := fun vs H Q _ => ∃ (a : Addr) (v : V), vs = [.ref a, v] ∧ H a = some (exo a C none) ∧ ∀ dx, H dx = none → dx ≠ a → Q .non (upd (upd H dx (exd dx [(f, v)])) a (exo a C (some dx)))
/-- self.f = v; self.g = u -/
def spIni2 (C : Addr) (f g : Str) : Sp := fun vs H Q _ => ∃ (a : Addr) (v u : V), vs = [.ref a, v, u] ∧ H a = some (exo a C none) ∧ ∀ dx, H dx = none → dx ≠ a →
  Q .non (upd (upd (upd H dx (exd dx [(f, v)])) a (exo a C (some dx))) dx (exd dx [(g, u), (f, v)]))
theorem xnew1 {C : Addr} {f : Str} {v : V} {H : Hp} {Q : VK} (h : ∀ a H', H a = none → Same H H' → ExAt H' a C [(f, v)] → Q (.ref a) H') : XNew C (spIni C f) [v] H Q := fun a ha => by
  refine ⟨a, v, rfl, upd_same, fun dx n ne => ⟨rfl, dx, [(f, v)], upd_same, (by rw [upd_ne ne, upd_same]), ?_⟩⟩
  have hd : H dx = none := by rw [← n, upd_ne ne]
  refine h a _ ha (fun b o e => ?_) ⟨dx, ?_, upd_same⟩
  · rw [upd_ne (ne_of_none e hd), upd_ne (ne_of_none e ha), upd_ne (ne_of_none e ha), upd_ne (ne_of_none e hd), upd_ne (ne_of_none e ha)]
    exact e
  · rw [upd_ne ne.symm, upd_same]
theorem xnew2 {C : Addr} {f g : Str} {v u : V} {H : Hp} {Q : VK} (h : ∀ a H', H a = none → Same H H' → ExAt H' a C [(g, u), (f, v)] → Q (.ref a) H') : XNew C (spIni2 C f g) [v, u] H Q := fun a ha => by
  refine ⟨a, v, u, rfl, upd_same, fun dx n ne => ⟨rfl, dx, [(g, u), (f, v)], (by rw [upd_ne ne.symm, upd_same]), upd_same, ?_⟩⟩
  have hd : H dx = none := by rw [← n, upd_ne ne]
  refine h a _ ha (fun b o e => ?_) ⟨dx, ?_, upd_same⟩
  · rw [upd_ne (ne_of_none e hd), upd_ne (ne_of_none e ha), upd_ne (ne_of_none e hd), upd_ne (ne_of_none e ha), upd_ne (ne_of_none e hd), upd_ne (ne_of_none e ha)]
    exact e
  · rw [upd_ne ne.symm, upd_same]
/-- one class: its name, its field -/
structure XK1 (P : Program) (w : World) (K : PySem.W.Frag) (mg : Str → Option Value) (base : Heap) (x f : Str) (C : Addr) : Prop where
  T : Xc K C
  hm : mg x = some (.ref C)
  no : PySem.W.findIn K (.ref C) f = some none
  ex : ∃ (fI : Addr) (fd : FuncData), PySem.W.findIn K (.ref C) "__init__" = some (some (.ref fI)) ∧ PySem.W.typeIn K (.ref fI) = some (.type "function") ∧ FnOk P w K mg base CX0 1 fI fd ["self", f] (spIni C f) ∧ Binds K fd ["self", f] [] ∧
    ∀ (s : Shared) (a : Addr) (ws : List Value), K.In s.heap → ws.length = 1 → BindsTo s fd ⟨[Value.ref a], [f].zip ws⟩ ((["self", f] : List Str).zip (Value.ref a :: ws))
/-- a class with two fields -/
structure XK2 (P : Program) (w : World) (K : PySem.W.Frag) (mg : Str → Option Value) (base : Heap) (x f g : Str) (C : Addr) : Prop where
  T : Xc K C
  hm : mg x = some (.ref C)
  no : PySem.W.findIn K (.ref C) f = some none
  no2 : PySem.W.findIn K (.ref C) g = some none
  ex : ∃ (fI : Addr) (fd : FuncData), PySem.W.findIn K (.ref C) "__init__" = some (some (.ref fI)) ∧ PySem.W.typeIn K (.ref fI) = some (.type "function") ∧ FnOk P w K mg base CX0 1 fI fd ["self", f, g] (spIni2 C f g) ∧ Binds K fd ["self", f, g] [] ∧
    ∀ (s : Shared) (a : Addr) (ws : List Value), K.In s.heap → ws.length = 2 → BindsTo s fd ⟨[Value.ref a], [g, f].zip ws⟩ ((["self", f, g] : List Str).zip (Value.ref a :: ws.reverse))
/-- a new error of the class at C with the fields fs of the i-th slot's value -/
def tX1 (C : Addr) (fs : V → List (Str × V)) (i : Nat) : TE := fun σ H Q => ∃ v, σ[i]? = some (some v) ∧ ∀ a H', H a = none → Same H H' → ExAt H' a C (fs v) → Q (.ref a) H'
section
variable {X : Cx} {x f g : Str} {C : Addr} {p pos kp kp2 : Pos} {e e2 : Expr} {i : Nat} {z : Str} {ci : Int} {j1 j2 : Nat} {q1 q2 : Pos}
/-- C(name) -/
theorem pe_x1 (B : XK1 X.prog X.w X.K X.mg X.base x f C) (hr : Room 2 X.A) (hg : Gl X x) (he : PE X e (tVar i)) (hdb : (x == ("__debug__" : Str)) = false := by decide) (hs : starEach [e] X.env = (false, eval e X.env) :: starEach [] X.env := by rfl) :
    PE X (.Call (.Name x p) [e] [] pos) (tX1 C (fun v => [(f, v)]) i) := by
  obtain ⟨fI, fd, i1, i2, F, b, _⟩ := B.ex
  refine PE.imp (pe_xnew B.T i1 i2 F hr b pass0 hg B.hm (pa_cons he pa_nil hs) hdb hs rfl) fun σ H Q h => ?_
  obtain ⟨v, hv, k⟩ := h
  exact ⟨v, hv, (by show 1 ≤ 1000; decide), xnew1 k⟩
/-- C(name, 'text') -/
theorem pe_x2 (B : XK2 X.prog X.w X.K X.mg X.base x f g C) (hr : Room 2 X.A) (hg : Gl X x) (he : PE X e (tVar i)) (hdb : (x == ("__debug__" : Str)) = false := by decide)
    (hs : starEach [e, .Constant (.str z) j1 q1] X.env = (false, eval e X.env) :: starEach [.Constant (.str z) j1 q1] X.env := by rfl) :
    PE X (.Call (.Name x p) [e, .Constant (.str z) j1 q1] [] pos) (tX1 C (fun v => [(g, .str z), (f, v)]) i) := by
  obtain ⟨fI, fd, i1, i2, F, b, _⟩ := B.ex
  refine PE.imp (pe_xnew B.T i1 i2 F hr b pass0 hg B.hm (pa_cons he (pa_cons pe_str pa_nil) hs) hdb hs (by rfl)) fun σ H Q h => ?_
  obtain ⟨v, hv, k⟩ := h
  exact ⟨v, hv, (by show 2 ≤ 1000; decide), xnew2 k⟩
/-- C(f = name) -/
theorem pe_x1K (B : XK1 X.prog X.w X.K X.mg X.base x f C) (hr : Room 2 X.A) (hg : Gl X x) (he : PE X e (tVar i)) (hdb : (x == ("__debug__" : Str)) = false := by decide) :
    PE X (.Call (.Name x p) [] [⟨some f, e, kp⟩] pos) (tX1 C (fun v => [(f, v)]) i) := by
  obtain ⟨fI, fd, i1, i2, F, _, kb⟩ := B.ex
  refine PE.imp (pe_xnewK (ks := [f]) (g := fun ws => ws) (gV := fun zs => zs) B.T i1 i2 F hr (fun s a ws kin hl => kb s a ws kin hl) (fun r => r) pass0 hg B.hm (pk_cons he pk_nil) (by rfl) (by rfl) hdb (by rfl)) fun σ H Q h => ?_
  obtain ⟨v, hv, k⟩ := h
  exact ⟨v, hv, rfl, xnew1 k⟩
theorem vals_rev : ∀ {zs : List V} {ws : List Value}, Vals zs ws → Vals zs.reverse ws.reverse
  | _, _, .nil => .nil
  | _, _, .cons (a := a) (b := b) r t => by
    rw [List.reverse_cons, List.reverse_cons]
    exact (vals_rev t).append (.cons r .nil)
/-- C(g = 'text', f = name) -/
theorem pe_x2K (B : XK2 X.prog X.w X.K X.mg X.base x f g C) (hr : Room 2 X.A) (hg : Gl X x) (he : PE X e (tVar i)) (hdb : (x == ("__debug__" : Str)) = false := by decide) :
    PE X (.Call (.Name x p) [] [⟨some g, .Constant (.str z) j1 q1, kp⟩, ⟨some f, e, kp2⟩] pos) (tX1 C (fun v => [(g, .str z), (f, v)]) i) := by
  obtain ⟨fI, fd, i1, i2, F, _, kb⟩ := B.ex
  refine PE.imp (pe_xnewK (ks := [g, f]) (g := fun ws => ws.reverse) (gV := fun zs => zs.reverse) B.T i1 i2 F hr (fun s a ws kin hl => kb s a ws kin hl) (fun r => vals_rev r) pass0 hg B.hm (pk_cons pe_str (pk_cons he pk_nil)) (by rfl) (by rfl) hdb (by rfl)) fun σ H Q h => ?_
  obtain ⟨v, hv, k⟩ := h
  exact ⟨v, hv, rfl, xnew2 k⟩
/-- C(g = 'text', f = 0) -/
theorem pe_x2KC (B : XK2 X.prog X.w X.K X.mg X.base x f g C) (hr : Room 2 X.A) (hg : Gl X x) (hdb : (x == ("__debug__" : Str)) = false := by decide) :
    PE X (.Call (.Name x p) [] [⟨some g, .Constant (.str z) j1 q1, kp⟩, ⟨some f, .Constant (.int ci) j2 q2, kp2⟩] pos) (fun _ H Q => ∀ a H', H a = none → Same H H' → ExAt H' a C [(g, .str z), (f, .int ci)] → Q (.ref a) H') := by
  obtain ⟨fI, fd, i1, i2, F, _, kb⟩ := B.ex
  refine PE.imp (pe_xnewK (ks := [g, f]) (g := fun ws => ws.reverse) (gV := fun zs => zs.reverse) B.T i1 i2 F hr (fun s a ws kin hl => kb s a ws kin hl) (fun r => vals_rev r) pass0 hg B.hm (pk_cons pe_str (pk_cons pe_int pk_nil)) (by rfl) (by rfl) hdb (by rfl)) fun σ H Q h => ?_
  exact ⟨rfl, xnew2 h⟩
end
/-! ### lists of new errors -/
abbrev XSpec := Addr × (V → List (Str × V))
def Exs (H : Hp) (v : V) : List XSpec → List Addr → Prop
  | [], [] => True
  | c :: cs, a :: as => ExAt H a c.1 (c.2 v) ∧ Exs H v cs as
  | _, _ => False
theorem Exs.mono {H H' : Hp} {v : V} (s : Same H H') : ∀ {cs : List XSpec} {as : List Addr}, Exs H v cs as → Exs H' v cs as
  | [], [], _ => True.intro
  | _ :: _, _ :: _, h => ⟨h.1.mono s, Exs.mono s h.2⟩
  | [], _ :: _, h => h.elim
  | _ :: _, [], h => h.elim
theorem Exs.app {H : Hp} {v : V} : ∀ {cs ds : List XSpec} {as bs : List Addr}, Exs H v cs as → Exs H v ds bs → Exs H v (cs ++ ds) (as ++ bs)
  | [], _, [], _, _, h => h
  | _ :: _, _, _ :: _, _, h, k => ⟨h.1, Exs.app h.2 k⟩
  | [], _, _ :: _, _, h, _ => h.elim
  | _ :: _, _, [], _, h, _ => h.elim
theorem Exs.len {H : Hp} {v : V} : ∀ {cs : List XSpec} {as : List Addr}, Exs H v cs as → as.length = cs.length
  | [], [], _ => rfl
  | _ :: _, _ :: _, h => congrArg Nat.succ (Exs.len h.2)
  | [], _ :: _, h => h.elim
  | _ :: _, [], h => h.elim
theorem Exs.get {H : Hp} {v : V} : ∀ {cs : List XSpec} {as : List Addr} {j : Nat} {c : XSpec}, Exs H v cs as → cs[j]? = some c → ∃ a, as[j]? = some a ∧ ExAt H a c.1 (c.2 v)
  | [], [], _, _, _, e => by simp at e
  | c' :: _, a :: _, 0, c, h, e => by
    have ec : c' = c := by simpa using e
    exact ⟨a, rfl, by rw [← ec]; exact h.1⟩
  | _ :: _, _ :: _, j + 1, c, h, e => by
    obtain ⟨a, h1, h2⟩ := Exs.get (j := j) h.2 (by simpa using e)
    exact ⟨a, by simpa using h1, h2⟩
  | [], _ :: _, _, _, h, _ => h.elim
  | _ :: _, [], _, _, h, _ => h.elim
def tXs (cs : List XSpec) (i : Nat) : TA := fun σ H Q => ∃ v, σ[i]? = some (some v) ∧ ∀ (as : List Addr) H', Same H H' → Exs H' v cs as → Q (as.map V.ref) H'
section
variable {X : Cx} {e : Expr} {es : List Expr} {i : Nat} {C : Addr} {fs : V → List (Str × V)} {cs : List XSpec}
theorem pa_xn : PA X [] (tXs [] i) := PA.imp pa_nil fun σ H Q h => by
  obtain ⟨v, _, k⟩ := h
  exact k [] H Same.refl' True.intro
theorem pa_xc (he : PE X e (tX1 C fs i)) (hr : PA X es (tXs cs i)) (hs : starEach (e :: es) X.env = (false, eval e X.env) :: starEach es X.env := by rfl) : PA X (e :: es) (tXs ((C, fs) :: cs) i) := PA.imp (pa_cons he hr hs) fun σ H Q h => by
  obtain ⟨v, hv, k⟩ := h
  exact ⟨v, hv, fun a H1 _ s1 x1 => ⟨v, hv, fun as H2 s2 x2 => k (a :: as) H2 (s1.tr s2) ⟨x1.mono s2, x2⟩⟩⟩
end
/-! ### lists of isinstance(e, C), e in the slot i, of the class at D -/
def tIss (D : Addr) (bs : List Bool) (i : Nat) : TA := fun σ H Q => ∃ (a : Addr) (fs : List (Str × V)), σ[i]? = some (some (.ref a)) ∧ ExAt H a D fs ∧ Q (bs.map V.bl) H
section
variable {X : Cx} {e : Expr} {es : List Expr} {i : Nat} {D : Addr} {x n : Str} {p1 p2 p3 pos : Pos} {b : Bool} {bs : List Bool}
theorem pe_is1 {C : Addr} (T : Xc X.K D) (hi : Gl X "isinstance") (mi : X.mg "isinstance" = none) (he : PE X e (tVar i)) (hg : Gl X x) (hm : X.mg x = some (.ref C)) (kit : PySem.W.kitOne X.K (.ref D) (.ref C) = some b)
    (hs : starEach [e, .Name x p2] X.env = (false, eval e X.env) :: starEach [.Name x p2] X.env := by rfl) (hpl : (backTo pos (starEach [.Name x p2] X.env)).any (·.1) = false := by rfl) (hd : (x == ("__debug__" : Str)) = false := by decide) :
    PE X (.Call (.Name "isinstance" p1) [e, .Name x p2] [] pos) (fun σ H Q => ∃ (a : Addr) (fs : List (Str × V)), σ[i]? = some (some (.ref a)) ∧ ExAt H a D fs ∧ Q (.bl b) H) :=
  PE.imp (pe_callB call_isX hi mi (by decide +kernel) (pa_cons he (pa_cons (pe_glob (v := .ref C) hg hm rfl hd) pa_nil) hs) (by decide) (by decide) hs hpl) fun σ H Q h => by
    obtain ⟨a, fs, h1, h2, k⟩ := h
    exact ⟨_, h1, a, D, fs, .ref C, .ref C, b, rfl, h2, T, fun u r => r, kit, k⟩
/-- a built-in class -/
theorem pe_is1T {t : String} (T : Xc X.K D) (hi : Gl X "isinstance") (mi : X.mg "isinstance" = none) (he : PE X e (tVar i)) (hg : Gl X x) (hm : X.mg x = none) (hv : bootBuiltins x = some (.type t)) (kit : PySem.W.kitOne X.K (.ref D) (.type t) = some b) (hn : x ≠ "__name__" := by decide)
    (hs : starEach [e, .Name x p2] X.env = (false, eval e X.env) :: starEach [.Name x p2] X.env := by rfl) (hpl : (backTo pos (starEach [.Name x p2] X.env)).any (·.1) = false := by rfl) (hd : (x == ("__debug__" : Str)) = false := by decide) :
    PE X (.Call (.Name "isinstance" p1) [e, .Name x p2] [] pos) (fun σ H Q => ∃ (a : Addr) (fs : List (Str × V)), σ[i]? = some (some (.ref a)) ∧ ExAt H a D fs ∧ Q (.bl b) H) :=
  PE.imp (pe_callB call_isX hi mi (by decide +kernel) (pa_cons he (pa_cons (pe_bltn (v := .ty t) hg hm hv rfl hn hd) pa_nil) hs) (by decide) (by decide) hs hpl) fun σ H Q h => by
    obtain ⟨a, fs, h1, h2, k⟩ := h
    exact ⟨_, h1, a, D, fs, .ty t, .type t, b, rfl, h2, T, fun u r => r, kit, k⟩
theorem pa_isn : PA X [] (tIss D [] i) := PA.imp pa_nil fun σ H Q h => by
  obtain ⟨a, fs, _, _, k⟩ := h
  exact k
theorem pa_isc (he : PE X e (fun σ H Q => ∃ (a : Addr) (fs : List (Str × V)), σ[i]? = some (some (.ref a)) ∧ ExAt H a D fs ∧ Q (.bl b) H)) (hr : PA X es (tIss D bs i)) (hs : starEach (e :: es) X.env = (false, eval e X.env) :: starEach es X.env := by rfl) :
    PA X (e :: es) (tIss D (b :: bs) i) := PA.imp (pa_cons he hr hs) fun σ H Q h => by
  obtain ⟨a, fs, h1, h2, k⟩ := h
  exact ⟨a, fs, h1, h2, a, fs, h1, h2, k⟩
end
end L2

set_option Elab.async false
set_option linter.all false
set_option maxRecDepth 100000
set_option maxHeartbeats 4000000
/-! VxK: list.count of a truth value -/
namespace L2
open PySem PySem.Spec PyProof.Rows
def isB (b : Bool) (v : Value) : Bool := match v with
  | .bool c => c == b
  | _ => false
theorem isB_at {A : Around} {s : Shared} {b : Bool} : ∀ {bs : List Bool} {us : List Value}, Vals (bs.map V.bl) us → ∀ y ∈ us, SeqAt.EqAt A s y (.bool b) (isB b y)
  | [], _, r, y, hy => by
    cases r
    cases hy
  | c :: bs, _, r, y, hy => by
    cases r with
    | cons r1 r2 =>
      cases r1
      rcases List.mem_cons.mp hy with e | e
      · rw [e]
        exact SeqAt.EqAt.bool_bool c b
      · exact isB_at r2 y e
theorem isB_count {b : Bool} : ∀ {bs : List Bool} {us : List Value}, Vals (bs.map V.bl) us → us.countP (isB b) = bs.count b
  | [], _, r => by
    cases r
    rfl
  | c :: bs, _, r => by
    cases r with
    | cons r1 r2 =>
      cases r1
      rw [List.countP_cons, List.count_cons, isB_count r2] <;> rfl
def rCntB (K : PySem.W.Frag) : V → List V → Hp → VK → Prop := fun x xs H Q => ∃ (p : Addr) (bs : List Bool) (b : Bool), x = .ref p ∧ xs = [.bl b] ∧ SqL K H p (bs.map V.bl) ∧ Q (.int (bs.count b : Nat)) H
theorem mt_countB {X : Cx} : MtR X "list.count" (rCntB X.K) := by
  intro pins s σ H x xs v us Q I rx rxs h
  obtain ⟨p, bs, b, rfl, rfl, hs, q⟩ := h
  cases rx
  obtain ⟨u, rfl, ru⟩ := rxs.one
  cases ru
  obtain ⟨its, rv, ⟨o, n, ho, hc, hdn, hd⟩, hlen⟩ := I.list hs
  obtain ⟨cls, dd, data, sl⟩ := o
  dsimp only at hc hd
  subst hc hd
  refine call_meets PySem.F.slot_list_count ⟨_, ho, rfl⟩ PySem.F.entry_list_count (PySem.F.args_list_count_2 _ _)
    (SeqAt.list_countAt p its.toArray n dd sl (.bool b) (isB b)) ⟨ho, fun y hy => isB_at rv y (by simpa using hy), ?_⟩
  refine ⟨.int (bs.count b : Nat), H, I.tok _, ⟨s.toks, ?_⟩, q⟩
  have e : its.countP (isB b) = bs.count b := isB_count rv
  show Value.int ((its.toArray.toList.countP (isB b) : Nat) : Int) s.toks = _
  rw [show its.toArray.toList = its from rfl, e]
end L2

set_option Elab.async false
set_option linter.all false
set_option maxRecDepth 100000
set_option maxHeartbeats 4000000
/-! VxT: try: .. except (A, B, C) as e: caught = e, the error being a tracked value behind it; raise of a program's error that has its own __init__, over any base. -/
namespace L2
open PySem PySem.Spec PyProof.Rows
section
variable {X : Cx} {pins : List (Addr × Obj)} {σ : St} {H : Hp} {s : Shared}
/-- a record that stands untracked, and was not there at the entry, is tracked from here on -/
theorem Inv.adopt {a : Addr} {o : HO} {oe : Obj} {vs : Array Value} (I : Inv X pins σ H s) (e : s.heap.get? a = some oe) (dv : oe.data = .fields vs) (na : H a = none) (h0 : X.s_0.heap.get? a = none) (hp : ∀ p ∈ X.pn ++ pins, p.1 ≠ a)
    (new : ObjOk X.prog X.w (upd H a o) s.heap a o) : Inv X pins σ (upd H a o) s := by
  have nt : ∀ b u, H b = some u → b ≠ a := fun b u z y => by
    rw [y, na] at z
    cases z
  refine ⟨I.ok, I.os, I.bare, ⟨I.base.keep, I.base.slot, fun b u z n hx => ?_, I.base.there, fun b xs z => ?_, fun b u xs z => ?_, fun b ps z => ?_⟩, I.loc, I.cell, ?_, fun x c z => ?_, fun p hq => ?_, fun b u z => ?_, I.len⟩
  · rw [upd_ne (fun y => by
      rw [y, h0] at z
      cases z)]
    exact I.base.free b u z n hx
  · have q := I.base.tups b xs z
    rw [upd_ne (nt _ _ q)]
    exact q
  · have q := I.base.frzs b u xs z
    rw [upd_ne (nt _ _ q)]
    exact q
  · obtain ⟨m, q⟩ := I.base.tbls b ps z
    exact ⟨m, by rw [upd_ne (nt _ _ q)]; exact q⟩
  · rw [upd_ne (fun y => ?_)]
    · exact I.free
    · obtain ⟨m, ⟨o2, es, ep, ho, hd, _⟩, _⟩ := I.loc
      rw [y, e] at ho
      rw [← Option.some.inj ho, dv] at hd
      cases hd
  · rw [upd_ne (fun y => ?_)]
    · exact I.freeC x c z
    · obtain ⟨v, o2, ho, hd⟩ := I.cell x c z
      rw [y, e] at ho
      rw [← Option.some.inj ho, dv] at hd
      cases hd
  · obtain ⟨q1, q2, q3⟩ := I.pin p hq
    exact ⟨q1, by rw [upd_ne (hp p hq)]; exact q2, q3⟩
  · by_cases hb : b = a
    · subst hb
      rw [upd_same] at z
      cases z
      exact new
    · rw [upd_ne hb] at z
      exact (I.hok b u z).stay (fun _ _ _ q => q) (fun c q => by rw [upd_ne (nt _ _ q)]; exact q) fun c xs q => by rw [upd_ne (nt _ _ q)]; exact q
end
/-- what such a clause wishes of an error of the body: slot i is the clause's name, slot j the kept one -/
def wKept (K : PySem.W.Frag) (cs : List Value) (i j : Nat) (Wout : WX) (D : Ends) : WX := fun cls d σ H =>
  ∃ b, PySem.W.exmAny K cls cs = some b ∧ (b = true → ∃ C dd : Addr, cls = .ref C ∧ d = some dd ∧ ∀ a, H a = none → D.nx (((σ.set i (some (.ref a))).set j (some (.ref a))).set i none) (upd H a (exV a C dd))) ∧ (b = false → Wout cls d σ H)
theorem flying_keeps {B h h' : Heap} {l : List Env} {a : Addr} {Z : Obj → Prop} (k : ∀ b o, h.get? b = some o → h'.get? b = some o) (f : HandSPX.FlyingZ B l a Z h) : HandSPX.FlyingZ B l a Z h' := by
  obtain ⟨f1, f2, f3, oe, vs, T, oT, ts, t1, t2, t3, t4, t5, t6, t7, t8, t9⟩ := f
  refine ⟨fun b o e => k b o (f1 b o e), f2, ?_, oe, vs, T, oT, ts, k _ _ t1, t2, t3, t4, t5, t6, k _ _ t7, t8, t9⟩
  clear t1 t2 t3 t4 t5 t6 t7 t8 t9
  induction l with
  | nil => exact True.intro
  | cons env rest ih =>
    obtain ⟨g1, ⟨L, o, g2, g3, g4, g5⟩, g6⟩ := f3
    exact ⟨g1, ⟨L, o, g2, g3, k _ _ g4, g5⟩, ih g6⟩
section
variable {X : Cx} {x1 x2 x3 n m : Str} {C1 C2 C3 : Addr} {i j kk : Nat} {body : List Stmt} {p1 p2 p3 tp pa pb pc pos pos' : Pos} {tb : WX → TS} {Wout : WX}
theorem ps_try_kept (hs : X.stack = X.env :: X.outer) (hf : X.env.frame = some X.env.locals) (hex : X.ex = []) (hN : X.N.Nodup) (hi : X.N[i]? = some n) (hj : X.N[j]? = some m) (hln : X.env.kindOf n = some .local) (hlm : X.env.kindOf m = some .local)
    (g1 : Gl X x1) (m1 : X.mg x1 = some (.ref C1)) (g2 : Gl X x2) (m2 : X.mg x2 = some (.ref C2)) (g3 : Gl X x3) (m3 : X.mg x3 = some (.ref C3)) (tk : Takes X Wout)
    (hb : ∀ (W : WX) (pn : List (Addr × Obj)) (xe : Value → Shared → Prop), Takes (X.tr pn xe) W → PassesOwn (model X.prog X.w) X.A X.env xe → PSs (X.tr pn xe) body (tb W))
    (hij : i ≠ j := by decide) (d1 : (x1 == ("__debug__" : Str)) = false := by decide) (d2 : (x2 == ("__debug__" : Str)) = false := by decide) (d3 : (x3 == ("__debug__" : Str)) = false := by decide) 
    (hn1 : (n == ("__debug__" : Str)) = false := by decide) (hn2 : (n == ("__classdict__" : Str)) = false := by decide)
    (hsw : swapsWith (.Name n pc) (some (.Name m pb)) pa.line X.env = pure false := by rfl)
    : PS X (.Try body [.ExceptHandler (some (.Tuple [.Name x1 p1, .Name x2 p2, .Name x3 p3] kk tp)) (some n) [.Assign [.Name m pb] (.Name n pc) pa] pos'] [] [] pos) (fun D σ H => tb (wKept X.K [.ref C1, .ref C2, .ref C3] i j Wout D) D σ H) := by
  refine ⟨fun pins s σ H D I h => ?_⟩
  have ok := I.ok
  have frs_eq : X.A.frames = some (X.env :: X.outer) := by
    rw [ok.frames, hs]
  let hd1 : ExceptHandler := .ExceptHandler (some (.Tuple [.Name x1 p1, .Name x2 p2, .Name x3 p3] kk tp)) (some n) [.Assign [.Name m pb] (.Name n pc) pa] pos'
  let xe2 : Value → Shared → Prop := fun e t1 => wpAny (model X.prog X.w) X.A (noteFrame e X.env) (fun _ t2 => wpAny (model X.prog X.w) X.A (setFlight e none) (fun _ t3 => wpAny (model X.prog X.w) X.A (handleBy e X.env [hd1]) (SP X pins D) X.xe t3) X.xe t2) X.xe t1
  have B0 : PSs (X.tr (X.pn ++ pins) xe2) body (tb (wKept X.K [.ref C1, .ref C2, .ref C3] i j Wout D)) := hb _ _ xe2 (fun u s' xx => ?caught) PassesOwn.looking
  case caught =>
    obtain ⟨a, B, sI, pins', σ', H', cls, d, rfl, JT, nb, up, sky, na, os, ag, b, hx, hyes, hno⟩ := xx
    have J : Inv X pins σ' H' sI := JT.ofTry ok
    have sky2 : Sky B (X.env :: X.outer) a (Zc cls d) X.env.locals s'.heap := by
      rw [← hs]
      exact sky
    show wpAny (model X.prog X.w) X.A (noteFrame (.ref a) X.env) _ _ _
    refine Sky.land Zc.steady frs_eq hf sky2 fun h3 fl3 up3 => ?_
    have out : ∀ {h : Heap} {o : Obj} {vs : Array Value}, HandSPX.FlyingZ B (X.env :: X.outer) a (Zc cls d) h → h.get? a = some o → o.data = .fields vs → a ≠ X.env.locals ∧ a ∉ X.fs ∧ a ∉ frs X.stack := by
      intro h o vs fl e dd
      have no : a ∉ frs (X.env :: X.outer) := fun hm => by
        obtain ⟨_, o2, e2, hnf⟩ := fl.2.2.1.mem hm
        rw [e] at e2
        cases e2
        exact hnf _ dd
      refine ⟨fun z => no (List.mem_filterMap.mpr ⟨X.env, List.mem_cons_self, ?_⟩), fun hm => ?_, ?_⟩
      · rw [hf, z]
      · obtain ⟨en, he, q⟩ := List.mem_filterMap.mp hm
        exact no (List.mem_filterMap.mpr ⟨en, List.mem_cons_of_mem _ he, q⟩)
      · rw [hs]
        exact no
    obtain ⟨oe3, vs3, he3, hz3, hd3⟩ := fl3.there
    obtain ⟨nL, nF, nS⟩ := out fl3 he3 hd3
    have J3 : Inv X pins σ' H' { s' with heap := h3 } := J.landed nb fl3.1 (up.trans up3) os ag
    have S3 := J3.suite he3 hd3 na nL nF
    -- the clause's tuple
    refine wpAny_handleBy_cons (codeAny_handlers_test (wpAny_Tuple (wpAny_items_cons (ld_glob (X := X.suite a ((a, oe3) :: (X.pn ++ pins))) S3 g1 m1 (wpAny_items_cons (ld_glob (X := X.suite a ((a, oe3) :: (X.pn ++ pins))) S3 g2 m2 (wpAny_items_cons (ld_glob (X := X.suite a ((a, oe3) :: (X.pn ++ pins))) S3 g3 m3 (wpAny_items_nil ⟨by size_fits, ?_⟩) d3)) d2)) d1)))) (fun q => by cases q)
    have kp : ∀ b o, h3.get? b = some o → (h3.push { cls := .type "tuple", data := .seq [Value.ref C1, .ref C2, .ref C3].toArray }).get? b = some o := fun b o z => Heap.get?_push_of_some _ z
    have LT : PySem.W.Looks (model X.prog X.w) h3 (typeOf (.ref a)) cls := fun A Q E t k q => wpAny_typeOf_ref (k _ _ he3) (by rw [hz3.1]; exact q)
    refine (PySem.W.exm_tup3 (J3.kIn.keeps kp) (LT.keeps kp) (Heap.get?_push_size h3 rfl) hx).here ?_
    have fl5 := flying_keeps kp fl3
    have up5 := (up.trans up3).trans (Heap.UpToSlots.of_keeps kp)
    cases b with
    | true =>
      obtain ⟨C, dd, rfl, rfl, kq⟩ := hyes rfl
      refine codeAny_handlers_suite_as ?_
      refine HandSPX.lands_againZ fl5 fun h4 fl4 up4 => ?_
      obtain ⟨oe4, vs4, he4, hz4, hd4⟩ := fl4.there
      have J4 : Inv X pins σ' H' { s' with heap := h4 } := J.landed nb fl4.1 (up5.trans up4) os ag
      have S4 := J4.suite he4 hd4 na nL nF
      refine store_ok (X := X.suite a ((a, oe4) :: (X.pn ++ pins))) (v := .ref a) S4 hN hi (.inl hln) rfl (fun s5 S5 => ?_) (.inr hln)
      have PA5 : PSs (X.suite a ((a, oe4) :: (X.pn ++ pins))) [.Assign [.Name m pb] (.Name n pc) pa] (tSeq (tAsg (tVar i) (gName j)) tNext) := pss_cons (ps_set hN hj (.inl hlm) (pe_var hi (.inl hln) hn1 hn2) hsw (.inr hlm)) pss_nil
      refine wpAny_mono (PA5.run [] s5 _ H' { nx := fun σ6 H6 => σ6 = (σ'.set i (some (.ref a))).set j (some (.ref a)) ∧ H6 = H', rt := fun _ _ => False, bk := fun _ _ => False, ct := fun _ _ => False } S5 ?_) (fun f s6 hsp => ?_) (fun _ _ z => z.elim)
      · refine ⟨.ref a, ?_, rfl, rfl⟩
        rw [List.getElem?_set_self (by rw [J.len]; exact (List.getElem?_eq_some_iff.mp hi).1)]
      · cases f with
        | next =>
          obtain ⟨σ6, H6, S6, e1, e2⟩ := hsp
          subst e1 e2
          have he6 := (S6.pin (a, oe4) (List.mem_append_left _ List.mem_cons_self)).1
          have new : X.s_0.heap.get? a = none := by
            cases z : X.s_0.heap.get? a with
            | none => rfl
            | some o0 =>
              obtain ⟨o1, z1⟩ := J.base.there a o0 z (by rw [hex]; exact List.not_mem_nil)
              have z2 := nb a o1 z1 nS
              rw [fl3.2.1] at z2
              cases z2
          have I6 : Inv X pins ((σ'.set i (some (.ref a))).set j (some (.ref a))) H6 s6 := S6.unsuite ok
          have I7 := I6.adopt (o := exV a C dd) he6 hd4 na new (fun p hq z => ?_) (exV_ok he6 hz4.1 hz4.2 hd4)
          · exact gone_ok I7 hN hi hln fun s7 J7 => ⟨_, _, J7, kq a na⟩
          · obtain ⟨y1, y2, y3, y4, _⟩ := J.pin p hq
            rw [z] at y1
            have z2 := nb a _ y1 nS
            rw [fl3.2.1] at z2
            cases z2
        | brk => exact hsp.elim fun _ z => z.elim fun _ z => z.2.elim
        | cont => exact hsp.elim fun _ z => z.elim fun _ z => z.2.elim
        | ret u => exact hsp.elim fun _ z => z.elim fun _ z => z.elim fun _ z => z.2.2.elim
    | false =>
      show wpAny _ X.A (handleBy (.ref a) X.env []) _ _ _
      refine wpAny_handleBy_nil ?_
      obtain ⟨k1, k2, k3, oe, vs, T, oT, ts', he, hz, hd, h1, hr⟩ := id fl5
      unfold PySem.passOn
      have fin : wpAny (model X.prog X.w) X.A (setFlight (.ref a) X.env.frame) (fun _ t4 => wpAny (model X.prog X.w) X.A (throw (.ref a) : Sem Flow) (SP X pins D) X.xe t4) X.xe { s' with heap := h3.push { cls := .type "tuple", data := .seq [Value.ref C1, .ref C2, .ref C3].toArray } } := by
        rw [hf]
        exact HandSPX.setFlight_upZ fl5 fun h4 hh4 up4 => wpAny_throw (tk _ _ ⟨a, B, sI, pins, σ', H', cls, d, rfl, J, nb, up5.trans up4, .inr (.inr (by rw [hs]; exact hh4)), na, os, ag, hno rfl⟩)
      refine wpAny_bind (wpAny_field he hd h1 ?_)
      rw [if_neg (show ¬ ((Value.ref T == Value.none) = true) from by simp)]
      first
        | exact wpAny_bind (wpAny_pure (wpAny_bind fin))
        | exact wpAny_bind fin
  refine wpAny_Try_except (wpAny_mono (B0.run [] s σ H D (I.toTry _) h) (fun f s1 hsp => ?_) (fun e s1 he => he))
  cases f with
  | next =>
    obtain ⟨σ2, H2, J2, q⟩ := hsp
    exact wpAny_execs_nil ⟨σ2, H2, J2.ofTry ok, q⟩
  | brk =>
    obtain ⟨σ2, H2, J2, q⟩ := hsp
    exact ⟨σ2, H2, J2.ofTry ok, q⟩
  | cont =>
    obtain ⟨σ2, H2, J2, q⟩ := hsp
    exact ⟨σ2, H2, J2.ofTry ok, q⟩
  | ret u =>
    obtain ⟨v, σ2, H2, J2, r, q⟩ := hsp
    exact ⟨v, σ2, H2, J2.ofTry ok, r, q⟩
end
end L2

set_option Elab.async false
set_option linter.all false
set_option maxRecDepth 100000
set_option maxHeartbeats 4000000
/-! VxU: raise C(v), C an error class of the program with its own __init__. -/
namespace L2
open PySem PySem.Spec PyProof.Rows
section
variable {X : Cx} {CX : CXT} {k : Nat} {C fI : Addr} {fd : FuncData} {ps : List Str} {sp : Sp} {x f : Str} {p pos : Pos} {e : Expr} {es : List Expr} {t : TA} {te : TE}
theorem run_xmk {pins : List (Addr × Obj)} {σ : St} {H : Hp} {s : Shared} {Q : XK} {us zs : List Value} {kw : List (Str × Value)} {vs : List V} (T : Xc X.K C) (iC : PySem.W.findIn X.K (.ref C) "__init__" = some (some (.ref fI))) (tI : PySem.W.typeIn X.K (.ref fI) = some (.type "function"))
    (F1 : FnOk X.prog X.w X.K X.mg X.base CX k fI fd ps sp) (hr : Room (k + 1) X.A) (hx : Passes CX X (fun _ _ _ => False)) (hz : us.length ≤ sizeLine)
    (hb : ∀ (s : Shared) (a : Addr), X.K.In s.heap → BindsTo s fd ⟨Value.ref a :: us, kw⟩ (ps.zip (Value.ref a :: zs))) (I : Inv X pins σ H s) (r : Vals vs zs)
    (h : ∀ a, H a = none → sp (.ref a :: vs) (upd H a (exo a C none)) (fun v H2 => v = .non ∧ ∃ (d : Addr) (fs : List (Str × V)), H2 a = some (exo a C (some d)) ∧ H2 d = some (exd d fs) ∧ H d = none ∧ Q (.ref C) (some d) (upd (del H2 a) d (.xd fs))) (fun _ _ _ => False)) :
    wpAny (model X.prog X.w) X.A (call (.ref C) us kw) (MkP X pins σ Q) X.xe s := by
  obtain ⟨nm, q, N, bs, bm, sn, sub, ab, col, dd, k0, k1, k2, k3, k5, B, newId, initId, bmB, hC, FB, hbm⟩ := T.cls
  have hT : ∀ Y : String, bm.contains (.type Y) = bmB.contains (.type Y) := fun Y => by
    have z := PySem.W.excTail_contains Y _ hbm.tail
    rw [List.contains_cons] at z
    have e : (Value.type Y == Value.ref C) = false := rfl
    rw [e, Bool.false_or] at z
    exact z
  obtain ⟨hp, g, dr, tk, os⟩ := s
  have lo : hp.objs.size ≤ hp.objs.size + 1 := Nat.le_succ _
  have hn : H (hp.objs.size + 1) = none := I.hok.fresh lo
  have hq := h (hp.objs.size + 1) hn
  let h2 : Heap := (hp.push (PySem.W.kdv_tup us)).push (PySem.HandSPX.excO C hp.objs.size)
  have kk : ∀ b o, hp.get? b = some o → h2.get? b = some o := fun b o e => Heap.get?_push_of_some _ (Heap.get?_push_of_some _ e)
  have hget : h2.get? (hp.objs.size + 1) = some (PySem.HandSPX.excO C hp.objs.size) := by heap_get
  have I2 : Inv X pins σ (upd H (hp.objs.size + 1) (exo (hp.objs.size + 1) C none)) ⟨h2, g, dr, tk, os⟩ :=
    I.laid (t' := tk) (o := exo (hp.objs.size + 1) C none) kk lo (exo_ok hget)
  have r2 : Vals (V.ref (hp.objs.size + 1) :: vs) (Value.ref (hp.objs.size + 1) :: zs) := .cons rfl r
  refine wpAny_call (VxS.call_K FB hT (I.kIn _ _ hC) (PySem.W.looks_findIn I.kIn iC) (fun self => PySem.W.bind_fn I.kIn self tI) hz
    (codeAny_mono (F1.run _ X.stack _ _ ⟨Value.ref (hp.objs.size + 1) :: us, kw⟩ (Value.ref (hp.objs.size + 1) :: zs) _ _ (fun _ _ _ => False) (hr.make C us kw) (I2.env0.make C us kw) (hb _ _ I2.kIn) r2 hq) fun r s' hq' => ?_))
  match r, hq' with
  | .error er, hq' => exact hx pins σ _ _ er s' I2 hq'
  | .ok (.ret u), hq' =>
    obtain ⟨v, H2, os2, bare2, un2, hok2, rv, ev, d, fs, ea, ed, hd1, q2⟩ := hq'
    subst ev
    obtain ⟨h3, g2, d2, t2, os'⟩ := s'
    exact ⟨rv, mk_end (raises_own T.exC T.tyC) I lo kk un2 hok2 os2 bare2 ea ed hd1 q2⟩
  | .ok .next, hq' => exact hq'.elim
  | .ok .brk, hq' => exact hq'.elim
  | .ok .cont, hq' => exact hq'.elim
/-- raise C(e): W is what is wished of the error -/
def tX1e (C : Addr) (f : Str) (te : TE) : St → Hp → XK → Prop := fun σ H Q => te σ H fun u H1 => ∃ v, [u] = [v] ∧ ∀ dd H', H1 dd = none → Same H1 H' → H' dd = some (.xd [(f, v)]) → Q (.ref C) (some dd) H'
theorem pmk_x1 (B : XK1 X.prog X.w X.K X.mg X.base x f C) (hr : Room 2 X.A) (hg : Gl X x) (he : PE X e te) (hdb : (x == ("__debug__" : Str)) = false := by decide) (hs : starEach [e] X.env = (false, eval e X.env) :: starEach [] X.env := by rfl) (hpl : (backTo pos (starEach [] X.env)).any (·.1) = false := by rfl) :
    PMk X (.Call (.Name x p) [e] [] pos) (tX1e C f te) := by
  obtain ⟨fI, fd, i1, i2, F, bd, _⟩ := B.ex
  intro pins s σ H Q I h
  refine wpAny_Call_Name_kw (ld_glob I hg B.hm ?_ hdb)
  refine PySem.W.callWith_K (h₀ := X.base) I.ok.mod.kin B.T.kC (thn ((pa_cons he pa_nil hs).run pos pins s σ H (fun vs H1 => ∃ v, vs = [v] ∧ ∀ dd H', H1 dd = none → Same H1 H' → H' dd = some (.xd [(f, v)]) → Q (.ref C) (some dd) H') I ?_) fun us s1 hh => ?_) hs hpl
  · exact h
  obtain ⟨vs, H1, I1, r1, v, rfl, q⟩ := hh
  have hl : us.length = 1 := r1.length.symm
  refine ⟨I1.kIn, run_xmk (us := us) (vs := [v]) B.T i1 i2 F hr pass0 (by rw [hl]; decide) (fun s a kin => ?_) I1 r1 fun a ha => ⟨a, v, rfl, upd_same, fun dx n ne => ⟨rfl, dx, [(f, v)], upd_same, (by rw [upd_ne ne, upd_same]), ?_, q dx _ ?_ (fun b o z => ?_) upd_same⟩⟩⟩
  · have z := bd s (Value.ref a :: us) kin (by rw [List.append_nil, List.length_cons, hl]; rfl)
    rw [List.append_nil] at z
    exact z
  · rw [← n, upd_ne ne]
  · rw [← n, upd_ne ne]
  · have hd : H1 dx = none := by rw [← n, upd_ne ne]
    rw [upd_ne (ne_of_none z hd), del_ne (ne_of_none z ha), upd_ne (ne_of_none z ha), upd_ne (ne_of_none z hd), upd_ne (ne_of_none z ha)]
    exact z
/-- raise C(e) -/
theorem ps_x1 {W : WX} {pos2 : Pos} (hc : X.calm = true) (tk : Takes X W) (B : XK1 X.prog X.w X.K X.mg X.base x f C) (hr : Room 2 X.A) (hg : Gl X x) (he : PE X e te) (hdb : (x == ("__debug__" : Str)) = false := by decide)
    (hs : starEach [e] X.env = (false, eval e X.env) :: starEach [] X.env := by rfl) (hpl : (backTo pos (starEach [] X.env)).any (·.1) = false := by rfl) :
    PS X (.Raise (some (.Call (.Name x p) [e] [] pos)) none pos2) (fun _ σ H => tX1e C f te σ H fun cls d H' => W cls d σ H') := ps_raise hc tk (pmk_x1 B hr hg he hdb hs hpl)
end
end L2

set_option Elab.async false
set_option linter.all false
set_option maxRecDepth 100000
set_option maxHeartbeats 4000000
/-! VxY: generators of the program whose consumer owns some objects (a list, a comprehension's names) that change while the generator sleeps. What a run hands out is told beforehand (xs); j of it are out. -/
namespace L2
open PySem PySem.Spec PyProof.Rows GenW
/-- while the generator sleeps: the consumer's own objects may change, all else stays -/
structure Zzz (Z : List Addr) (s s' : Shared) : Prop where
  os : s'.os = s.os
  bare : AllBare s'.gens
  keep : ∀ b o, b ∉ Z → s.heap.get? b = some o → s'.heap.get? b = some o
  own : ∀ z ∈ Z, ∃ o, s'.heap.get? z = some o ∧ ∀ v, o.data ≠ .cell v
/-- the consumer's objects lie apart of the generator's frame -/
def Aside (X : Cx) (Z : List Addr) : Prop := ∀ z ∈ Z, X.s_0.heap.objs.size ≤ z ∧ z ≠ X.env.locals ∧ (∀ x c, X.env.cells.lookup x = some c → c ≠ z) ∧ ∀ p ∈ X.pn, p.1 ≠ z
/-- running: the consumer's objects stand as they stood when it was woken (s₀) -/
def YRun (X : Cx) (Z : List Addr) (ip : List (Addr × Obj)) (σ : L2.St) (H : Hp) (s₀ s : Shared) : Prop :=
  ∃ zp : List (Addr × Obj), zp.map (·.1) = Z ∧ (∀ p ∈ zp, s₀.heap.get? p.1 = some p.2) ∧ Inv X (zp ++ ip) σ H s
theorem snap {h : Heap} : ∀ {Z : List Addr}, (∀ z ∈ Z, ∃ o, h.get? z = some o ∧ ∀ v, o.data ≠ .cell v) → ∃ zp : List (Addr × Obj), zp.map (·.1) = Z ∧ ∀ p ∈ zp, h.get? p.1 = some p.2 ∧ ∀ v, p.2.data ≠ .cell v
  | [], _ => ⟨[], rfl, fun _ m => (List.not_mem_nil m).elim⟩
  | z :: Z, h1 => by
    obtain ⟨o, e1, e2⟩ := h1 z List.mem_cons_self
    obtain ⟨zp, f1, f2⟩ := snap (Z := Z) fun y hy => h1 y (List.mem_cons_of_mem _ hy)
    refine ⟨(z, o) :: zp, by rw [List.map_cons, f1], fun p m => ?_⟩
    rcases List.mem_cons.mp m with m | m
    · rw [m]
      exact ⟨e1, e2⟩
    · exact f2 p m
section
variable {X : Cx} {Z : List Addr} {ip : List (Addr × Obj)} {σ : L2.St} {H : Hp} {s₀ s s' : Shared}
theorem YRun.at {z : Addr} (r : YRun X Z ip σ H s₀ s) (hz : z ∈ Z) : H z = none ∧ z ∉ X.fs ∧ ∃ o, s₀.heap.get? z = some o ∧ s.heap.get? z = some o := by
  obtain ⟨zp, rfl, e2, I⟩ := r
  obtain ⟨p, hp, rfl⟩ := List.mem_map.mp hz
  obtain ⟨i1, i2, i3, i4, i5⟩ := I.pin p (List.mem_append_right _ (List.mem_append_left _ hp))
  exact ⟨i2, i4, p.2, e2 p hp, i1⟩
theorem YRun.inv (r : YRun X Z ip σ H s₀ s) : Inv X ip σ H s := by
  obtain ⟨zp, _, _, I⟩ := r
  exact I.pins_of fun p hp => I.pin p (List.mem_append_right _ (List.mem_append_right _ hp))
/-- woken again -/
theorem YRun.woken (hA : Aside X Z) (hip : ∀ p ∈ ip, p.1 ∉ Z) (r : YRun X Z ip σ H s₀ s) (w : Zzz Z s s') : YRun X Z ip σ H s' s' := by
  have at_ := fun z (hz : z ∈ Z) => r.at hz
  have I := r.inv
  obtain ⟨zp', f1, f2⟩ := snap w.own
  obtain ⟨w1, w2, w3, w4⟩ := w
  have nz : ∀ b u, H b = some u → b ∉ Z := fun b u q hb => by
    rw [(at_ b hb).1] at q
    cases q
  obtain ⟨hh, g, d, t, o⟩ := s'
  have ho : o = s.os := w1
  subst ho
  have J : Inv X ip σ H { s with heap := hh, gens := g, drawn := d, toks := t } := by
    refine I.step (ch := Z) (fun b hb => ?_) (fun b ob _ _ hc q _ => w3 b ob hc q) (fun b ob _ _ hc q _ => ⟨ob.slots, w3 b ob hc q⟩) (fun _ _ _ _ n => n) (fun b ob hc q => ⟨ob, w3 b ob hc q⟩)
      (fun _ _ q => q) (fun _ _ _ q => q) (fun b ps q => ⟨#[], by rw [q]; simp⟩) (fun m hm => ?_) (fun b u q => ?_) w2
    · obtain ⟨a1, a2, a3, a4⟩ := hA b hb
      refine ⟨.inr a1, a2, a3, fun p hp => ?_⟩
      rcases List.mem_append.mp hp with hp | hp
      · exact a4 p hp
      · exact fun e => hip p hp (by rw [e]; exact hb)
    · obtain ⟨ob, es, ep, ho, rr⟩ := hm
      exact ⟨ob, es, ep, w3 _ ob (fun z => (hA _ z).2.1 rfl) ho, rr⟩
    · refine (I.hok b u q).stay (fun c v hc y => w3 c v ?_ y) (fun _ y => y) fun _ _ y => y
      rcases hc with y | y
      · rw [y]
        exact nz b u q
      · exact nz c _ y
  refine ⟨zp', f1, fun p hp => (f2 p hp).1, J.pins_of fun p hp => ?_⟩
  rcases List.mem_append.mp hp with hp | hp
  · have hz : p.1 ∈ Z := by
      rw [← f1]
      exact List.mem_map.mpr ⟨p, hp, rfl⟩
    exact ⟨(f2 p hp).1, (at_ _ hz).1, (hA _ hz).2.1, (at_ _ hz).2.1, (f2 p hp).2⟩
  · exact J.pin p (List.mem_append_right _ hp)
end
/-! ### the protocol -/
def YP (X : Cx) (Z : List Addr) (xs : List V) : Protocol := fun n s₀ v s kap =>
  ∃ j x ip σ H, n + 1 + j = xs.length ∧ xs[j]? = some x ∧ RelV x v ∧ YRun X Z ip σ H s₀ s ∧ ∀ s', Zzz Z s s' → kap (.send .none) s'
def YR (X : Cx) (Z : List Addr) (xs : List V) (Q : VK) (F : Value → Shared → Prop) : GenEnd := fun n s₀ r s => match r with
  | .ok (.ret u) => ∃ v ip σ H, n = 0 ∧ YRun X Z ip σ H s₀ s ∧ RelV v u ∧ Q v H
  | .ok _ => False
  | .error e => F e s
structure YEnds where
  nx : Nat → L2.St → Hp → Prop
  rt : Nat → VK
  bk : Nat → L2.St → Hp → Prop := fun _ _ _ => False
  ct : Nat → L2.St → Hp → Prop := fun _ _ _ => False
abbrev TY := YEnds → Nat → L2.St → Hp → Prop
def YSP (X : Cx) (Z : List Addr) (ip : List (Addr × Obj)) (D : YEnds) (j : Nat) (s₀ : Shared) (f : Flow) (s : Shared) : Prop :=
  match f with
  | .next => ∃ σ H, YRun X Z ip σ H s₀ s ∧ D.nx j σ H
  | .brk => ∃ σ H, YRun X Z ip σ H s₀ s ∧ D.bk j σ H
  | .cont => ∃ σ H, YRun X Z ip σ H s₀ s ∧ D.ct j σ H
  | .ret u => ∃ v σ H, YRun X Z ip σ H s₀ s ∧ RelV v u ∧ D.rt j v H
/-- where the generator's code stands -/
structure YC (X : Cx) (Z : List Addr) (ip : List (Addr × Obj)) (A : Around) (c : Code) (fs : List Frame) (gd : Bool → Bool) : Prop where
  ip : ∀ p ∈ ip, p.1 ∉ Z
  aside : Aside X Z
  over : A.over c fs = X.A
  split : splitAtGen fs = none
  guard : fs.any Frame.guarded = false
  gd : gd false = false
structure YK (X : Cx) (Z : List Addr) (xs : List V) (ip : List (Addr × Obj)) (A : Around) (R : GenEnd) (c : Code) (fs : List Frame) (K : Flow → Sem PySem.Fin) (J : Value → Sem PySem.Fin) (D : YEnds) : Prop where
  ok : ∀ (n j : Nat) (s₀ s : Shared) (f : Flow), n + j = xs.length → YSP X Z ip D j s₀ f s → Seg (model X.prog X.w) A R (YP X Z xs) n s₀ c (K f) fs s
  exc : ∀ (n : Nat) (s₀ : Shared) (e : Value) (s : Shared), X.xe e s → Seg (model X.prog X.w) A R (YP X Z xs) n s₀ c (J e) fs s
structure YS (X : Cx) (xs : List V) (st : Stmt) (t : TY) : Prop where
  run : ∀ (A : Around) (Z : List Addr) (ip : List (Addr × Obj)) (R : GenEnd) (n j : Nat) (s₀ : Shared) (c : Code) (fs : List Frame) (K : Flow → Sem PySem.Fin) (J : Value → Sem PySem.Fin) (gd : Bool → Bool) (lv : List Value → List Value) (s : Shared) (σ : L2.St) (H : Hp) (D : YEnds),
    YC X Z ip A c fs gd → n + j = xs.length → YK X Z xs ip A R c fs K J D → YRun X Z ip σ H s₀ s → t D j σ H → Seg (model X.prog X.w) A R (YP X Z xs) n s₀ c ((exec st X.env).wrap K J gd lv) fs s
structure YSs (X : Cx) (xs : List V) (st : List Stmt) (t : TY) : Prop where
  run : ∀ (A : Around) (Z : List Addr) (ip : List (Addr × Obj)) (R : GenEnd) (n j : Nat) (s₀ : Shared) (c : Code) (fs : List Frame) (K : Flow → Sem PySem.Fin) (J : Value → Sem PySem.Fin) (gd : Bool → Bool) (lv : List Value → List Value) (s : Shared) (σ : L2.St) (H : Hp) (D : YEnds),
    YC X Z ip A c fs gd → n + j = xs.length → YK X Z xs ip A R c fs K J D → YRun X Z ip σ H s₀ s → t D j σ H → Seg (model X.prog X.w) A R (YP X Z xs) n s₀ c ((execs st X.env).wrap K J gd lv) fs s
section
variable {X : Cx} {xs : List V} {st : Stmt} {rest : List Stmt}
def YEnds.at (D : YEnds) (j : Nat) : Ends := { nx := D.nx j, rt := D.rt j, bk := D.bk j, ct := D.ct j }
theorem ysp_of {Z : List Addr} {ip zp : List (Addr × Obj)} {D : YEnds} {j : Nat} {s₀ s : Shared} {f : Flow} (e1 : zp.map (·.1) = Z) (e2 : ∀ p ∈ zp, s₀.heap.get? p.1 = some p.2) (h : SP X (zp ++ ip) (D.at j) f s) : YSP X Z ip D j s₀ f s := by
  match f, h with
  | .next, ⟨σ, H, I, q⟩ => exact ⟨σ, H, ⟨zp, e1, e2, I⟩, q⟩
  | .brk, ⟨σ, H, I, q⟩ => exact ⟨σ, H, ⟨zp, e1, e2, I⟩, q⟩
  | .cont, ⟨σ, H, I, q⟩ => exact ⟨σ, H, ⟨zp, e1, e2, I⟩, q⟩
  | .ret u, ⟨v, σ, H, I, r, q⟩ => exact ⟨v, σ, H, ⟨zp, e1, e2, I⟩, r, q⟩
/-- a statement that hands out nothing -/
theorem ys_ps {t : TS} (h : PS X st t) : YS X xs st (fun D j σ H => t (D.at j) σ H) := by
  refine ⟨fun A Z ip R n j s₀ c fs K J gd lv s σ H D g hn k r ht => ?_⟩
  obtain ⟨zp, e1, e2, I⟩ := r
  refine seg_wrap ?_
  rw [g.over]
  exact wpAny_mono (h.run _ s σ H (D.at j) I ht) (fun f s' q => k.ok n j s₀ s' f hn (ysp_of e1 e2 q)) fun x s' q => k.exc n s₀ x s' q
theorem yss_nil : YSs X xs [] (fun D j σ H => D.nx j σ H) :=
  ⟨fun A Z ip R n j s₀ c fs K J gd lv s σ H D g hn k r ht => seg_execs_nil (k.ok n j s₀ s .next hn ⟨σ, H, r, ht⟩)⟩
theorem yss_cons {t u : TY} (a : YS X xs st t) (b : YSs X xs rest u) : YSs X xs (st :: rest) (fun D j σ H => t { D with nx := fun j' σ' H' => u D j' σ' H' } j σ H) := by
  refine ⟨fun A Z ip R n j s₀ c fs K J gd lv s σ H D g hn k r ht => seg_execs_cons (a.run A Z ip R n j s₀ c fs _ J gd lv s σ H { D with nx := fun j' σ' H' => u D j' σ' H' } g hn ⟨fun n' j' s₁ s' f hn' hs => ?_, k.exc⟩ r ht)⟩
  match f, hs with
  | .next, ⟨σ', H', r', q⟩ => exact b.run A Z ip R n' j' s₁ c fs K J gd lv s' σ' H' D g hn' k r' q
  | .brk, hs => exact k.ok n' j' s₁ s' .brk hn' hs
  | .cont, hs => exact k.ok n' j' s₁ s' .cont hn' hs
  | .ret u, hs => exact k.ok n' j' s₁ s' (.ret u) hn' hs
/-- yield e -/
theorem ys_yield {e : Expr} {yp pos : Pos} {te : TE} (he : PE X e te) (hco : X.env.scope.isCoroutine = false := by rfl) (hi : interactive X.env = false := by rfl) :
    YS X xs (.Expr (.Yield (some e) yp) pos) (fun D j σ H => j < xs.length ∧ te σ H fun x H1 => xs[j]? = some x ∧ D.nx (j + 1) σ H1) := by
  refine ⟨fun A Z ip R n j s₀ c fs K J gd lv s σ H D g hn k r ht => ?_⟩
  obtain ⟨hlt, ht⟩ := ht
  obtain ⟨zp, e1, e2, I⟩ := r
  obtain ⟨m, rfl⟩ : ∃ m, n = m + 1 := ⟨n - 1, by omega⟩
  refine seg_Expr_Yield g.split g.gd g.guard ?_ hco hi
  rw [g.over]
  refine wpAny_mono (he.run _ s σ H _ I ht) (fun v s' hv => ?_) fun x s' q => k.exc _ s₀ x s' q
  obtain ⟨x, H1, I1, rv, hx, q⟩ := hv
  intro kap hk
  have r1 : YRun X Z ip σ H1 s₀ s' := ⟨zp, e1, e2, I1⟩
  exact ⟨j, x, ip, σ, H1, hn, hx, rv, r1, fun s2 z => hk .none s2 (k.ok m (j + 1) s2 s2 .next (by omega) ⟨σ, H1, r1.woken g.aside g.ip z, q⟩)⟩
/-! ### yield from -/
theorem seg_from {Z : List Addr} {ip : List (Addr × Obj)} {A : Around} {R : GenEnd} {fs : List Frame} {it : Addr} {ys : List V} {St : Nat → Heap → Prop} {σ : L2.St} {H : Hp} {j0 : Nat} (hip : ∀ p ∈ ip, p.1 ∉ Z) (hpi : ∀ p ∈ X.pn ++ ip, p.1 ≠ it) (hA : Aside X Z)
    (hex : it ∈ X.ex ∨ X.s_0.heap.objs.size ≤ it) (hL : it ≠ X.env.locals) (hcell : ∀ x c, X.env.cells.lookup x = some c → c ≠ it) (hZ : it ∉ Z) (hH : H it = none) (q : QIt X H it ys St)
    (ho : (A.over (.builtin "proto.yield_from" ⟨[.ref it, .bool false, .none], []⟩) fs).handled = none) (hsp : splitAtGen fs = none) (hgd : fs.any Frame.guarded = false) (hxs : ∀ i y, ys[i]? = some y → xs[j0 + i]? = some y)
    (hend : ∀ (n : Nat) (s₀ s : Shared), n + (j0 + ys.length) = xs.length → YRun X Z ip σ H s₀ s → Seg (model X.prog X.w) A R (YP X Z xs) n s₀ (.builtin "proto.yield_from" ⟨[.ref it, .bool false, .none], []⟩) (.pure (.done (.ret .none))) fs s) :
    ∀ (r i n : Nat) (s₀ s : Shared), i + r = ys.length → n + (j0 + i) = xs.length → YRun X Z ip σ H s₀ s → St i s.heap →
      Seg (model X.prog X.w) A R (YP X Z xs) n s₀ (.builtin "proto.yield_from" ⟨[.ref it, .bool false, .none], []⟩) ((model X.prog X.w).den (.builtin "proto.yield_from" ⟨[.ref it, .bool false, .none], []⟩)) fs s := by
  obtain ⟨T, tyT, noClose, noGen⟩ := q.ty
  -- the iterator has turned
  have turned : ∀ {s₀ s : Shared} {h' : Heap} {tk : Nat}, YRun X Z ip σ H s₀ s → (∀ b o, b ≠ it → s.heap.get? b = some o → h'.get? b = some o) → YRun X Z ip σ H s₀ { s with heap := h', toks := tk } := by
    intro s₀ s h' tk r hk
    obtain ⟨zp, e1, e2, I⟩ := r
    refine ⟨zp, e1, e2, I.turned (it := it) hk hH hL hex hcell fun p hp => ?_⟩
    rcases List.mem_append.mp hp with hp | hp
    · exact hpi p (List.mem_append_left _ hp)
    · rcases List.mem_append.mp hp with hp | hp
      · intro e
        refine hZ ?_
        rw [← e, ← e1]
        exact List.mem_map.mpr ⟨p, hp, rfl⟩
      · exact hpi p (List.mem_append_right _ hp)
  intro r
  induction r with
  | zero =>
    intro i n s₀ s hi hn rr hst
    obtain rfl : i = ys.length := by omega
    rw [den_yf]
    unfold Builtin.«proto.yield_from»
    try dsimp only
    refine seg_bind (wpAny_pure ?_)
    try dsimp only
    refine seg_bind (wpAny_attempt (wpAny_holding ?_))
    rw [if_neg Bool.false_ne_true, if_pos (show (Value.none == Value.none) = true from rfl)]
    refine wpAny_bind (wpAny_rule (wpAny_bind (q.done _ s _ _ ho hst fun e h' tk stop hk => ?_)))
    obtain ⟨a, o, vs, rfl, oa, oc, od, o5⟩ := stop
    try dsimp only
    refine seg_bind (wpAny_endsTurn oa oc ?_)
    try dsimp only
    rw [if_pos rfl]
    first
      | refine seg_bind (wpAny_rule ?_)
      | (rw [if_neg Bool.false_ne_true]; refine seg_bind (wpAny_rule ?_))
      | (rw [if_neg Bool.false_ne_true]; refine seg_bind (wpAny_pure ?_); refine seg_bind (wpAny_rule ?_))
    exact seg_bind (wpAny_field oa od o5 (hend n s₀ _ hn (turned rr hk)))
  | succ r ih =>
    intro i n s₀ s hi hn rr hst
    obtain ⟨x, hx⟩ : ∃ x, ys[i]? = some x := ⟨_, List.getElem?_eq_getElem (by omega)⟩
    have hx2 := hxs i x hx
    have hlt := (List.getElem?_eq_some_iff.mp hx2).1
    obtain ⟨m, rfl⟩ : ∃ m, n = m + 1 := ⟨n - 1, by omega⟩
    rw [den_yf]
    unfold Builtin.«proto.yield_from»
    try dsimp only
    refine seg_bind (wpAny_pure ?_)
    try dsimp only
    refine seg_bind (wpAny_attempt (wpAny_holding ?_))
    rw [if_neg Bool.false_ne_true, if_pos (show (Value.none == Value.none) = true from rfl)]
    refine wpAny_bind (wpAny_rule (wpAny_bind (q.item _ i x s _ _ ho hx hst fun v h' tk rv hst' hk => wpAny_pure ?_)))
    have r1 := turned (tk := tk) rr hk
    obtain ⟨oi, hoi, hoc⟩ := tyT (i + 1) h' hst'
    try dsimp only
    refine seg_bind (wpAny_typeOf (T := T) ⟨oi, hoi, hoc⟩ ?_)
    try dsimp only
    first
      | (refine seg_bind (wpAny_of_eq noClose ?_); refine seg_bind (wpAny_pure ?_))
      | refine seg_bind (wpAny_bind (wpAny_of_eq noClose (wpAny_pure ?_)))
      | refine seg_bind (wpAny_of_eq noClose ?_)
    try dsimp only
    refine seg_bind (wpAny_sleptOver hoi hoc noGen (seg_yield hsp rfl hgd ⟨j0 + i, x, ip, σ, H, by omega, hx2, rv, r1, fun s2 z => ?_⟩))
    have r2 := r1.woken hA hip z
    have st2 : St (i + 1) s2.heap := q.frame (i + 1) h' s2.heap hst' fun b o hb e => z.keep b o (fun hm => by
      rcases hb with y | y
      · rw [y] at hm
        exact hZ hm
      · exact y (r1.at hm).1) e
    obtain ⟨oj, hoj, hojc⟩ := tyT (i + 1) s2.heap st2
    show Seg _ _ _ _ m s2 _ (Builtin.Generator.sleptOver (.ref it) false >>= fun _ => _) fs s2
    refine seg_bind (wpAny_sleptOver hoj hojc noGen ?_)
    try dsimp only
    exact seg_bind (wpAny_pure (seg_again (plainId_quiet plain_yf _) (ih (i + 1) m s2 s2 (by omega) (by omega) r2 st2)))
theorem ys_from {e : Expr} {yp pos : Pos} {t : TYf} (he : YfE X e t) (hc : X.A.handled = none) (hi : interactive X.env = false := by rfl) :
    YS X xs (.Expr (.YieldFrom e yp) pos) (fun D j σ H => t σ H fun ys H1 => (∀ i y, ys[i]? = some y → xs[j + i]? = some y) ∧ D.nx (j + ys.length) σ H1) := by
  refine ⟨fun A Z ip R n j s₀ c fs K J gd lv s σ H D g hn k r ht => ?_⟩
  obtain ⟨zp, e1, e2, I⟩ := r
  rw [exec_Expr X.env _ pos hi rfl]
  show Seg _ _ _ _ n s₀ c (.at pos fun _ => ((eval e X.env >>= fun v => (standAt yp >>= fun _ => yieldFrom X.env v)) >>= fun x => dropValue (.YieldFrom e yp) pos x).wrap K J gd lv) fs s
  refine seg_at (segw_bind2 ?_)
  rw [g.over]
  refine wpAny_mono (he.run _ s σ H _ I ht) (fun v s1 hv => ?_) fun x s' q => k.exc n s₀ x s' q
  obtain ⟨T, hT, hne, hit⟩ := hv
  refine seg_at ?_
  show Seg _ _ _ _ n s₀ c ((yieldFrom X.env v).wrap (fun b => (dropValue (.YieldFrom e yp) pos b).wrap K J gd lv) J gd lv) fs s1
  unfold yieldFrom
  refine seg_bind_wrap (wpAny_typeOf hT ?_)
  rw [if_neg (show ¬ ((Value.type T == Value.type "coroutine") = true) by rw [hne]; exact Bool.false_ne_true)]
  refine seg_bind_wrap (wpAny_holding ?_)
  rw [g.over]
  refine wpAny_mono hit (fun u s2 hu => ?_) fun x s' q => k.exc n s₀ x s' q
  obtain ⟨it, H', ys, St, rfl, I2, q1, q2, q3, q4, q5, q6, q7, hxs, hq⟩ := hu
  have r2 : YRun X Z ip σ H' s₀ s2 := ⟨zp, e1, e2, I2⟩
  have hZ : it ∉ Z := fun hm => by
    rw [← e1] at hm
    obtain ⟨p, hp, e⟩ := List.mem_map.mp hm
    exact q5 p (List.mem_append_right _ (List.mem_append_left _ hp)) e
  refine seg_call fun p => seg_from (ys := ys) (j0 := j) g.ip (fun p hp => ?_) g.aside q1 q2 q3 hZ q4 q7 ?_ ?_ ?_ hxs (fun n' s₁ s' hn' r' => ?_) ys.length 0 n s₀ s2 (Nat.zero_add _) hn r2 q6
  · rcases List.mem_append.mp hp with hp | hp
    · exact q5 p (List.mem_append_left _ hp)
    · exact q5 p (List.mem_append_right _ (List.mem_append_right _ hp))
  · show (A.over c fs).handled = none
    rw [g.over]
    exact hc
  · show (splitAtGen fs).map _ = none
    rw [g.split] <;> rfl
  · show (gd false || fs.any Frame.guarded) = false
    rw [g.gd, g.guard] <;> rfl
  · exact seg_leaf (.ok (.ret .none)) (k.ok n' (j + ys.length) s₁ s' .next hn' ⟨σ, H', r', hq⟩)
end
end L2

set_option Elab.async false
set_option linter.all false
set_option maxRecDepth 100000
set_option maxHeartbeats 800000
/-! VxZ: a generator def's promise by its body; its call. -/
namespace L2
open PySem PySem.Spec PyProof.Rows GenW
/-- arguments, heap, what will be handed out, what is wanted at the end, exceptions -/
abbrev SpY := List V → Hp → List V → (Hp → Prop) → XK → Prop
/-- the consumer's objects are as they were at the waking -/
def Still (Z : List Addr) (H : Hp) (s₀ s : Shared) : Prop := ∀ z ∈ Z, H z = none ∧ ∃ o, s₀.heap.get? z = some o ∧ s.heap.get? z = some o
def YEnd (P : Program) (w : World) (outer : List Env) (H : Hp) (s : Shared) (Z : List Addr) (a : Addr) (g : Nat) (Q : Hp → Prop) (E : XK) : GenEnd := fun n s₀ r s1 =>
  ((r = .ok (.ret .none) ∨ r = .ok .next) ∧ ∃ H', n = 0 ∧ s1.os = s.os ∧ AllBare s1.gens ∧ Un (frs outer) [] H H' s.heap s1.heap ∧ HOk P w H' s1.heap ∧ Still Z H' s₀ s1 ∧ Q H') ∨
  ∃ e, r = .error e ∧ CX P w outer H s E e s1 ∧ s1.heap.IsGen a g
def YItm (P : Program) (w : World) (outer : List Env) (H : Hp) (s : Shared) (Z : List Addr) (a : Addr) (g : Nat) (xs : List V) : Protocol := fun n s₀ v s1 kap =>
  ∃ j x H', n + 1 + j = xs.length ∧ xs[j]? = some x ∧ RelV x v ∧ s1.os = s.os ∧ AllBare s1.gens ∧ s1.heap.NoLimit ∧ s1.heap.IsGen a g ∧ Un (frs outer) [] H H' s.heap s1.heap ∧ HOk P w H' s1.heap ∧ Still Z H' s₀ s1 ∧
    ∀ s', Zzz Z s1 s' → kap (.send .none) s'
/-- a generator that has not begun -/
def YMade (P : Program) (w : World) (k : Nat) (outer : List Env) (H : Hp) (s : Shared) (xs : List V) (Q : Hp → Prop) (E : XK) (u : Value) (s' : Shared) : Prop :=
  ∃ (a : Addr) (g : Nat) (c : Code), u = .ref a ∧ s.heap.objs.size ≤ a ∧ a < s'.heap.objs.size ∧ s'.heap.IsGen a g ∧ s'.gens[g]? = some (.fresh c) ∧ s'.os = s.os ∧ AllBare s'.gens ∧ s'.heap.NoLimit ∧ (∀ b o, s.heap.get? b = some o → s'.heap.get? b = some o) ∧
    ∀ (A : Around) (Z : List Addr) (s2 : Shared), Room k A → A.frames = some outer → (∀ z ∈ Z, s'.heap.objs.size ≤ z ∧ ∃ o, s2.heap.get? z = some o ∧ ∀ v, o.data ≠ .cell v) → (∀ b o, s'.heap.get? b = some o → s2.heap.get? b = some o) → s2.os = s.os → AllBare s2.gens →
      Seg (model P w) A (YEnd P w outer H s Z a g Q E) (YItm P w outer H s Z a g xs) xs.length s2 c ((model P w).den c) [] s2
structure YDef (P : Program) (w : World) (K : PySem.W.Frag) (mg : Str → Option Value) (base : Heap) (k : Nat) (f : Addr) (fd : FuncData) (ps : List Str) (sp : SpY) : Prop where
  len : ∀ vs H xs Q E, sp vs H xs Q E → vs.length = ps.length
  run : ∀ (A : Around) (outer : List Env) (s : Shared) (H : Hp) (args : Args) (us : List Value) (vs xs : List V) (Q : Hp → Prop) (E : XK), Room k A → Env0 P w K mg base A outer s H → BindsTo s fd args (ps.zip us) → Vals vs us → sp vs H xs Q E →
    codeAny (model P w) A (.call (.ref f) args) (fun r s' => match r with | .ok (.ret u) => YMade P w k outer H s xs Q E u s' | _ => False) s
/-- the rule: such a def, by its body -/
theorem FunD.okY {P : Program} {w : World} {K : PySem.W.Frag} {mg : Str → Option Value} {base : Heap} {k : Nat} {f : Addr} {fd : FuncData} {x qual : Str} {params : Arguments} {body : List Stmt} {scope : Scope} {dvs : List V} {kws : List (Str × V)} {N ps : List Str} {sp : SpY}
    (F : FunD K x qual params body scope dvs kws f fd) (S : GScope N ps scope) (len : ∀ vs H xs Q E, sp vs H xs Q E → vs.length = ps.length)
    (hbody : ∀ (cdv : Value) (A : Around) (outer : List Env) (s : Shared) (H : Hp) (vs xs : List V) (Q : Hp → Prop) (E : XK) (pn : List (Addr × Obj)), Room k (A.deeper (envOfC qual scope s.heap.objs.size f cdv)) → sp vs H xs Q E →
      ∃ t, YSs (gcxOf P w K mg base N qual scope f cdv A outer s H E pn) xs body t ∧ t { nx := fun j _ H' => j = xs.length ∧ Q H', rt := fun j v H' => v = .non ∧ j = xs.length ∧ Q H' } 0 (start N vs) H) : YDef P w K mg base (k + 1) f fd ps sp := by
  obtain ⟨oc, od, dV, kV, doc, pm, an, cdv, ct, osl, rfl, lk, hcd, _, _⟩ := F.ex
  refine ⟨len, fun A outer s H args us vs xs Q E hr e0 hb r hsp => ?_⟩
  have hl := len _ _ _ _ _ hsp
  have kin : K.In s.heap := e0.mod.kin.keeps fun b o e => (e0.bs b o e).1
  have lim : s.heap.NoLimit := e0.mod.nolimit.keeps fun b o e => (e0.bs b o e).1
  have par : ∀ y ∈ ps.zip us, scope.names.lookup y.1 = some .local ∨ (scope.names.lookup y.1 = some .cell ∧ ((cellsFrom (s.heap.objs.size + 1) scope.names []).lookup y.1).isSome = true) := by
    intro y hy
    obtain ⟨n, v⟩ := y
    exact (S.par n (List.of_mem_zip hy).1).imp id fun q => ⟨q, PySem.W.cellsFrom_some _ _ _ (.inl q)⟩
  refine codeAny_call_generator hr.depth (kin _ _ lk) rfl S.co S.gen rfl (PySem.W.codeRec_of kin hcd) (hb _ _ _ _ (wpAny_newFunctionEnv_cells S.kind par fun env he s1 x => ?_))
  subst he
  have lim1 : s1.heap.NoLimit := lim.keeps x.toInCall.keep
  refine ⟨lim1, ?_⟩
  obtain ⟨h1, tk, es1, hk1⟩ := x.done
  have os1 : s1.os = s.os := by rw [es1]
  have gen1 : s1.gens = s.gens := by rw [es1]
  have kp1 : ∀ b o, s.heap.get? b = some o → s1.heap.get? b = some o := x.toInCall.keep
  have lt1 : s.heap.objs.size < s1.heap.objs.size := x.toInCall.ns.lt
  have made : ∀ (go : Obj) (nm qn : Value) (tk2 : Nat), go.cls = .type "generator" → go.data = .fields #[.int s1.gens.size 0, nm, qn] → go.slots = #[] → (∀ h : Heap, (h.push go).get? h.objs.size = some go) →
      YMade P w (k + 1) outer H s xs Q E (.ref s1.heap.objs.size) { s1 with gens := s1.gens.push (.fresh (.func body (envOfC qual scope s.heap.objs.size f cdv))), toks := tk2, heap := s1.heap.push go } := by
    intro go nm qn tk2 gc gd gsl gp
    have isG : ∀ h : Heap, h.get? s1.heap.objs.size = some go → h.IsGen s1.heap.objs.size s1.gens.size := fun h e => ⟨go, nm, qn, e, gc, gd, gsl⟩
    refine ⟨s1.heap.objs.size, s1.gens.size, _, rfl, Nat.le_of_lt lt1, ?_, isG _ (gp _), Array.getElem?_push_size .., os1, ?_, lim1.keeps fun b o e => Heap.get?_push_of_some _ e, fun b o e => Heap.get?_push_of_some _ (kp1 b o e), ?_⟩
    · show _ < (s1.heap.push _).objs.size
      rw [Heap.size_push]
      exact Nat.lt_succ_self _
    · exact AllBare.push (by rw [gen1]; exact e0.bare) rfl
    intro B Z s2 hrB hfB hZ k2 os2 bare2
    have e0B : Env0 P w K mg base B outer s H := ⟨hfB, e0.mod, e0.bs, e0.bsz, e0.funs, e0.frf, e0.hok, e0.bare⟩
    obtain ⟨t, ht, hq⟩ := hbody cdv B outer s H vs xs Q E [(s1.heap.objs.size, go)] (hrB.deeper _) hsp
    have I1 : Inv (gcxOf P w K mg base N qual scope f cdv B outer s H E []) [] (start N vs) H s1 := inv_startG S hrB.hd e0B hl r x
    have kp2 : ∀ b o, s1.heap.get? b = some o → s2.heap.get? b = some o := fun b o e => k2 b o (Heap.get?_push_of_some _ e)
    have I2 : Inv (gcxOf P w K mg base N qual scope f cdv B outer s H E []) [] (start N vs) H s2 :=
      I1.call' (ch := []) (os2.trans os1.symm) (Un.kept kp2) (I1.hok.kept kp2) bare2 fun b z => by simp at z
    have zlt : ∀ z ∈ Z, s1.heap.objs.size < z := fun z hz => by
      have q : (s1.heap.push go).objs.size ≤ z := (hZ z hz).1
      rw [Heap.size_push] at q
      exact q
    have ea : s2.heap.get? s1.heap.objs.size = some go := k2 _ _ (gp s1.heap)
    -- what is younger than the frame
    have young : ∀ b, s1.heap.objs.size ≤ b → H b = none ∧ b ≠ s.heap.objs.size ∧ b ∉ frs outer ∧ s.heap.objs.size ≤ b ∧ ∀ y c, (cellsFrom (s.heap.objs.size + 1) scope.names []).lookup y = some c → c ≠ b := by
      intro b hb
      refine ⟨I1.hok.fresh hb, Nat.ne_of_gt (Nat.lt_of_lt_of_le lt1 hb), I1.nofs hb, Nat.le_trans (Nat.le_of_lt lt1) hb, fun y c e z => ?_⟩
      obtain ⟨v, ob, ho, _⟩ := I1.cell y c e
      have q := Heap.lt_size ho
      rw [z] at q
      exact absurd (Nat.lt_of_lt_of_le q hb) (Nat.lt_irrefl _)
    have hA : Aside (gcxOf P w K mg base N qual scope f cdv B outer s H E [(s1.heap.objs.size, go)]) Z := fun z hz => by
      obtain ⟨_, y2, _, y4, y5⟩ := young z (Nat.le_of_lt (zlt z hz))
      refine ⟨y4, y2, y5, fun p hp => ?_⟩
      rw [List.mem_singleton.mp hp]
      exact Nat.ne_of_lt (zlt z hz)
    obtain ⟨zp, f1, f2⟩ := snap (h := s2.heap) (Z := Z) fun z hz => (hZ z hz).2
    have r0 : YRun (gcxOf P w K mg base N qual scope f cdv B outer s H E [(s1.heap.objs.size, go)]) Z [] (start N vs) H s2 s2 := by
      refine ⟨zp, f1, fun p hp => (f2 p hp).1, Inv.pinnedG I2 fun p hp => ?_⟩
      rcases List.mem_append.mp hp with z | z
      · rw [List.mem_singleton.mp z]
        obtain ⟨y1, y2, y3, _, _⟩ := young s1.heap.objs.size (Nat.le_refl _)
        exact ⟨ea, y1, y2, y3, fun v q => by rw [gd] at q; cases q⟩
      · rw [List.append_nil] at z
        have hz : p.1 ∈ Z := by
          rw [← f1]
          exact List.mem_map.mpr ⟨p, z, rfl⟩
        obtain ⟨y1, y2, y3, _, _⟩ := young p.1 (Nat.le_of_lt (zlt _ hz))
        exact ⟨(f2 p z).1, y1, y2, y3, (f2 p z).2⟩
    have isG2 : ∀ {ip : List (Addr × Obj)} {s₀ s' : Shared} {σ' : L2.St} {H' : Hp}, YRun (gcxOf P w K mg base N qual scope f cdv B outer s H E [(s1.heap.objs.size, go)]) Z ip σ' H' s₀ s' → s'.heap.IsGen s1.heap.objs.size s1.gens.size := fun {ip s₀ s' σ' H'} rr =>
      isG _ (rr.inv.pin (s1.heap.objs.size, go) (List.mem_append_left _ (List.mem_singleton.mpr rfl))).1
    have still : ∀ {ip : List (Addr × Obj)} {s₀ s' : Shared} {σ' : L2.St} {H' : Hp}, YRun (gcxOf P w K mg base N qual scope f cdv B outer s H E [(s1.heap.objs.size, go)]) Z ip σ' H' s₀ s' → Still Z H' s₀ s' := fun {ip s₀ s' σ' H'} rr z hz => ⟨(rr.at hz).1, (rr.at hz).2.2⟩
    refine seg_func (seg_imp (R := YR (gcxOf P w K mg base N qual scope f cdv B outer s H E [(s1.heap.objs.size, go)]) Z xs (fun v H' => v = .non ∧ Q H') fun e s' => CX P w outer H s E e s' ∧ ∀ p ∈ [(s1.heap.objs.size, go)], s'.heap.get? p.1 = some p.2)
      (Y := YP (gcxOf P w K mg base N qual scope f cdv B outer s H E [(s1.heap.objs.size, go)]) Z xs) (fun n s₀ r' s' hR => ?_) (fun n s₀ v s' kap kap' hkk hY => ?_) xs.length ?_)
    · cases r' with
      | error e =>
        obtain ⟨q1, q2⟩ := hR
        exact .inr ⟨e, rfl, q1, isG _ (q2 (s1.heap.objs.size, go) (List.mem_singleton.mpr rfl))⟩
      | ok fl =>
        cases fl with
        | next => exact False.elim hR
        | brk => exact False.elim hR
        | cont => exact False.elim hR
        | ret u =>
          obtain ⟨v, ip, σ', H', hn, rr, rv, ev, hQ⟩ := hR
          subst ev
          have eu : u = Value.none := rv
          subst eu
          have J := rr.inv
          exact .inl ⟨.inl rfl, H', hn, J.os, J.bare, J.base, J.hok, still rr, hQ⟩
    · obtain ⟨j, y, ip, σ', H', hn, hx, rv, rr, h3⟩ := hY
      have J := rr.inv
      exact ⟨j, y, H', hn, hx, rv, J.os, J.bare, J.nolimit, isG2 rr, J.base, J.hok, still rr, fun s3 z => hkk _ _ (h3 s3 z)⟩
    · refine ht.run B Z [] _ xs.length 0 s2 _ [] _ _ id id s2 (start N vs) H _ ⟨fun p hp => by simp at hp, hA, over_func, rfl, rfl, rfl⟩ (Nat.add_zero _) ⟨fun n j s₀ s' fl hn hs => ?_, fun n s₀ e s' hx => ?_⟩ r0 hq
      · cases fl with
        | next =>
          obtain ⟨σ', H', rr, hj, hQ⟩ := hs
          have hn0 : n = 0 := by omega
          exact seg_end (.ok (.ret .none)) ⟨.non, [], σ', H', hn0, rr, rfl, rfl, hQ⟩
        | brk => obtain ⟨_, _, _, q⟩ := hs; exact False.elim q
        | cont => obtain ⟨_, _, _, q⟩ := hs; exact False.elim q
        | ret u =>
          obtain ⟨v, σ', H', rr, rv, ev, hj, hQ⟩ := hs
          have hn0 : n = 0 := by omega
          exact seg_end (.ok (.ret u)) ⟨v, [], σ', H', hn0, rr, rv, ev, hQ⟩
      · refine seg_wrap ?_
        rw [over_func]
        exact wpAny_mono (show wpAny (model P w) (B.deeper (envOfC qual scope s.heap.objs.size f cdv)) (leaving (envOfC qual scope s.heap.objs.size f cdv) e) (fun _ s3 => CX P w outer H s E e s3 ∧ ∀ p ∈ [(s1.heap.objs.size, go)], s3.heap.get? p.1 = some p.2) (fun _ _ => False) s' from hx) (fun _ s3 q => seg_end (.error e) q) fun _ s3 q => q.elim
  exact made _ _ _ _ rfl rfl rfl fun h => Heap.get?_push_size _ rfl
/-- an expression whose value is a generator that has not begun -/
abbrev TYg := L2.St → Hp → List V → (Hp → Prop) → Prop
structure PY (X : Cx) (k : Nat) (e : Expr) (tg : TYg) (E : XK) : Prop where
  run : ∀ (pins : List (Addr × Obj)) (s : Shared) (σ : L2.St) (H : Hp) (xs : List V) (Q : Hp → Prop), Inv X pins σ H s → tg σ H xs Q → wpAny (model X.prog X.w) X.A (eval e X.env)
    (fun u s' => ∃ H1 sc, Inv X pins σ H1 sc ∧ YMade X.prog X.w k X.stack H1 sc xs Q E u s') X.xe s
end L2

set_option Elab.async false
set_option linter.all false
set_option maxRecDepth 100000
set_option maxHeartbeats 1000000
/-! VxQ: [x for x in g()], g a generator of the program. -/
namespace L2
open PySem PySem.Spec PyProof.Rows GenW
theorem no_cx {P : Program} {w : World} {outer : List Env} {H : Hp} {s : Shared} {e : Value} {s1 : Shared} (h : CX P w outer H s E0 e s1) : False := by
  obtain ⟨_, _, _, _, _, _, _, _, _, _, _, _, z⟩ := h
  exact z
section
variable {X : Cx} {e : Expr} {x : Str} {px pe pos : Pos} {scope : Scope} {k : Nat} {tg : TYg}
theorem pe_lcY (h : PY X k e tg E0) (hr : Room (k + 1) X.A) (hk : scope.kind = .function) (hu : ∀ y ∈ scope.names, scope.names.lookup y.1 = some y.2) (hf : ∀ y ∈ scope.names, y.2 ≠ .free) (hx : scope.names.lookup x = some .local)
    (hs : ∀ v, foldedSetIterable e X.env v = pure v := by intro _; rfl) (hd : (x == ("__debug__" : Str)) = false := by decide) :
    PE X (.ListComp (.Name x pe) [⟨.Name x px, e, [], 0⟩] scope pos) (fun σ H Q => ∃ xs : List V, xs.length ≤ sizeLine ∧ tg σ H xs fun H2 => ∀ p, H2 p = none → Q (.ref p) (upd H2 p (.lst xs))) := by
  refine ⟨fun pins s σ H Q I hq => ?_⟩
  obtain ⟨xs, hxs, hq⟩ := hq
  rw [eval_ListComp]
  refine wpAny_comprehension_free (use := none) rfl hs (closure_ok fun y hy q => absurd q (hf y hy)) hk (fun y hy q => by rw [hu y hy, q]) (thn (h.run pins s σ H xs _ I hq) fun u s1 hg => ?_)
  obtain ⟨H1, sc, I1, a, g, c, rfl, a1, a2, isG, hgs, os1, bare1, lim1, kp1, wake⟩ := hg
  refine wpAny_pyIter_gen isG (wpAny_newObj_type (newEnv_comp ?_) (by show 0 ≤ sizeLine; decide))
  -- the list, the names
  generalize hD : s1.heap.objs.size = D
  generalize hs3 : ({ s1 with heap := s1.heap.push { cls := .type "list", data := .seq ([] : List Value).toArray } } : Shared) = s3
  have h3 : s3.heap = s1.heap.push { cls := .type "list", data := .seq ([] : List Value).toArray } := by rw [← hs3]
  generalize hC : s3.heap.objs.size = C
  have hCD : C = D + 1 := by rw [← hC, h3, Heap.size_push, hD]
  show codeAny _ _ (.compStart (.ListComp (.Name x pe) [⟨.Name x px, e, [], 0⟩] scope pos) 0 (.ref a) (.ref D) (compEnvC scope (cellsFrom (C + 1) scope.names (cloFrom X.env.cells scope.names [])) C X.env)) (compPost (model X.prog X.w) X.A X.xe none (EP X pins σ Q) (.ref D) C) { s3 with heap := pushCells (s3.heap.push { cls := .type "dict", data := .dict #[] }) scope.names }
  generalize hce : compEnvC scope (cellsFrom (C + 1) scope.names (cloFrom X.env.cells scope.names [])) C X.env = ce
  have cL : ce.locals = C := by subst hce; rfl
  have cK : ce.scope.kind = .function := by subst hce; exact hk
  have cX : ce.kindOf x = some .local := by
    subst hce
    exact lookup_relabel_local hx
  have cP : (ce.scope.kind == .class || (ce.scope.kind == .module && ce.locals != ce.globals)) = false := by
    rw [cK]
    rfl
  generalize hs4 : ({ s3 with heap := pushCells (s3.heap.push { cls := .type "dict", data := .dict #[] }) scope.names } : Shared) = s4
  have h4 : s4.heap = pushCells (s3.heap.push { cls := .type "dict", data := .dict #[] }) scope.names := by rw [← hs4]
  have k13 : ∀ b o, s1.heap.get? b = some o → s3.heap.get? b = some o := fun b o q => by rw [h3]; exact Heap.get?_push_of_some _ q
  have k34 : ∀ b o, s3.heap.get? b = some o → s4.heap.get? b = some o := fun b o q => by rw [h4]; exact pushCells_keeps _ _ _ _ (Heap.get?_push_of_some _ q)
  have k14 : ∀ b o, s1.heap.get? b = some o → s4.heap.get? b = some o := fun b o q => k34 b o (k13 b o q)
  have os4 : s4.os = sc.os := by rw [← hs4, ← hs3]; exact os1
  have gens4 : s4.gens = s1.gens := by rw [← hs4, ← hs3]
  have eD : s4.heap.get? D = some (lstObj #[] 0) := k34 D _ (by rw [h3, ← hD]; exact Heap.get?_push_size _ rfl)
  have eC : s4.heap.Ns C fun _ => none := by
    rw [h4, ← hC]
    exact (Heap.Ns.new s3.heap (.type "dict")).keeps (pushCells_keeps _ _)
  have aD : a ≠ D := fun z => by
    rw [← hD] at z
    exact Nat.lt_irrefl _ (z ▸ a2)
  have aC : a ≠ C := fun z => by
    rw [hCD, ← hD] at z
    exact Nat.lt_irrefl _ (Nat.lt_of_lt_of_le (z ▸ a2) (Nat.le_succ _))
  have DC : D ≠ C := fun z => by
    rw [hCD] at z
    exact Nat.lt_irrefl D (by
      have q : D < D + 1 := Nat.lt_succ_self D
      rw [← z] at q
      exact q)
  have scD : sc.heap.objs.size ≤ D := by
    rw [← hD]
    exact Nat.le_trans a1 (Nat.le_of_lt a2)
  have scC : sc.heap.objs.size ≤ C := Nat.le_trans scD (by rw [hCD]; exact Nat.le_succ D)
  have sD : cStatics ≠ D := fun z => by
    obtain ⟨mc, hn, _⟩ := lim1
    have q := hn.lt
    rw [z, ← hD] at q
    exact Nat.lt_irrefl _ q
  have sC : cStatics ≠ C := fun z => by
    obtain ⟨mc, hn, _⟩ := lim1
    have q := hn.lt
    rw [z, hCD, ← hD] at q
    exact Nat.lt_irrefl _ (Nat.lt_of_lt_of_le q (Nat.le_succ _))
  -- the state between two items
  have loop : codeAny (model X.prog X.w) X.A (.compLoop (.ListComp (.Name x pe) [⟨.Name x px, e, [], 0⟩] scope pos) 0 (.ref a) (.ref D) ce) (compPost (model X.prog X.w) X.A X.xe none (EP X pins σ Q) (.ref D) C) s4 := by
    refine compLoop_any (fun n s5 => ∃ (j : Nat) (gs : GenState) (acc : Array Value) (cc : Nat) (m : Str → Option Value), n + j = xs.length ∧ s5.gens[g]? = some gs ∧
      gs.Goes (model X.prog X.w) X.A.in1 (YEnd X.prog X.w X.stack H1 sc [D, C] a g (fun H2 => ∀ p, H2 p = none → Q (.ref p) (upd H2 p (.lst xs))) E0) (YItm X.prog X.w X.stack H1 sc [D, C] a g xs) n (.send .none) (s5.setGen g .running) ∧
      s5.heap.get? D = some (lstObj acc cc) ∧ Vals (xs.take j) acc.toList ∧ s5.heap.Ns C m ∧ s5.heap.IsGen a g ∧ s5.heap.NoLimit ∧ s5.os = sc.os ∧ AllBare s5.gens) ?_ xs.length ?_
    · rintro n s5 ⟨j, gs, acc, cc, m, hn, hg5, go5, d5, v5, c5, i5, l5, o5, b5⟩
      have gl : g < s5.gens.size := (Array.getElem?_eq_some_iff.mp hg5).1
      refine wpAny_gsz (n := g + 1) gl (next_genG (A := X.A) hr.hd l5 hr.depth i5 hg5 (F := fun n s₀ s1 => ∃ H', n = 0 ∧ s1.os = sc.os ∧ AllBare s1.gens ∧ Un (frs X.stack) [] H1 H' sc.heap s1.heap ∧ HOk X.prog X.w H' s1.heap ∧ Still [D, C] H' s₀ s1 ∧ ∀ p, H' p = none → Q (.ref p) (upd H' p (.lst xs)))
        (Er := fun e s1 => CX X.prog X.w X.stack H1 sc E0 e s1 ∧ s1.heap.IsGen a g) go5 (fun v s6 gs' bare6 hv => ?_) (fun s6 hp h' hk => ?_) fun er s6 he => (no_cx he.1).elim)
      · -- an item
        intro hsz
        obtain ⟨j', y, H', hn', hy, rv, o6, b6, l6, i6, un6, hok6, st6, kap⟩ := hv
        obtain ⟨q1, oD, q2, q3⟩ := st6 D List.mem_cons_self
        obtain ⟨z1, oC, z2, z3⟩ := st6 C (List.mem_cons_of_mem _ List.mem_cons_self)
        have d6 : s6.heap.get? D = some (lstObj acc cc) := by
          rw [q3, ← q2]
          exact d5
        have c6 : s6.heap.Ns C m := c5.at' fun o eo => by
          have w : some oC = some o := z2.symm.trans eo
          rw [z3, w]
        obtain ⟨og, nm, qn, g1, g2, g3, g4⟩ := id i6
        refine go_of (s := s6.setGen g gs') g1 g2 g3 (by decide) ?_
        refine wpAny_assign_Name (wpAny_storeName_local (s := s6.setGen g gs') cX (by rw [cL]; exact c6) (fun h7 n7 sb7 => ?_) cP)
        rw [cL] at n7 sb7
        refine wpAny_tests_nil ?_
        rw [if_pos rfl]
        refine wpAny_Name (wpAny_loadName_local cK cX (v := v) (by rw [cL]; exact n7) (by simp) ?_) hd
        have d7 : h7.get? D = some (lstObj acc cc) := (sb7.2 D DC).trans d6
        have sz : acc.size = j := by
          have q := v5.length
          rw [List.length_take] at q
          have q2 : acc.toList.length = acc.size := by simp
          omega
        refine append_at d7 (fun h8 sb8 d8 => ?_) (by rw [sz]; omega)
        have k68 : ∀ b o, b ≠ D → b ≠ C → s6.heap.get? b = some o → h8.get? b = some o := fun b o n1 n2 q => (sb8.2 b n1).trans ((sb7.2 b n2).trans q)
        have c8 : h8.Ns C _ := n7.at' fun o q => (sb8.2 C (Ne.symm DC)).trans q
        have g6 : g < s6.gens.size := by
          have q : (s6.setGen g gs').gens.size = s6.gens.size := setGen_size _ _ _
          have q2 : g + 1 ≤ (s6.setGen g gs').gens.size := hsz
          omega
        have b8 : AllBare (s6.setGen g gs').gens := allBare_setGen b6 bare6
        obtain ⟨mc, ln, lx⟩ := l6
        have zz : Zzz [D, C] s6 (({ s6.setGen g gs' with toks := (s6.setGen g gs').toks + 1, heap := h8 } : Shared).setGen g .running) := by
          refine ⟨rfl, allBare_setGen (s := { s6.setGen g gs' with toks := (s6.setGen g gs').toks + 1, heap := h8 }) b8 rfl, fun b o hb q => ?_, fun z hz => ?_⟩
          · exact k68 b o (fun w => hb (by rw [w]; exact List.mem_cons_self)) (fun w => hb (by rw [w]; exact List.mem_cons_of_mem _ List.mem_cons_self)) q
          · rcases List.mem_cons.mp hz with w | w
            · rw [w]
              exact ⟨_, d8, fun v w => by cases w⟩
            · rw [List.mem_singleton.mp w]
              obtain ⟨o, es, ep, w1, w2, _⟩ := id c8
              exact ⟨o, w1, fun v w => by rw [w2] at w; cases w⟩
        have go8 := kap _ zz
        cases n with
        | zero => exact go8.elim
        | succ n =>
          have jj : j' = j := by omega
          subst jj
          refine ⟨n, Nat.lt_succ_self n, j' + 1, gs', acc.push v, cc + 1, _, by omega, setGen_at g6, go8, d8, ?_, c8, ⟨og, nm, qn, k68 a og aD aC g1, g2, g3, g4⟩, ⟨mc, ln.at' fun o q => k68 _ o sD sC q, lx⟩, o6, b8⟩
          rw [Array.toList_push, List.take_add_one, hy]
          exact v5.append (.cons rv .nil)
      · -- the end
        intro _
        obtain ⟨H', hn0, o6, b6, un6, hok6, st6, qq⟩ := hp
        obtain ⟨q1, oD, q2, q3⟩ := st6 D List.mem_cons_self
        obtain ⟨z1, oC, z2, z3⟩ := st6 C (List.mem_cons_of_mem _ List.mem_cons_self)
        have d6 : s6.heap.get? D = some (lstObj acc cc) := by
          rw [q3, ← q2]
          exact d5
        have c6 : s6.heap.Ns C m := c5.at' fun o eo => by
          have w : some oC = some o := z2.symm.trans eo
          rw [z3, w]
        have v6 : Vals xs acc.toList := by
          have w := v5
          rw [List.take_of_length_le (by omega)] at w
          exact w
        have J : Inv X pins σ (upd H' D (.lst xs)) { s6.setGen g .finished with heap := h' } :=
          I1.drained scD hxs (hk _ _ d6) v6 .nil o6 (allBare_setGen (s := s6) b6 rfl) (un6.trans (Un.kept hk)) (hok6.kept hk) q1
        have nC : (upd H' D (.lst xs)) C = none := by
          rw [upd_ne (Ne.symm DC)]
          exact z1
        obtain ⟨f0, f1, f2, f3, f4, f5⟩ := I1.fpOk scC nC
        refine ⟨m, c6.keeps hk, fun h9 sb9 => ⟨.ref D, _, J.turned (t' := s6.toks) (fun b o hb q => (sb9.2 b hb).trans q) f0 f1 f3 f4 f5, rfl, qq D q1⟩⟩
    · refine ⟨0, .fresh c, #[], 0, _, Nat.add_zero _, ?_, ⟨rfl, ?_⟩, eD, .nil, eC, isG.keeps k14, lim1.keeps k14, os4, by rw [gens4]; exact bare1⟩
      · rw [gens4]
        exact hgs
      · refine wake X.A.in1 [D, C] (s4.setGen g .running) hr.in1 I1.ok.frames (fun z hz => ?_) k14 os4 (allBare_setGen (s := s4) (by rw [gens4]; exact bare1) rfl)
        rcases List.mem_cons.mp hz with w | w
        · rw [w]
          exact ⟨Nat.le_of_eq hD, _, eD, fun v w => by cases w⟩
        · rw [List.mem_singleton.mp w]
          obtain ⟨o, es, ep, w1, w2, _⟩ := id eC
          exact ⟨by rw [hCD, hD]; exact Nat.le_succ D, o, w1, fun v w => by rw [w2] at w; cases w⟩
  exact codeAny_compStart_list loop (wpAny_pyIter_gen (isG.keeps k14) loop)
end
end L2

set_option Elab.async false
set_option linter.all false
set_option maxRecDepth 100000
set_option maxHeartbeats 2000000
/-! VxP: a value's type and what isinstance says of it, for values that are data. -/
namespace L2
open PySem PySem.Spec PyProof.Rows
def tyN : PyData → String
  | .none => "NoneType"
  | .bool _ => "bool"
  | .int _ => "int"
  | .str _ => "str"
  | .list _ => "list"
  | .tuple _ => "tuple"
  | .dict _ => "dict"
theorem ty_lst {K : PySem.W.Frag} {H : Hp} {a : Addr} {xs : List V} (h : SqL K H a xs) : TyX K H (.ref a) (.type "list") := by
  rcases h with h | ⟨o, its, n, e, c, _⟩
  · rcases h with h | ⟨o, h⟩
    · exact .base (.lst h)
    · exact .base (.frz h)
  · exact .kList e c
theorem ty_tup {K : PySem.W.Frag} {H : Hp} {a : Addr} {xs : List V} (h : SqT K H a xs) : TyX K H (.ref a) (.type "tuple") := by
  rcases h with h | ⟨o, its, n, e, c, _⟩
  · rcases h with h | ⟨o, h⟩
    · exact .base (.tup h)
    · exact .fTuple h
  · exact .kTuple e c
theorem Sd.ty {K : PySem.W.Frag} {H : Hp} {v : V} {d : PyData} (h : Sd K H v d) : TyX K H v (.type (tyN d)) := by
  cases h with
  | non => exact .base .non
  | bl b => exact .base (.bl b)
  | int i => exact .base (.int i)
  | str x => exact .base (.str x)
  | lst h _ => exact ty_lst h
  | tup h _ => exact ty_tup h
  | emp h => exact .base (.dK h)
  | one h _ => exact .base (.dK h)
/-- isinstance's answer -/
def isD (d : PyData) (t : String) : Bool := tyN d == t || (t == "int" && tyN d == "bool")
def plainT (t : String) : Bool := ["int", "bool", "str", "tuple", "list", "dict"].contains t
theorem kit_data {K : PySem.W.Frag} (d : PyData) {t : String} (h : plainT t = true) : PySem.W.kitOne K (.type (tyN d)) (.type t) = some (isD d t) := by
  have e : t = "int" ∨ t = "bool" ∨ t = "str" ∨ t = "tuple" ∨ t = "list" ∨ t = "dict" := by
    unfold plainT at h
    simpa using h
  have key : kitB (tyN d) t = some (isD d t) := by
    rcases e with rfl | rfl | rfl | rfl | rfl | rfl <;> cases d <;> first | decide +kernel | rfl
  exact kit_ty key
section
variable {X : Cx}
/-- isinstance(v, T) of data -/
def rIsD (K : PySem.W.Frag) : List V → Hp → VK → Prop := fun xs H Q => ∃ (v : V) (d : PyData) (t : String), xs = [v, .ty t] ∧ plainT t = true ∧ Sd K H v d ∧ Q (.bl (isD d t)) H
theorem call_isD : CallR X (.builtin "isinstance") (rIsD X.K) := by
  intro pins s σ H xs us Q I r h
  obtain ⟨v, d, t, rfl, ht, hv, q⟩ := h
  exact call_isi pins s σ H _ us Q I r ⟨v, .ty t, _, .type t, _, rfl, .ty t, hv.ty, kit_data d ht, q⟩
end
end L2

set_option Elab.async false
set_option linter.all false
set_option maxRecDepth 100000
set_option maxHeartbeats 1000000
/-! VxI: == of objects of the program's classes without an own __eq__: the same object or not. -/
namespace VxS
open PySem PySem.W
section
variable {prog : Program} {w : World} {K : Frag} {A : Around} {E : Value → Shared → Prop} {s : Shared} {C D x y : Addr} {ox oy : Obj}
/-- what of the text a class must have -/
structure EqC (K : Frag) (C : Addr) : Prop where
  eq : findIn K (.ref C) "__eq__" = some (some (.builtin "object.__eq__"))
  top : mroIn K C (.type "object") = some true
theorem eq_check (X : K.In s.heap) (T : EqC K C) (hx : s.heap.get? x = some ox) (hc : ox.cls = .ref C) {b : Value} {Q : Unit → Shared → Prop} (q : Q () s) : wpAny (model prog w) A (checkBuiltinCall "object.__eq__" ⟨[.ref x, b], []⟩) Q E s := by
  simp only [checkBuiltinCall, F.cmpKind_eq, F.cmpSplit_eq]
  refine wpAny_bind ?_
  unfold isInstance
  refine wpAny_bind (wpAny_typeOf_ref hx ?_)
  rw [hc]
  refine (looks_mroIn X T.top).here ?_
  cases hsig : Manifest.signature? "object.__eq__" with
  | none => exact wpAny_pure q
  | some sig =>
    have ha := F.cmpArgs_eq (.ref x) b
    simp only [argsOk, hsig] at ha
    have h2 : Bind.checkArgs "object.__eq__" sig ⟨[.ref x, b], []⟩ = pure () := ha
    show wpAny _ A (Bind.checkArgs "object.__eq__" sig ⟨[.ref x, b], []⟩) Q E _
    rw [h2]
    exact wpAny_pure q
theorem F.objEq_other {M : Model} (hx : s.heap.get? x = some ox) (hy : s.heap.get? y = some oy) (hc : ox.cls = .ref C) (hxy : x ≠ y) {Q : Fin → Shared → Prop} (hq : Q (.done (.ret .notImplemented)) s) : wpAny M A (Builtin.«object.__eq__» ⟨[.ref x, .ref y], []⟩) Q E s :=
  objEq_entry_other hxy hx hy (by rw [hc]; exact fun z => nomatch z) hq
theorem eq_try (X : K.In s.heap) (T : EqC K C) (hx : s.heap.get? x = some ox) (hc : ox.cls = .ref C) (hy : s.heap.get? y = some oy) (hxy : x ≠ y) {Q : Option Value → Shared → Prop} (q : Q none s) : wpAny (model prog w) A (tryCompare (.ref x) "__eq__" (.ref y)) Q E s := by
  simp only [tryCompare, callSpecialIfBound?, bindSpecialIfBound?, specialOf]
  refine wpAny_bind (wpAny_holding (wpAny_bind (wpAny_bind (wpAny_bind (wpAny_typeOf_ref hx ?_)))))
  rw [hc]
  refine (looks_findIn X T.eq).here ?_
  have call_ : ∀ {Q : Value → Shared → Prop}, Q .notImplemented s → wpAny (model prog w) A (call (.builtin "object.__eq__") [.ref x, .ref y]) Q E s := fun {Q} q =>
    wpAny_call (codeAny_call_builtin F.cmp_object.eq.plain F.cmpEntry_eq (eq_check X T hx hc (F.objEq_other hx hy hc hxy q)))
  have bs : bindSpecial (.builtin "object.__eq__") (.ref x) = pure (.builtin "object.__eq__", [.ref x]) := F.cmp_object.eq.bind _
  dsimp only
  rw [bs]
  have fin : wpAny (model prog w) A (call (.builtin "object.__eq__") ([.ref x] ++ [.ref y]) >>= fun v => pure (some v)) (fun a s' => wpAny (model prog w) A (match a with
      | some Value.notImplemented => (pure none : Sem (Option Value))
      | none => pure none
      | some v => pure (some v)) Q E s') E s := wpAny_bind (call_ (wpAny_pure (wpAny_pure q)))
  refine wpAny_bind (wpAny_askSetting (wpAny_ite ?_))
  split
  · exact wpAny_bind (wpAny_pure (wpAny_pure fin))
  · exact wpAny_tryCatch (wpAny_bind (wpAny_pure (wpAny_pure fin)))
/-- x == y, two objects -/
theorem eq_other (hu : A.units < cLine) (X : K.In s.heap) (T : EqC K C) (U : EqC K D) {b : Bool} (sub : mroIn K D (.ref C) = some b) (hx : s.heap.get? x = some ox) (hc : ox.cls = .ref C) (hy : s.heap.get? y = some oy) (hd : oy.cls = .ref D) (hxy : x ≠ y) {Q : Value → Shared → Prop} (q : Q (.bool false) s) :
    wpAny (model prog w) A (compareOp .Eq (.ref x) (.ref y)) Q E s := by
  show wpAny _ _ (richCompare .Eq (.ref x) (.ref y)) _ _ _
  simp only [richCompare, cmpInfo_Eq, oneThing_ref]
  have nt : ox.cls ≠ .type "tuple" := by rw [hc]; exact fun z => nomatch z
  have t1 : ∀ {Q : Option Value → Shared → Prop}, Q none s → wpAny (model prog w) A (tryCompare (.ref x) "__eq__" (.ref y)) Q E s := fun {Q} q => eq_try X T hx hc hy hxy q
  have t2 : ∀ {Q : Option Value → Shared → Prop}, Q none s → wpAny (model prog w) A (tryCompare (.ref y) "__eq__" (.ref x)) Q E s := fun {Q} q => eq_try X U hy hd hx hxy.symm q
  have last : wpAny (model prog w) A (rule "compare.eq-identity" >>= fun _ => isSame (.ref x) (.ref y) >>= fun r => pure (Value.bool r)) Q E s := wpAny_bind (wpAny_rule (wpAny_bind (wpAny_isSame_ref_other hxy hx hy nt (wpAny_pure q))))
  refine wpAny_holding (wpAny_bind (wpAny_cRoomFor hu (wpAny_bind (wpAny_typeOf_ref hx ?_))))
  rw [hc]
  refine wpAny_bind (wpAny_typeOf_ref hy ?_)
  rw [hd]
  split
  · refine wpAny_bind ((looks_mroIn X sub).here ?_)
    cases b with
    | true => exact wpAny_bind (t2 (wpAny_bind (t1 last)))
    | false =>
      rw [if_neg Bool.false_ne_true]
      exact wpAny_bind (t1 (wpAny_bind (t2 last)))
  · refine wpAny_bind (wpAny_pure ?_)
    rw [if_neg Bool.false_ne_true]
    exact wpAny_bind (t1 (wpAny_bind (t2 last)))
theorem eq_same (hu : A.units < cLine) (X : K.In s.heap) (T : EqC K C) (hx : s.heap.get? x = some ox) (hc : ox.cls = .ref C) {Q : Value → Shared → Prop} (q : Q (.bool true) s) : wpAny (model prog w) A (compareOp .Eq (.ref x) (.ref x)) Q E s := by
  show wpAny _ _ (richCompare .Eq (.ref x) (.ref x)) _ _ _
  have call_ : ∀ {Q : Value → Shared → Prop}, Q (.bool true) s → wpAny (model prog w) A (call (.builtin "object.__eq__") [.ref x, .ref x]) Q E s := fun {Q} q =>
    wpAny_call (codeAny_call_builtin F.cmp_object.eq.plain F.cmpEntry_eq (eq_check X T hx hc (objEq_entry_same q)))
  have bs : bindSpecial (.builtin "object.__eq__") (.ref x) = pure (.builtin "object.__eq__", [.ref x]) := F.cmp_object.eq.bind _
  have t1 : wpAny (model prog w) A (tryCompare (.ref x) "__eq__" (.ref x)) (fun r s' => r = some (.bool true) ∧ s' = s) E s := by
    simp only [tryCompare, callSpecialIfBound?, bindSpecialIfBound?, specialOf]
    refine wpAny_bind (wpAny_holding (wpAny_bind (wpAny_bind (wpAny_bind (wpAny_typeOf_ref hx ?_)))))
    rw [hc]
    refine (looks_findIn X T.eq).here ?_
    dsimp only
    rw [bs]
    have fin : wpAny (model prog w) A (call (.builtin "object.__eq__") ([.ref x] ++ [.ref x]) >>= fun v => pure (some v)) (fun a s' => wpAny (model prog w) A (match a with
        | some Value.notImplemented => (pure none : Sem (Option Value))
        | none => pure none
        | some v => pure (some v)) (fun r s' => r = some (.bool true) ∧ s' = s) E s') E s := wpAny_bind (call_ (wpAny_pure (wpAny_pure ⟨rfl, rfl⟩)))
    refine wpAny_bind (wpAny_askSetting (wpAny_ite ?_))
    split
    · exact wpAny_bind (wpAny_pure (wpAny_pure fin))
    · exact wpAny_tryCatch (wpAny_bind (wpAny_pure (wpAny_pure fin)))
  simp only [richCompare, cmpInfo_Eq, oneThing_ref]
  refine wpAny_holding (wpAny_bind (wpAny_cRoomFor hu (wpAny_bind (wpAny_typeOf_ref hx ?_))))
  rw [hc]
  refine wpAny_bind (wpAny_typeOf_ref hx ?_)
  rw [hc, if_neg (by simp)]
  refine wpAny_bind (wpAny_pure (wpAny_bind (wpAny_mono t1 (fun r s' z => ?_) fun _ _ e => e)))
  obtain ⟨rfl, rfl⟩ := z
  exact wpAny_pure q
end
end VxS
namespace L2
open PySem PySem.Spec PyProof.Rows
/-- x == y, objects of the program's classes without __eq__ -/
def rEqO (K : PySem.W.Frag) : R2 := fun x y H Q => ∃ (a b C D da db : Addr) (fa fb : List (Str × V)) (r : Bool), x = .ref a ∧ y = .ref b ∧ H a = some (.ins C da fa) ∧ H b = some (.ins D db fb) ∧ VxS.EqC K C ∧ VxS.EqC K D ∧ PySem.W.mroIn K D (.ref C) = some r ∧ Q (.bl (decide (a = b))) H
theorem op_eqO {X : Cx} (hu : X.A.units < cLine) : OpR X (compareOp .Eq) (rEqO X.K) := by
  intro pins s σ H x y v u Q I rx ry h
  obtain ⟨a, b, C, D, da, db, fa, fb, r, rfl, rfl, ha, hb, T, U, sub, q⟩ := h
  cases rx
  cases ry
  obtain ⟨_, _, _, e1, _⟩ := I.hok a _ ha
  obtain ⟨_, _, _, e2, _⟩ := I.hok b _ hb
  by_cases z : a = b
  · subst z
    rw [decide_eq_true rfl] at q
    exact VxS.eq_same hu I.kIn T e1 rfl ⟨.bl true, H, I, rfl, q⟩
  · rw [decide_eq_false z] at q
    exact VxS.eq_other hu I.kIn T U sub e1 rfl e2 rfl z ⟨.bl false, H, I, rfl, q⟩
end L2

set_option Elab.async false
set_option linter.all false
set_option maxRecDepth 100000
set_option maxHeartbeats 1000000
/-! VxN: a generator method called; cls(*e), cls a local name of a class. -/
namespace L2
open PySem PySem.Spec PyProof.Rows StX
section
variable {X : Cx} {k i : Nat} {f C : Addr} {fd : FuncData} {ps : List Str} {sp : SpY} {x m : Str} {p pos apos : Pos} {o e : Expr} {ta te : TE} {E : XK}
/-- o.m() of a generator method -/
def tMethY (C : Addr) (m : Str) (sp : SpY) (E : XK) (ta : TE) : TYg := fun σ H xs Q => ta σ H fun y H1 => ∃ a dx fs, y = .ref a ∧ H1 a = some (.ins C dx fs) ∧ fs.lookup m = none ∧ sp [y] H1 xs Q E
theorem py_meth0 {pl : Sem Bool} (he : PE X o ta) (c : Cls X.K C) (hm : Meth X.K C m f) (F : YDef X.prog X.w X.K X.mg X.base k f fd ps sp) (hr : Room k X.A) (hb : Binds X.K fd ps [])
    (ht : eval (.Call (.Attribute o m apos) [] [] pos) X.env = (do
      let ov ← eval o X.env
      standAt apos.atName
      let (f, first) ← holding [ov] (getMethod ov m pl)
      callWith pos f first (backTo pos (starEach [] X.env)) (backToKw pos (keywordEach [] X.env))) := by rfl) :
    PY X k (.Call (.Attribute o m apos) [] [] pos) (tMethY C m sp E ta) E := by
  refine ⟨fun pins s σ H xs Q I h => PySem.W.methodCall_KW (pl := pl) (thn (he.run pins s σ H _ I h) fun u s1 hh => ?_) ht⟩
  obtain ⟨y, H1, I1, rx, a, dx, fs, rfl, ea, l, q⟩ := hh
  obtain rfl : u = Value.ref a := rx
  have hl : ([Value.ref a] ++ ([] : List Value)).length = ps.length := by
    have z := F.len _ _ _ _ _ q
    exact z
  refine getmeth_ok I1 ea c hm l (PySem.W.callWith_K0 (first := [.ref a]) I1.kIn hm.kp (wpAny_call (codeAny_mono (F.run X.A X.stack s1 H1 ⟨[.ref a], []⟩ [.ref a] [.ref a] xs Q E hr I1.env0 (hb s1 [.ref a] I1.kIn hl) (.cons rfl .nil) q) fun r s' hq => ?_)))
  cases r with
  | error e => exact False.elim hq
  | ok fl =>
    cases fl with
    | ret u => exact ⟨H1, s1, I1, hq⟩
    | next => exact False.elim hq
    | brk => exact False.elim hq
    | cont => exact False.elim hq
end
section
variable {X : Cx} {CX : CXT} {k i : Nat} {f C : Addr} {sp : Sp} {x : Str} {p spos pos : Pos} {e : Expr} {te : TE} {E : XK}
/-- cls(*e) -/
theorem pe_makeVS (M : Mk X.K C f) (F : FnR X.prog X.w X.K X.mg X.base CX k f sp) (hr : Room (k + 1) X.A) (hN : X.N[i]? = some x) (hv : Vis X.env.scope x) (hx : Passes CX X E) (he : PE X e te) (hd : (x == ("__debug__" : Str)) = false := by decide) (hcd : (x == ("__classdict__" : Str)) = false := by decide)
    (hst : starEach [.Starred e spos] X.env = [(true, eval e X.env)] := by rfl) :
    PE X (.Call (.Name x p) [.Starred e spos] [] pos) (fun σ H Q => σ[i]? = some (some (.ref C)) ∧ te σ H fun y H1 => ∃ a xs, y = V.ref a ∧ (SqT X.K H1 a xs ∨ SqL X.K H1 a xs) ∧
      ∀ n dx, H1 n = none → H1 dx = none → dx ≠ n → sp (V.ref n :: xs) (upd (upd H1 dx (.own n)) n (.ins C dx [])) (fun v H2 => v = .non ∧ Q (.ref n) H2) E) := by
  refine ⟨fun pins s σ H Q I h => ?_⟩
  obtain ⟨ec, h⟩ := h
  refine wpAny_Call_Name_kw (thn ((pe_var (pos := p) hN hv hd hcd).run pins s σ H (fun v H1 => v = .ref C ∧ H1 = H) I ⟨_, ec, rfl, rfl⟩) fun u s0 hh => ?_)
  obtain ⟨v, H0, I0, r0, rfl, rfl⟩ := hh
  obtain rfl : u = Value.ref C := r0
  refine PySem.W.callWith_S (h₀ := X.base) I.ok.mod.kin M.kp (thn (he.run pins s0 σ H0 _ I0 h) fun v s1 hh => ?_) hst
  obtain ⟨y, H1, I1, ry, a, xs, rfl, hxs, q⟩ := hh
  obtain rfl : v = Value.ref a := ry
  exact star_any I1 hxs fun us s2 I2 rv => ⟨I2.kIn, run_makeR M F hr hx I2 rv q⟩
end
end L2

set_option Elab.async false
set_option linter.all false
set_option maxRecDepth 100000
set_option maxHeartbeats 1000000
/-! VxM: ** of large ints, a text times an int, C() of a class whose __init__ has star parameters. -/
namespace L2
open PySem PySem.Spec PyProof.Rows StX ClX
theorem size_repA (a : Array Nat) : ∀ (n : Nat) (b : Array Nat), ((List.replicate n a).foldl (· ++ ·) b).size = b.size + n * a.size
  | 0, b => by simp
  | n + 1, b => by
    rw [List.replicate_succ, List.foldl_cons, size_repA a n, Array.size_append, Nat.add_mul]
    omega
theorem size_rep (a : Array Nat) (n : Nat) : ((List.replicate n a).foldl (· ++ ·) #[]).size = n * a.size := by
  rw [size_repA]
  simp
section
variable {X : Cx}
def CPowW (i j : Int) : Prop := 0 ≤ j ∧ (Builtin.Int.intBits i : Int) * j ≤ 2 ^ 27
theorem op_powW : OpR X (binaryOp .Pow) (rI CPowW fun i j => .int (i ^ j.toNat)) := opI fun _ _ _ _ _ _ _ hc q => pow_int hc.1 hc.2 q
/-- a text times an int of at least 2 -/
def rMulS : R2 := fun x y H Q => ∃ (z : Str) (k : Nat), x = .str z ∧ y = .int (k : Int) ∧ 2 ≤ k ∧ 0 < z.length ∧ z.length * k ≤ 1000000 ∧ Q (.str ⟨(List.replicate k z.cps).foldl (· ++ ·) #[]⟩) H
theorem op_mulS : OpR X (binaryOp .Mult) rMulS := by
  intro pins s σ H x y v u Q I rx ry h
  obtain ⟨z, k, rfl, rfl, h2, h0, hl, q⟩ := h
  obtain ⟨t, rfl⟩ := rx
  obtain ⟨t', rfl⟩ := ry
  have kb : (k : Int) ≤ 1000000 := by
    have : 1 * k ≤ z.length * k := Nat.mul_le_mul_right k h0
    omega
  refine PySem.P.mul_str ?_ (fun _ _ => ?_) (fun _ _ => ?_) ?_
  · rw [decide_eq_false (by omega), decide_eq_false (by omega)]
    rfl
  · have d : (z.length : Int) ≤ (2 ^ 63 - 1) / (k : Int) := by
      refine Int.le_ediv_of_mul_le (by omega) ?_
      have q2 : ((z.length * k : Nat) : Int) ≤ 1000000 := Int.ofNat_le.mpr hl
      rw [Int.natCast_mul] at q2
      omega
    omega
  · have e : (k : Int).toNat = k := rfl
    rw [e]
    exact decide_eq_false (by have q : (1000000 : Nat) ≤ sizeLine := by decide
                              omega)
  · rw [if_neg (by omega)]
    have e : ((k : Int) == 1 || z.length == 0) = false := by
      rw [Bool.or_eq_false_iff]
      exact ⟨beq_eq_false_iff_ne.mpr (by omega), beq_eq_false_iff_ne.mpr (by omega)⟩
    rw [e, if_neg Bool.false_ne_true]
    refine ⟨?_, .str _, H, I.tok _, ⟨_, rfl⟩, q⟩
    show Array.size _ ≤ sizeLine
    have e2 : ((k : Int).toNat) = k := rfl
    rw [e2, size_rep]
    have q3 : (1000000 : Nat) ≤ sizeLine := by decide
    have q4 : k * z.cps.size = z.length * k := Nat.mul_comm _ _
    omega
end
section
variable {X : Cx} {CX : CXT} {k : Nat} {f C p g : Addr} {fd : FuncData} {ps ks : List Str} {sp : Sp} {x m : Str} {np pos apos : Pos} {o : Expr} {kws : List Keyword} {ta : TE} {tk : TA} {E : XK} {mc : Value}
/-- C() -/
theorem pe_makeR0 (M : Mk X.K C f) (F : FnR X.prog X.w X.K X.mg X.base CX k f sp) (hr : Room (k + 1) X.A) (hg : Gl X x) (hm : X.mg x = some (.ref C)) (hx : Passes CX X E) (hdb : (x == ("__debug__" : Str)) = false := by decide) :
    PE X (.Call (.Name x np) [] [] pos) (fun _ H Q => ∀ n dx, H n = none → H dx = none → dx ≠ n → sp [V.ref n] (upd (upd H dx (.own n)) n (.ins C dx [])) (fun v H2 => v = .non ∧ Q (.ref n) H2) E) :=
  ⟨fun pins s σ H Q I h => wpAny_Call_Name_kw (ld_glob I hg hm (PySem.W.callWith_K0 (first := []) I.kIn M.kp (run_makeR (us := []) (vs := []) M F hr hx I .nil h)) hdb)⟩
/-- C.m(k = v, ..), m a classmethod -/
theorem pe_cmethK {pl : Sem Bool} {gv : List Value → List Value} {gV : List V → List V} (he : PE X o ta) (r : CRead X.K C mc) (c : CMet X.K C mc m p g) (F : FnOk X.prog X.w X.K X.mg X.base CX k g fd ps sp) (hr : Room k X.A) (hx : Passes CX X E)
    (hbd : ∀ (s : Shared) (ws : List Value), X.K.In s.heap → ws.length = ks.length → BindsTo s fd ⟨[Value.ref C], ks.zip ws⟩ (ps.zip (Value.ref C :: gv ws))) (rel : ∀ {zs : List V} {ws : List Value}, Vals zs ws → Vals (gV zs) (gv ws)) (hkw : PK X kws tk)
    (hall : (backToKw pos (keywordEach kws X.env)).all (·.1.isSome) = true := by rfl) (hks : (backToKw pos (keywordEach kws X.env)).filterMap (·.1) = ks := by rfl)
    (hpl : ((backTo pos (starEach [] X.env)).any (·.1) || (backToKw pos (keywordEach kws X.env)).any (·.1.isNone)) = false := by rfl)
    (ht : eval (.Call (.Attribute o m apos) [] kws pos) X.env = (do
      let ov ← eval o X.env
      standAt apos.atName
      let (f, first) ← holding [ov] (getMethod ov m pl)
      callWith pos f first (backTo pos (starEach [] X.env)) (backToKw pos (keywordEach kws X.env))) := by rfl) :
    PE X (.Call (.Attribute o m apos) [] kws pos) (fun σ H Q => ta σ H fun y H1 => y = .ref C ∧ tk σ H1 fun zs H2 => zs.length = ks.length ∧ sp (.ref C :: gV zs) H2 Q E) := by
  refine ⟨fun pins s σ H Q I h => PySem.W.methodCall_KW (pl := pl) (thn (he.run pins s σ H _ I h) fun u s1 hh => ?_) ht⟩
  obtain ⟨y, H1, I1, rx, rfl, q⟩ := hh
  obtain rfl : u = Value.ref C := rx
  refine getmethcm_ok I1 r c fun s2 I2 => ?_
  refine PySem.W.callWith_of hpl (PySem.W.keeps_M (K := X.K) (self := .ref C) c.fi) (evalArgs_kw2_nil hall (thn (hkw.run pos _ s2 σ H1 _ I2 q) fun ws s3 hh => ?_))
  obtain ⟨zs, H2, I3, rz, hl, q2⟩ := hh
  refine ⟨⟨pin_at I3, I3.kIn⟩, ?_⟩
  rw [hks]
  have z : wpAny (model X.prog X.w) X.A (call (.ref s1.heap.objs.size) ([] ++ []) (ks.zip ws)) (EP X ((s1.heap.objs.size, PySem.W.methodObj (.ref g) (.ref C)) :: pins) σ Q) X.xe s3 := by
    refine wpAny_call (PySem.W.method_call (pin_at I3) (codeAny_mono (F.run X.A X.stack s3 H2 ⟨[.ref C], ks.zip ws⟩ (.ref C :: gv ws) (.ref C :: gV zs) Q E hr I3.env0 (hbd s3 ws I3.kIn (by rw [← rz.length]; exact hl)) (.cons rfl (rel rz)) q2) fun rs s' hq => ?_))
    cases rs with
    | error er => exact hx _ σ H2 s3 er s' I3 hq
    | ok fl =>
      cases fl with
      | ret u => exact I3.after hq
      | next => exact hq.elim
      | brk => exact hq.elim
      | cont => exact hq.elim
  exact thn z fun _ _ y => unpinE y
end
end L2

set_option Elab.async false
set_option linter.all false
set_option maxRecDepth 100000
set_option maxHeartbeats 1000000
/-! VxJ: within a try whose clause looks at the slots: C(e, ..) and C.m(e, ..), what they let out told at the slots of the call. -/
namespace L2
open PySem PySem.Spec PyProof.Rows StX ClX
section
variable {X : Cx} {CX : CXT} {k : Nat} {f C p g : Addr} {mc : Value} {fd : FuncData} {ps : List Str} {sp : Sp} {dvs : List V} {ds : List Value} {E : St → XK} {x m : Str} {pp pos apos : Pos} {e o : Expr} {es : List Expr} {ta : TE} {t : TA}
theorem run_makeS {pins : List (Addr × Obj)} {σ : St} {H : Hp} {s : Shared} {Q : VK} {us : List Value} {vs : List V} {E : XK} (M : Mk X.K C f) (F : FnOk X.prog X.w X.K X.mg X.base CX k f fd ps sp) (hr : Room (k + 1) X.A) (hb : Binds X.K fd ps ds) (hd : Vals dvs ds)
    (hx : PassesAt CX X σ E) (I : Inv X pins σ H s) (r : Vals vs us)
    (h : ∀ x dx, H x = none → H dx = none → dx ≠ x → sp (.ref x :: (vs ++ dvs)) (upd (upd H dx (.own x)) x (.ins C dx [])) (fun v H2 => v = .non ∧ Q (.ref x) H2) E) :
    wpAny (model X.prog X.w) X.A (call (.ref C) us) (EP X pins σ Q) X.xe s := by
  have hq := h (s.heap.objs.size + 1) s.heap.objs.size (I.hok.fresh (Nat.le_succ _)) (I.hok.fresh (Nat.le_refl _)) (Nat.ne_of_lt (Nat.lt_succ_self _))
  have J := Inv.made (C := C) I
  have rr : Vals (V.ref (s.heap.objs.size + 1) :: (vs ++ dvs)) (Value.ref (s.heap.objs.size + 1) :: (us ++ ds)) := .cons rfl (r.append hd)
  have hl : (Value.ref (s.heap.objs.size + 1) :: us ++ ds).length = ps.length := by
    have z := rr.length
    rw [F.len _ _ _ _ hq] at z
    exact z.symm
  refine wpAny_call (make_map (f := f) I.kIn M.makes M.init (beq_iff_eq.mp M.fn) (codeAny_mono (F.run _ X.stack _ _ ⟨Value.ref (s.heap.objs.size + 1) :: us, []⟩ (Value.ref (s.heap.objs.size + 1) :: (us ++ ds)) _ _ E (hr.make C us [])
    (J.env0.make C us []) (hb _ (Value.ref (s.heap.objs.size + 1) :: us) J.kIn hl) rr hq) fun rs s' z => ?_))
  cases rs with
  | error er => exact hx pins _ _ er s' J z
  | ok fl =>
    cases fl with
    | ret u =>
      obtain ⟨v, H', J2, rv, ev, q⟩ := J.after z
      subst ev
      exact ⟨rv, ⟨V.ref (s.heap.objs.size + 1), H', J2, rfl, q⟩⟩
    | next => exact z.elim
    | brk => exact z.elim
    | cont => exact z.elim
/-- C(e, ..) -/
theorem pe_makeSg (M : Mk X.K C f) (F : FnOk X.prog X.w X.K X.mg X.base CX k f fd ps sp) (hr : Room (k + 1) X.A) (hg : Gl X x) (hm : X.mg x = some (.ref C)) (hb : Binds X.K fd ps ds) (hd : Vals dvs ds) (hx : ∀ σ, PassesAt CX X σ (E σ))
    (ha : PA X (e :: es) t) (hdb : (x == ("__debug__" : Str)) = false := by decide) (he : starEach (e :: es) X.env = (false, eval e X.env) :: starEach es X.env := by rfl) (hpl : (backTo pos (starEach es X.env)).any (·.1) = false := by rfl) :
    PE X (.Call (.Name x pp) (e :: es) [] pos) (fun σ H Q => tMake C sp dvs (E σ) t σ H Q) :=
  ⟨fun pins s σ H Q I h => wpAny_Call_Name_kw (ld_glob I hg hm (PySem.W.callWith_K (h₀ := X.base) I.ok.mod.kin M.kp (thn (ha.run pos pins s σ H _ I h) fun us s1 z => by
    obtain ⟨vs, H1, J, r, q⟩ := z
    exact ⟨J.kIn, run_makeS M F hr hb hd (hx σ) J r q⟩) he hpl) hdb)⟩
/-- C.m(e, ..), m a classmethod -/
theorem pe_cmethSg {pl : Sem Bool} (he : PE X o ta) (r : CRead X.K C mc) (c : CMet X.K C mc m p g) (F : FnOk X.prog X.w X.K X.mg X.base CX k g fd ps sp) (hr : Room k X.A) (hb : Binds X.K fd ps []) (hx : ∀ σ, PassesAt CX X σ (E σ)) (ha : PA X (e :: es) t)
    (hst : starEach (e :: es) X.env = (false, eval e X.env) :: starEach es X.env := by rfl) (hpl : (backTo pos (starEach es X.env)).any (·.1) = false := by rfl)
    (ht : eval (.Call (.Attribute o m apos) (e :: es) [] pos) X.env = (do
      let ov ← eval o X.env
      standAt apos.atName
      let (f, first) ← holding [ov] (getMethod ov m pl)
      callWith pos f first (backTo pos (starEach (e :: es) X.env)) (backToKw pos (keywordEach [] X.env))) := by rfl) :
    PE X (.Call (.Attribute o m apos) (e :: es) [] pos) (fun σ H Q => tCMeth C sp (E σ) ta t σ H Q) := by
  refine ⟨fun pins s σ H Q I h => PySem.W.methodCall_KW (pl := pl) (thn (he.run pins s σ H _ I h) fun u s1 hh => ?_) ht⟩
  obtain ⟨y, H1, I1, rx, rfl, q⟩ := hh
  obtain rfl : u = Value.ref C := rx
  refine getmethcm_ok I1 r c fun s2 I2 => ?_
  refine callwith_cm I2 (base_none I1 (Nat.le_refl _)) c.fi (thn (ha.run pos _ s2 σ H1 _ I2 q) fun us s3 hh => ?_) hst hpl
  obtain ⟨vs, H2, I3, rv, q2⟩ := hh
  refine ⟨⟨pin_at I3, I3.kIn⟩, ?_⟩
  have b := hb s3 (Value.ref C :: us) I3.kIn (by
    have l := F.len _ _ _ _ q2
    have l2 := rv.length
    rw [List.append_nil, List.length_cons, ← l2]
    exact l)
  rw [List.append_nil] at b
  have z : wpAny (model X.prog X.w) X.A (call (.ref s1.heap.objs.size) us) (EP X ((s1.heap.objs.size, PySem.W.methodObj (.ref g) (.ref C)) :: pins) σ Q) X.xe s3 := by
    refine wpAny_call (PySem.W.method_call (pin_at I3) (codeAny_mono (F.run X.A X.stack s3 H2 ⟨.ref C :: us, []⟩ (.ref C :: us) (.ref C :: vs) Q (E σ) hr I3.env0 b (.cons rfl rv) q2) fun rs s' hq => ?_))
    cases rs with
    | error er => exact hx σ _ H2 s3 er s' I3 hq
    | ok fl =>
      cases fl with
      | ret u => exact I3.after hq
      | next => exact hq.elim
      | brk => exact hq.elim
      | cont => exact hq.elim
  exact thn z fun _ _ y => unpinE y
end
end L2

set_option Elab.async false
set_option linter.all false
set_option maxRecDepth 100000
set_option maxHeartbeats 1000000
/-! VxL: a list of anything == [] and != []. -/
namespace L2
open PySem PySem.Spec PyProof.Rows
section
variable {X : Cx}
def rEqN (K : PySem.W.Frag) : R2 := fun x y H Q => ∃ (a b : Addr) (xs : List V), x = .ref a ∧ y = .ref b ∧ SqL K H a xs ∧ SqL K H b [] ∧ Q (.bl xs.isEmpty) H
theorem op_eqN (hu : X.A.units < cLine) : OpR X (compareOp .Eq) (rEqN X.K) := by
  intro pins s σ H x y v u Q I rx ry h
  obtain ⟨a, b, xs, rfl, rfl, ha, hb, q⟩ := h
  cases rx
  cases ry
  obtain ⟨us, r1, p1, _⟩ := I.list ha
  obtain ⟨ws, r2, p2, _⟩ := I.list hb
  cases r2
  by_cases z : xs = []
  · subst z
    cases r1
    refine SeqAt.eq_listAt (e := fun _ => true) p1.isList p2.isList rfl hu ?_ ?_
    · intro j h1
      simp at h1
    · exact ⟨.bl true, H, I, rfl, q⟩
  · refine SeqAt.eq_list_lengthsAt p1.isList p2.isList ?_ hu ?_
    · have e : us ≠ [] := fun w => z (by
        subst w
        cases r1
        rfl)
      cases us with
      | nil => exact absurd rfl e
      | cons _ _ => simp
    · cases xs with
      | nil => exact absurd rfl z
      | cons _ _ => exact ⟨.bl false, H, I, rfl, q⟩
def rNeN (K : PySem.W.Frag) : R2 := fun x y H Q => ∃ (a b : Addr) (xs : List V), x = .ref a ∧ y = .ref b ∧ SqL K H a xs ∧ SqL K H b [] ∧ Q (.bl !xs.isEmpty) H
theorem op_neN (hu : X.A.units < cLine) : OpR X (compareOp .NotEq) (rNeN X.K) := by
  intro pins s σ H x y v u Q I rx ry h
  obtain ⟨a, b, xs, rfl, rfl, ha, hb, q⟩ := h
  cases rx
  cases ry
  obtain ⟨us, r1, p1, _⟩ := I.list ha
  obtain ⟨ws, r2, p2, _⟩ := I.list hb
  cases r2
  by_cases z : xs = []
  · subst z
    cases r1
    refine SeqAt.RcNeAt.lists (e := fun _ => true) p1.isList p2.isList rfl hu ?_ X.prog X.w _ _ ?_
    · intro j h1
      simp at h1
    · exact ⟨.bl false, H, I, rfl, q⟩
  · refine SeqAt.RcNeAt.lists_lengths p1.isList p2.isList ?_ hu X.prog X.w _ _ ?_
    · have e : us ≠ [] := fun w => z (by
        subst w
        cases r1
        rfl)
      cases us with
      | nil => exact absurd rfl e
      | cons _ _ => simp
    · cases xs with
      | nil => exact absurd rfl z
      | cons _ _ => exact ⟨.bl true, H, I, rfl, q⟩
end
end L2

set_option Elab.async false
set_option linter.all false
set_option maxRecDepth 100000
set_option maxHeartbeats 2000000
/-! VxO: things: data, or objects of the program's own classes; isinstance of both. -/
namespace L2
open PySem PySem.Spec PyProof.Rows
/-- what of the text a node's class must have; CN: the class above all of them -/
structure NodC (K : PySem.W.Frag) (CN C : Addr) : Prop where
  cls : Cls K C
  ha : PySem.W.findIn K (.ref C) "__class__" = some (some (.builtin "object.__class__"))
  hn : PySem.W.specialIn K (.builtin "object.__class__") "__get__" = some (some (.builtin "getset_descriptor.__get__"))
  htk : PySem.W.takesIn K (.builtin "object.__class__") = some true
  eqc : VxS.EqC K C
  kit : ∀ t ∈ ["int", "bool", "str", "tuple", "list", "dict"], PySem.W.kitOne K (.ref C) (.type t) = some false
  kitN : PySem.W.kitOne K (.ref C) (.ref CN) = some true
  mro : PySem.W.mroIn K C (.ref C) = some true
/-- no datum is a node -/
def DatN (K : PySem.W.Frag) (CN : Addr) : Prop := ∀ t ∈ ["NoneType", "bool", "int", "str", "list", "tuple", "dict"], PySem.W.kitOne K (.type t) (.ref CN) = some false
inductive Tk where
  | dat (d : PyData)
  | nod (C : Addr)
def Tv (K : PySem.W.Frag) (CN : Addr) (H : Hp) (v : V) : Tk → Prop
  | .dat d => Sd K H v d
  | .nod C => NodC K CN C ∧ ∃ a dx fs, v = .ref a ∧ H a = some (.ins C dx fs)
def isTk : Tk → String → Bool
  | .dat d, t => isD d t
  | .nod _, _ => false
def isNod : Tk → Bool
  | .dat _ => false
  | .nod _ => true
theorem NodC.ty {K : PySem.W.Frag} {CN C a dx : Addr} {fs : List (Str × V)} {H : Hp} (n : NodC K CN C) (e : H a = some (.ins C dx fs)) : TyX K H (.ref a) (.ref C) := .base (.ins e n.cls n.ha n.hn n.htk n.eqc.top)
theorem plain_mem {t : String} (h : plainT t = true) : t ∈ ["int", "bool", "str", "tuple", "list", "dict"] := by
  unfold plainT at h
  simpa using h
theorem tyN_mem (d : PyData) : tyN d ∈ ["NoneType", "bool", "int", "str", "list", "tuple", "dict"] := by cases d <;> simp [tyN]
section
variable {X : Cx}
def rIsTk (K : PySem.W.Frag) (CN : Addr) : List V → Hp → VK → Prop := fun xs H Q => ∃ (v : V) (k : Tk) (t : String), xs = [v, .ty t] ∧ plainT t = true ∧ Tv K CN H v k ∧ Q (.bl (isTk k t)) H
theorem call_isTk {CN : Addr} : CallR X (.builtin "isinstance") (rIsTk X.K CN) := by
  intro pins s σ H xs us Q I r h
  obtain ⟨v, k, t, rfl, ht, hv, q⟩ := h
  cases k with
  | dat d => exact call_isD pins s σ H _ us Q I r ⟨v, d, t, rfl, ht, hv, q⟩
  | nod C =>
    obtain ⟨n, a, dx, fs, rfl, e⟩ := hv
    exact call_isi pins s σ H _ us Q I r ⟨.ref a, .ty t, _, .type t, _, rfl, .ty t, n.ty e, n.kit t (plain_mem ht), q⟩
def rIsN (K : PySem.W.Frag) (CN : Addr) : List V → Hp → VK → Prop := fun xs H Q => ∃ (v : V) (k : Tk), xs = [v, .ref CN] ∧ Tv K CN H v k ∧ Q (.bl (isNod k)) H
theorem call_isN {CN : Addr} (D : DatN X.K CN) : CallR X (.builtin "isinstance") (rIsN X.K CN) := by
  intro pins s σ H xs us Q I r h
  obtain ⟨v, k, rfl, hv, q⟩ := h
  cases k with
  | dat d => exact call_isi pins s σ H _ us Q I r ⟨v, .ref CN, _, .ref CN, _, rfl, .own CN, (show Sd X.K H v d from hv).ty, D _ (tyN_mem d), q⟩
  | nod C =>
    obtain ⟨n, a, dx, fs, rfl, e⟩ := hv
    exact call_isi pins s σ H _ us Q I r ⟨.ref a, .ref CN, _, .ref CN, _, rfl, .own CN, n.ty e, n.kitN, q⟩
/-- isinstance(v, tuple), v a sequence of anything or a datum -/
def rIsTup (K : PySem.W.Frag) : List V → Hp → VK → Prop := fun xs H Q => ∃ (v : V) (t : String) (b : Bool), xs = [v, .ty "tuple"] ∧ TyX K H v (.type t) ∧ b = (t == "tuple") ∧ t ∈ ["NoneType", "bool", "int", "str", "list", "tuple", "dict"] ∧ Q (.bl b) H
theorem call_isTup : CallR X (.builtin "isinstance") (rIsTup X.K) := by
  intro pins s σ H xs us Q I r h
  obtain ⟨v, t, b, rfl, ty, rfl, m, q⟩ := h
  refine call_isi pins s σ H _ us Q I r ⟨v, .ty "tuple", _, .type "tuple", _, rfl, .ty "tuple", ty, ?_, q⟩
  simp only [List.mem_cons, List.not_mem_nil, or_false] at m
  rcases m with rfl | rfl | rfl | rfl | rfl | rfl | rfl
  · exact kit_data .none rfl
  · exact kit_data (.bool true) rfl
  · exact kit_data (.int 0) rfl
  · exact kit_data (.str "") rfl
  · exact kit_data (.list []) rfl
  · exact kit_data (.tuple []) rfl
  · exact kit_data (.dict []) rfl
end
end L2

set_option Elab.async false
set_option linter.all false
set_option maxRecDepth 100000
set_option maxHeartbeats 1000000
/-! VxH: within a try whose clause looks at the slots: C.m(k = e, ..) and o.m(k = e, ..). -/
namespace L2
open PySem PySem.Spec PyProof.Rows StX ClX
section
variable {X : Cx} {CX : CXT} {k : Nat} {f C p g : Addr} {fd : FuncData} {ps ks : List Str} {sp : Sp} {x m : Str} {np pos apos : Pos} {o : Expr} {kws : List Keyword} {ta : TE} {tk : TA} {E : L2.St → XK} {mc : Value}
/-- C.m(k = v, ..), m a classmethod -/
theorem pe_cmethKSg {pl : Sem Bool} {gv : List Value → List Value} {gV : List V → List V} (he : PE X o ta) (r : CRead X.K C mc) (c : CMet X.K C mc m p g) (F : FnOk X.prog X.w X.K X.mg X.base CX k g fd ps sp) (hr : Room k X.A) (hx : ∀ σ, PassesAt CX X σ (E σ))
    (hbd : ∀ (s : Shared) (ws : List Value), X.K.In s.heap → ws.length = ks.length → BindsTo s fd ⟨[Value.ref C], ks.zip ws⟩ (ps.zip (Value.ref C :: gv ws))) (rel : ∀ {zs : List V} {ws : List Value}, Vals zs ws → Vals (gV zs) (gv ws)) (hkw : PK X kws tk)
    (hall : (backToKw pos (keywordEach kws X.env)).all (·.1.isSome) = true := by rfl) (hks : (backToKw pos (keywordEach kws X.env)).filterMap (·.1) = ks := by rfl)
    (hpl : ((backTo pos (starEach [] X.env)).any (·.1) || (backToKw pos (keywordEach kws X.env)).any (·.1.isNone)) = false := by rfl)
    (ht : eval (.Call (.Attribute o m apos) [] kws pos) X.env = (do
      let ov ← eval o X.env
      standAt apos.atName
      let (f, first) ← holding [ov] (getMethod ov m pl)
      callWith pos f first (backTo pos (starEach [] X.env)) (backToKw pos (keywordEach kws X.env))) := by rfl) :
    PE X (.Call (.Attribute o m apos) [] kws pos) (fun σ H Q => ta σ H fun y H1 => y = .ref C ∧ tk σ H1 fun zs H2 => zs.length = ks.length ∧ sp (.ref C :: gV zs) H2 Q (E σ)) := by
  refine ⟨fun pins s σ H Q I h => PySem.W.methodCall_KW (pl := pl) (thn (he.run pins s σ H _ I h) fun u s1 hh => ?_) ht⟩
  obtain ⟨y, H1, I1, rx, rfl, q⟩ := hh
  obtain rfl : u = Value.ref C := rx
  refine getmethcm_ok I1 r c fun s2 I2 => ?_
  refine PySem.W.callWith_of hpl (PySem.W.keeps_M (K := X.K) (self := .ref C) c.fi) (evalArgs_kw2_nil hall (thn (hkw.run pos _ s2 σ H1 _ I2 q) fun ws s3 hh => ?_))
  obtain ⟨zs, H2, I3, rz, hl, q2⟩ := hh
  refine ⟨⟨pin_at I3, I3.kIn⟩, ?_⟩
  rw [hks]
  have z : wpAny (model X.prog X.w) X.A (call (.ref s1.heap.objs.size) ([] ++ []) (ks.zip ws)) (EP X ((s1.heap.objs.size, PySem.W.methodObj (.ref g) (.ref C)) :: pins) σ Q) X.xe s3 := by
    refine wpAny_call (PySem.W.method_call (pin_at I3) (codeAny_mono (F.run X.A X.stack s3 H2 ⟨[.ref C], ks.zip ws⟩ (.ref C :: gv ws) (.ref C :: gV zs) Q (E σ) hr I3.env0 (hbd s3 ws I3.kIn (by rw [← rz.length]; exact hl)) (.cons rfl (rel rz)) q2) fun rs s' hq => ?_))
    cases rs with
    | error er => exact hx σ _ H2 s3 er s' I3 hq
    | ok fl =>
      cases fl with
      | ret u => exact I3.after hq
      | next => exact hq.elim
      | brk => exact hq.elim
      | cont => exact hq.elim
  exact thn z fun _ _ y => unpinE y
/-- o.m(k = v, ..) -/
theorem pe_methKSg {pl : Sem Bool} {gv : List Value → List Value} {gV : List V → List V} (he : PE X o ta) (c : Cls X.K C) (hm : Meth X.K C m f) (F : FnOk X.prog X.w X.K X.mg X.base CX k f fd ps sp) (hr : Room k X.A) (hx : ∀ σ, PassesAt CX X σ (E σ))
    (hbd : ∀ (s : Shared) (a : Addr) (ws : List Value), X.K.In s.heap → ws.length = ks.length → BindsTo s fd ⟨[Value.ref a], ks.zip ws⟩ (ps.zip (Value.ref a :: gv ws))) (rel : ∀ {zs : List V} {ws : List Value}, Vals zs ws → Vals (gV zs) (gv ws)) (hkw : PK X kws tk)
    (hall : (backToKw pos (keywordEach kws X.env)).all (·.1.isSome) = true := by rfl) (hks : (backToKw pos (keywordEach kws X.env)).filterMap (·.1) = ks := by rfl)
    (hpl : ((backTo pos (starEach [] X.env)).any (·.1) || (backToKw pos (keywordEach kws X.env)).any (·.1.isNone)) = false := by rfl)
    (ht : eval (.Call (.Attribute o m apos) [] kws pos) X.env = (do
      let ov ← eval o X.env
      standAt apos.atName
      let (f, first) ← holding [ov] (getMethod ov m pl)
      callWith pos f first (backTo pos (starEach [] X.env)) (backToKw pos (keywordEach kws X.env))) := by rfl) :
    PE X (.Call (.Attribute o m apos) [] kws pos) (fun σ H Q => ta σ H fun y H1 => ∃ a dx fs, y = .ref a ∧ H1 a = some (.ins C dx fs) ∧ fs.lookup m = none ∧ tk σ H1 fun zs H2 => zs.length = ks.length ∧ sp (.ref a :: gV zs) H2 Q (E σ)) := by
  refine ⟨fun pins s σ H Q I h => PySem.W.methodCall_KW (pl := pl) (thn (he.run pins s σ H _ I h) fun u s1 hh => ?_) ht⟩
  obtain ⟨y, H1, I1, rx, a, dx, fs, rfl, ea, l, q⟩ := hh
  obtain rfl : u = Value.ref a := rx
  refine getmeth_ok I1 ea c hm l ?_
  refine PySem.W.callWith_of hpl (PySem.W.keeps_K (K := X.K) hm.kp) (evalArgs_kw2_nil hall (thn (hkw.run pos _ s1 σ H1 _ I1 q) fun ws s3 hh => ?_))
  obtain ⟨zs, H2, I3, rz, hl, q2⟩ := hh
  refine ⟨I3.kIn, ?_⟩
  rw [hks]
  refine wpAny_call (codeAny_mono (F.run X.A X.stack s3 H2 ⟨[.ref a], ks.zip ws⟩ (.ref a :: gv ws) (.ref a :: gV zs) Q (E σ) hr I3.env0 (hbd s3 a ws I3.kIn (by rw [← rz.length]; exact hl)) (.cons rfl (rel rz)) q2) fun rs s' hq => ?_)
  cases rs with
  | error er => exact hx σ _ H2 s3 er s' I3 hq
  | ok fl =>
    cases fl with
    | ret u => exact I3.after hq
    | next => exact hq.elim
    | brk => exact hq.elim
    | cont => exact hq.elim
end
end L2

set_option Elab.async false
set_option linter.all false
set_option maxRecDepth 100000
set_option maxHeartbeats 1000000
/-! VxF: v != v, one and the same: data, a list of anything, a dict of flat data. -/
namespace L2
open PySem PySem.Spec PyProof.Rows
section
variable {X : Cx}
def rNeL (K : PySem.W.Frag) : R2 := fun x y H Q => ∃ (a : Addr) (xs : List V), x = .ref a ∧ y = .ref a ∧ SqL K H a xs ∧ Q (.bl false) H
theorem op_neL (hu : X.A.units < cLine) : OpR X (compareOp .NotEq) (rNeL X.K) := by
  intro pins s σ H x y v u Q I rx ry h
  obtain ⟨a, xs, rfl, rfl, ha, q⟩ := h
  cases rx
  cases ry
  obtain ⟨us, r1, p1, _⟩ := I.list ha
  have z := SeqAt.RcNeAt.lists (A := X.A) (s := s) (e := fun _ => true) p1.isList p1.isList rfl hu (fun j h1 h2 => SeqAt.EqAt.same _) X.prog X.w X.xe (EP X pins σ Q)
  refine z ?_
  have e : (List.range us.toArray.size).all (fun _ => true) = true := by simp
  rw [e]
  exact ⟨.bl false, H, I, rfl, q⟩
def rNeS (K : PySem.W.Frag) : R2 := fun x y H Q => rNeD K x y H Q ∨ rNeL K x y H Q ∨ rNeDA x y H Q
theorem op_neS (h64 : X.A.units + 64 < cLine) : OpR X (compareOp .NotEq) (rNeS X.K) := by
  intro pins s σ H x y v u Q I rx ry h
  have hu : X.A.units < cLine := by omega
  rcases h with h | h | h
  · exact op_neD h64 pins s σ H x y v u Q I rx ry h
  · exact op_neL hu pins s σ H x y v u Q I rx ry h
  · exact op_ne_dictA hu pins s σ H x y v u Q I rx ry h
end
end L2

set_option Elab.async false
set_option linter.all false
set_option maxRecDepth 100000
set_option maxHeartbeats 2000000
/-! VxV: tuple(d.items()). -/
namespace PySem
open AutoSeq1 (wpAny_loadPart')
theorem tuple_new_itemsV {prog : Program} {w : World} {K : Type} [DecidableEq K] (knd : KeyKind prog w K) (r d : Addr) (kvs : List (K × Value)) (ep : Nat) (hn : kvs.length ≤ sizeLine) :
    MeetsIn prog w (Builtin.«tuple.__new__» ⟨[.type "tuple", .ref r], []⟩) (fun A R s => A.handled = none ∧ s.heap.IsItemsView r d ∧ s.heap.DictAt knd d kvs ep ∧
      ∀ (h' : Heap) (tk : Nat) (as : List Addr), (∀ b o, s.heap.get? b = some o → h'.get? b = some o) → as.length = kvs.length → PySem.W.KdxG knd kvs s.heap.objs.size h' as →
        R (.ok (.ret (.ref h'.objs.size))) { s with heap := h'.push { cls := .type "tuple", data := .seq (as.map Value.ref).toArray }, toks := tk }) :=
  .of_wp fun A R s h => by
    obtain ⟨hp, g, dr, tk0, os⟩ := s
    obtain ⟨hh, hv, hm, h⟩ := h
    have hsub := sub_tuple_self
    have hinit := init_tuple_lookup
    have hmh := madeHere_tuple
    obtain ⟨o, ho, hc, hd⟩ := hv
    have hT : Shared.TypeIs ⟨hp, g, dr, tk0, os⟩ (.ref r) "dict_items" := ⟨o, ho, hc⟩
    have hh1 : A.in1.handled = none := hh
    have key : ∀ {R' : List Value → Shared → Prop} {E' : Value → Shared → Prop}, (∀ (h' : Heap) (tk : Nat) (as : List Addr), (∀ b o, hp.get? b = some o → h'.get? b = some o) → as.length = kvs.length → PySem.W.KdxG knd kvs hp.objs.size h' as → R' (as.map Value.ref) ⟨h', g, dr, tk, os⟩) →
        wpAny (model prog w) A.in1 (collect (.ref r)) R' E' ⟨hp, g, dr, tk0, os⟩ := fun h => PySem.W.kdx_collect (s := ⟨hp, g, dr, tk0, os⟩) (knd := knd) (kvs := kvs) (ep := ep) hh1 ⟨o, ho, hc, hd⟩ hm hn h
    wp_walk using wpAny_typeOf hT, key
    intro h' tk as hk hl hG
    show wpAny _ _ (Builtin.Tuple.tupleExact (as.map Value.ref).toArray >>= fun v => ret v) _ _ _
    unfold Builtin.Tuple.tupleExact
    refine wpAny_bind (wpAny_newObj_type ?_ (by show (as.map Value.ref).toArray.size ≤ sizeLine; rw [List.size_toArray, List.length_map, hl]; exact hn))
    exact wpAny_pure ⟨_, rfl, h h' tk as hk hl hG⟩
theorem call_tuple_itemsV {prog : Program} {w : World} {A : Around} {E : Value → Shared → Prop} {s : Shared} {K : Type} [DecidableEq K] (knd : KeyKind prog w K) {r d : Addr} {kvs : List (K × Value)} {ep : Nat} {Q : Value → Shared → Prop} (hn : kvs.length ≤ sizeLine)
    (hh : A.handled = none) (hv : s.heap.IsItemsView r d) (hm : s.heap.DictAt knd d kvs ep)
    (h : ∀ (h' : Heap) (tk : Nat) (as : List Addr), (∀ b o, s.heap.get? b = some o → h'.get? b = some o) → as.length = kvs.length → PySem.W.KdxG knd kvs s.heap.objs.size h' as → Q (.ref h'.objs.size) { s with heap := h'.push { cls := .type "tuple", data := .seq (as.map Value.ref).toArray }, toks := tk }) :
    wpAny (model prog w) A (call (.type "tuple") [.ref r]) Q E s :=
  callType_newIn F.called_tuple (by decide) (F.typeCall_tuple_1 _) (F.newCall_tuple_1 _) (fun obj => F.args_object_init_2 obj _) F.entry_tuple_new
    (tuple_new_itemsV knd r d kvs ep hn) ⟨hh, hv, hm, fun h' tk as hk hl hG => ⟨⟨_, Heap.get?_push_size _ rfl, rfl⟩, h h' tk as hk hl hG⟩⟩
end PySem
namespace L2
open PySem PySem.Spec PyProof.Rows LiI
def rItemsTu : V → Hp → VK → Prop := fun x H Q => ∃ (d : Addr) (kvs : List (Key × V)), x = .ref d ∧ H d = some (.dK kvs) ∧
  ∀ (H' : Hp) (p : Addr) (ts : List Addr), Same H H' → H p = none → (∀ t ∈ ts, H t = none) → H' p = some (.tup (ts.map V.ref)) → Paired (fun (t : Addr) (q : Key × V) => H' t = some (.tup [kV q.1, q.2])) ts kvs → Q (.ref p) H'
def tTupItems (te : TE) : TE := fun σ H Q => te σ H fun x H1 => rItemsTu x H1 Q
section
variable {X : Cx} {e : Expr} {te : TE} {p apos cpos pos : Pos}
theorem items_laidT {pins : List (Addr × Obj)} {σ : L2.St} {H : Hp} {s : Shared} {h' : Heap} {tk : Nat} {kvs : List (Key × V)} {vs : List (Key × Value)} {as : List Addr} (I : Inv X pins σ H s) (hz : kvs.length ≤ sizeLine) (kv : KV kvs vs)
    (hk : ∀ b o, s.heap.get? b = some o → h'.get? b = some o) (hl : as.length = vs.length) (hG : PySem.W.KdxG (mixKind X.prog X.w) vs s.heap.objs.size h' as) (le : s.heap.objs.size ≤ h'.objs.size) :
    ∃ H' : Hp, Same H H' ∧ H h'.objs.size = none ∧ (∀ t ∈ as, H t = none) ∧ H' h'.objs.size = some (.tup (as.map V.ref)) ∧ Paired (fun (t : Addr) (q : Key × V) => H' t = some (.tup [kV q.1, q.2])) as kvs ∧
      Inv X pins σ H' { s with heap := h'.push { cls := .type "tuple", data := .seq (as.map Value.ref).toArray }, toks := tk } := by
  have lk : kvs.length = vs.length := Paired.length kv
  have hSn : h'.objs.size ∉ as := fun z => Nat.lt_irrefl _ (hG.there z)
  have nd : as.Nodup := List.Pairwise.imp (fun {a b} (h : a < b) => Nat.ne_of_lt h) hG.rise
  have new : ∀ t ∈ as, H t = none := fun t ht => I.hok.fresh (Nat.le_of_lt (hG.above t ht))
  have newS : H h'.objs.size = none := I.hok.fresh le
  have atP := putT_at as kvs (upd H h'.objs.size (.tup (as.map V.ref))) (by omega) nd
  have off : ∀ b, b ∉ as → b ≠ h'.objs.size → putT (upd H h'.objs.size (.tup (as.map V.ref))) as kvs b = H b := fun b h1 h2 => by rw [putT_off as kvs _ h1, upd_ne h2]
  have low : ∀ b o, s.heap.get? b = some o → b ∉ as ∧ b ≠ h'.objs.size := fun b o e => ⟨fun z => absurd (Heap.lt_size e) (Nat.not_lt.mpr (Nat.le_of_lt (hG.above b z))), fun z => absurd (Heap.lt_size e) (Nat.not_lt.mpr (by rw [z]; exact le))⟩
  have kp : ∀ b u, H b = some u → (putT (upd H h'.objs.size (.tup (as.map V.ref))) as kvs) b = some u := fun b u e => by
    rw [off b (fun z => by rw [new b z] at e; cases e) (fun z => by rw [z, newS] at e; cases e)]
    exact e
  have eS : putT (upd H h'.objs.size (.tup (as.map V.ref))) as kvs h'.objs.size = some (.tup (as.map V.ref)) := by rw [putT_off as kvs _ hSn, upd_same]
  have hk2 : ∀ b o, s.heap.get? b = some o → (h'.push { cls := .type "tuple", data := .seq (as.map Value.ref).toArray }).get? b = some o := fun b o e => Heap.get?_push_of_some _ (hk b o e)
  refine ⟨putT (upd H h'.objs.size (.tup (as.map V.ref))) as kvs, kp, newS, new, eS, atP, ?_⟩
  refine I.call' (ch := []) rfl ⟨fun b o q _ _ _ => hk2 b o q, fun b o q _ _ _ => ⟨o.slots, hk2 b o q⟩, fun b o q n _ => ?_, fun b o q _ => ⟨o, hk2 b o q⟩, fun b xs q => kp b _ q, fun b o u q => kp b _ q, fun b ps q => ⟨#[], by rw [kp b _ q]; simp⟩⟩ (fun b u q => ?_) I.bare fun b z => by simp at z
  · obtain ⟨z1, z2⟩ := low b o q
    rw [off b z1 z2]
    exact n
  · by_cases hb : b ∈ as
    · obtain ⟨j, pk, e1, e2, e3⟩ := paired_ix atP hb
      rw [e3] at q
      cases q
      obtain ⟨key, k, x, f1, f2, f3⟩ := hG.pairs j b e1
      obtain ⟨qv, g1, g2, g3⟩ := paired_get kv e2
      rw [f1] at g1
      cases g1
      have rk : RelV (kV pk.1) key := by
        rw [g2]
        exact relV_key (show keyIs k key = true from f2)
      exact ⟨by show 2 ≤ sizeLine; decide, [key, x], .cons rk (.cons g3 .nil), ⟨_, Heap.get?_push_of_some _ f3, rfl, _, rfl⟩⟩
    · by_cases hb2 : b = h'.objs.size
      · rw [hb2] at q ⊢
        rw [eS] at q
        cases q
        refine ⟨by rw [List.length_map]; omega, as.map Value.ref, vals_refs as, ?_⟩
        exact ⟨_, Heap.get?_push_size _ rfl, rfl, _, rfl⟩
      · rw [off b hb hb2] at q
        exact (I.hok b u q).stay (fun d v _ y => hk2 d v y) (fun d y => kp d _ y) fun d xs y => kp d _ y
/-- tuple(e.items()) -/
theorem pe_tupItems (hc : X.calm = true) (he : PE X e te) (hg : Gl X "tuple") (hm : X.mg "tuple" = none) (hv : bootBuiltins "tuple" = some (.type "tuple")) (hbase : attributeBase e "items" X.env (eval e X.env) = eval e X.env := by rfl) (hline : (apos.endLine == cpos.line) = true := by rfl)
    (hs : starEach [.Call (.Attribute e "items" apos) [] [] cpos] X.env = (false, eval (.Call (.Attribute e "items" apos) [] [] cpos) X.env) :: starEach [] X.env := by rfl) :
    PE X (.Call (.Name "tuple" p) [.Call (.Attribute e "items" apos) [] [] cpos] [] pos) (tTupItems te) := by
  refine ⟨fun pins s σ H Q I hq => ?_⟩
  refine wpAny_Call_Name_kw (ld_blt I hg hm hv ?_)
  refine PyProof.Rows.callWith_type1 ?_ hs rfl
  rw [hs]
  show wpAny _ _ (spliced ((false, eval (.Call (.Attribute e "items" apos) [] [] cpos) X.env) :: backTo pos (starEach [] X.env))) _ _ s
  refine Calls.spliced_cons ?_
  refine wpAny_Call_method (T := "dict") (id := "dict.items") hbase rfl hline F.plainAttrs_dict F.slot_dict_items F.type_dict_items (thn (he.run pins s σ H _ I hq) fun u s1 ⟨x, H1, I1, rx, d, kvs, ex, hd, q⟩ => ?_)
  subst ex
  obtain rfl : u = Value.ref d := rx
  obtain ⟨hz, hs0, vs, kv, hdo⟩ := I1.hok d _ hd
  obtain ⟨ep, hat⟩ := hdo.dictAt
  have lk : kvs.length = vs.length := Paired.length kv
  have I2 : Inv X pins σ H1 { s1 with heap := s1.heap.push { cls := .type "dict_items", data := .fields #[.ref d] } } := I1.kept (t' := s1.toks) fun b ob q => Heap.get?_push_of_some _ q
  refine ⟨hdo.typeIs, hdo.mapOf.noDict, ?_⟩
  show wpAny _ _ (callWith cpos (.builtin "dict.items") [.ref d] [] []) _ X.xe s1
  refine method_meetsIn F.slot_dict_items F.entry_dict_items rfl (PySem.evalArgs_none ⟨rfl, hdo.typeIs, F.args_dict_items_1 _, _, meets_dict_items (mixKind X.prog X.w) d hs0, ⟨vs, hdo⟩, ?_⟩)
  refine Calls.spliced_nil ?_
  refine PySem.call_tuple_itemsV (mixKind X.prog X.w) (kvs := vs) (ep := ep) (by omega) (I1.ok.hd hc) ⟨_, Heap.get?_push_size _ rfl, rfl, rfl⟩ (hat.push _) fun h' tk as hk hl hG => ?_
  obtain ⟨H', k1, k2, k3, k4, k5, J⟩ := items_laidT (tk := tk) I2 hz kv hk hl hG (by show (s1.heap.push _).objs.size ≤ _; rw [Heap.size_push]; exact Heap.lt_size (hk _ _ (Heap.get?_push_size _ rfl)))
  exact ⟨.ref _, H', J, rfl, q H' _ as k1 k2 k3 k4 k5⟩
end
end L2

set_option Elab.async false
set_option linter.all false
set_option maxRecDepth 100000
set_option maxHeartbeats 2000000
/-! VxW: a walk over enumerate(text). -/
namespace L2
open PySem PySem.Spec PyProof.Rows
/-- the signs of x, each in a new pair -/
def Itns (x : Str) : It :=
  ⟨fun i _ => i < x.cps.size, fun i H v H' => ∃ T c, v = .ref T ∧ H T = none ∧ H' = upd H T (.tup [.int (i : Nat), .str ⟨#[c]⟩]) ∧ x.cps[i]? = some c, fun i _ => i = x.cps.size⟩
theorem turn_enumS {P : Program} {w : World} {K : PySem.W.Frag} {elts : List Expr} {kk : Nat} {tpos : Pos} (x : Str) (t : Tok) (e it : Addr) :
    Turn P w K (.Tuple elts kk tpos) (Itns x) [e, it] e (fun i h => (∃ old, IsEnum h e it ((i : Nat) : Int) old) ∧ h.IsStrIter it (strIterType x) x t i ∧ e ≠ it) where
  mem := by simp
  obj := fun i h st b hb => by
    obtain ⟨⟨old, he⟩, ⟨o, ho, hc, hd⟩, _⟩ := st
    have e' : b = e ∨ b = it := by simpa using hb
    rcases e' with z | z
    · rw [z]; exact ⟨_, he, fun v q => nomatch q⟩
    · rw [z]; exact ⟨o, ho, fun v q => by rw [hd] at q; cases q⟩
  keep := fun i h h' st k => let ⟨⟨old, he⟩, ⟨o, ho, r⟩, hne⟩ := st; ⟨⟨old, k e (by simp) _ he⟩, ⟨o, k it (by simp) o ho, r⟩, hne⟩
  item := by
    intro X hP hw hK hc i pins s σ H E I hf st hg
    subst hP hw hK
    obtain ⟨⟨old, he⟩, hit, hne⟩ := st
    have hel : e < s.heap.objs.size := Heap.lt_size he
    have hil : it < s.heap.objs.size := by obtain ⟨_, q, _⟩ := hit; exact Heap.lt_size q
    have hh1 : X.A.in1.handled = none := I.ok.hd hc
    refine wpAny_pyNext_enum_itemD (Draws.text (prog := X.prog) (w := X.w) hh1 it x t) he hit hg hne (by simpa using hne) fun v h' tk hv ho hit' hT hsz hk => ?_
    obtain ⟨c, u, hcx, rfl⟩ := hv
    refine ⟨_, rfl, wpAny_letOwnedTupleGo_enum (s := { s with heap := h', toks := tk + 1 }) ho fun h'' he' sb => ?_⟩
    have hT2 : h''.get? s.heap.objs.size = some { cls := .type "tuple", data := .seq #[.int i tk, .str ⟨#[c]⟩ u] } := (sb.2 _ (Nat.ne_of_gt hel)).trans hT
    have new : ObjOk X.prog X.w (upd H s.heap.objs.size (.tup [.int (i : Nat), .str ⟨#[c]⟩])) h'' s.heap.objs.size (.tup [.int (i : Nat), .str ⟨#[c]⟩]) :=
      ⟨by show 2 ≤ sizeLine; decide, [.int i tk, .str ⟨#[c]⟩ u], .cons ⟨_, rfl⟩ (.cons ⟨_, rfl⟩ .nil), ⟨_, hT2, rfl, _, rfl⟩⟩
    have I1 : Inv X pins σ (upd H s.heap.objs.size (.tup [.int (i : Nat), .str ⟨#[c]⟩])) { s with heap := h'', toks := tk + 1 } :=
      I.turnedNew (ch := [e, it]) (fun b ob hb q => (sb.2 b (fun z => hb (by simp [z]))).trans (hk b ob (fun z => hb (by simp [z])) (fun z => hb (by simp [z])) q)) hf (Nat.le_refl _) new
    refine ⟨.ref s.heap.objs.size, _, I1, rfl, ⟨_, c, rfl, I.hok.fresh (Nat.le_refl _), rfl, hcx⟩, ⟨⟨.str ⟨#[c]⟩ u, ?_⟩, ?_, hne⟩, fun b hb => ?_⟩
    · have e1 : ((i + 1 : Nat) : Int) = (i : Int) + 1 := by omega
      rw [e1]; exact he'
    · obtain ⟨o, ho2, r⟩ := hit'
      exact ⟨o, (sb.2 it (Ne.symm hne)).trans ho2, r⟩
    · have hb' : b < s.heap.objs.size := by
        have e' : b = e ∨ b = it := by simpa using hb
        rcases e' with z | z
        · rw [z]; exact hel
        · rw [z]; exact hil
      rw [upd_ne (Nat.ne_of_lt hb')]
      exact (hf b hb).1
  done := by
    intro X hP hw hK hc i pins s σ H E I hf st hg
    subst hP hw hK
    obtain ⟨⟨old, he⟩, hit, hne⟩ := st
    obtain ⟨f0, f1, f2, f3, f4, f5⟩ := hf it (by simp)
    have hh1 : X.A.in1.handled = none := I.ok.hd hc
    have D0 := Draws.text (prog := X.prog) (w := X.w) hh1 it x t
    have hg' : i = x.cps.size := hg
    subst hg'
    exact wpAny_pyNext_enum_endD D0 he hit fun h' eb => ⟨rfl, I.turned (t' := s.toks) (fun b o hb q => eb b o hb q) f0 f1 f3 f4 f5⟩
  self := fun A i s Q E st h => let ⟨⟨_, he⟩, _⟩ := st; wpAny_pyIter_enum he h
/-- it goes once for each sign -/
theorem walk_enumS {x : Str} : Walk (Itns x) x.cps.size (fun _ => True) (fun i H v H' => ∃ T c, v = .ref T ∧ H T = none ∧ H' = upd H T (.tup [.int (i : Nat), .str ⟨#[c]⟩]) ∧ x.cps[i]? = some c) :=
  ⟨fun _ _ hi _ => hi, fun _ _ => rfl, fun _ _ _ _ _ _ y => y⟩
def iEnumS (ta : TA) : TI := fun σ H R => ta σ H fun vs H1 => ∃ x, vs = [.str x] ∧ R (Itns x) H1
theorem pi_enumS {X : Cx} {e : Expr} {ta : TA} {p pos tpos : Pos} {elts : List Expr} {kk : Nat} (hg : Gl X "enumerate") (hm : X.mg "enumerate" = none) (ha : PA X [e] ta) (hs : starEach [e] X.env = [(false, eval e X.env)] := by rfl) :
    PI X (.Tuple elts kk tpos) (.Call (.Name "enumerate" p) [e] [] pos) (iEnumS ta) := by
  refine ⟨fun pins s σ H R I h => ?_⟩
  refine Call_ (ld_blt I hg hm boot_enumerate (PyProof.Rows.callWith_type1 (thn (ha.run pos pins s σ H _ I h) fun us s1 ⟨vs, H1, I1, r1, q1⟩ => ?_) hs rfl))
  obtain ⟨x, ex, q⟩ := q1
  subst ex
  cases r1 with
  | cons r rr =>
    cases rr
    obtain ⟨t, rfl⟩ := r
    refine call_enumerate_str fun h' he hit hsz hk => wpAny_pyIter_enum he ?_
    have I2 : Inv X pins σ H1 { s1 with heap := h' } := I1.kept (t' := s1.toks) hk
    refine ⟨s1.heap.objs.size + 1, [s1.heap.objs.size + 1, s1.heap.objs.size], _, _, H1, rfl, I2, turn_enumS x t (s1.heap.objs.size + 1) s1.heap.objs.size, ⟨⟨.none, he⟩, hit, Nat.succ_ne_self _⟩, fun b hb => ?_, q⟩
    have e' : b = s1.heap.objs.size + 1 ∨ b = s1.heap.objs.size := by simpa using hb
    have hle : s1.heap.objs.size ≤ b := by
      rcases e' with z | z
      · rw [z]; exact Nat.le_add_right _ _
      · rw [z]; exact Nat.le_refl _
    exact I1.fpOk hle (I1.hok.fresh hle)
end L2

set_option Elab.async false
set_option linter.all false
set_option maxRecDepth 100000
set_option maxHeartbeats 1000000
/-! VxMk: within a try: C(k = e, ..), what __init__ lets out told at the slots of the call. -/
namespace L2
open PySem PySem.Spec PyProof.Rows
section
variable {X : Cx} {CX : CXT} {k : Nat} {f C : Addr} {fd : FuncData} {ps ks : List Str} {sp : Sp} {x : Str} {p pos : Pos} {kws : List Keyword} {tk : TA} {E : L2.St → XK}
theorem pe_makeKSg {gv : List Value → List Value} {gV : List V → List V} (M : Mk X.K C f) (F : FnOk X.prog X.w X.K X.mg X.base CX k f fd ps sp) (hr : Room (k + 1) X.A) (hg : Gl X x) (hm : X.mg x = some (.ref C)) (hx : ∀ σ, PassesAt CX X σ (E σ))
    (hbd : ∀ (s : Shared) (a : Addr) (ws : List Value), X.K.In s.heap → ws.length = ks.length → BindsTo s fd ⟨[Value.ref a], ks.zip ws⟩ (ps.zip (Value.ref a :: gv ws))) (rel : ∀ {zs : List V} {ws : List Value}, Vals zs ws → Vals (gV zs) (gv ws)) (hkw : PK X kws tk)
    (hall : (backToKw pos (keywordEach kws X.env)).all (·.1.isSome) = true := by rfl) (hks : (backToKw pos (keywordEach kws X.env)).filterMap (·.1) = ks := by rfl) (hdb : (x == ("__debug__" : Str)) = false := by decide)
    (hpl : ((backTo pos (starEach [] X.env)).any (·.1) || (backToKw pos (keywordEach kws X.env)).any (·.1.isNone)) = false := by rfl) :
    PE X (.Call (.Name x p) [] kws pos) (fun σ H Q => tk σ H fun zs H2 => zs.length = ks.length ∧ ∀ n dx, H2 n = none → H2 dx = none → dx ≠ n → sp (.ref n :: gV zs) (upd (upd H2 dx (.own n)) n (.ins C dx [])) (fun v H3 => v = .non ∧ Q (.ref n) H3) (E σ)) := by
  refine ⟨fun pins s σ H Q I h => ?_⟩
  refine wpAny_Call_Name_kw (ld_glob I hg hm ?_ hdb)
  refine PySem.W.callWith_KW0 (h₀ := X.base) I.ok.mod.kin M.kp hall ?_ hpl
  refine thn (hkw.run pos pins s σ H _ I h) fun ws s2 ⟨zs, H2, I2, rz, l2, q2⟩ => ⟨I2.kIn, ?_⟩
  rw [hks]
  have hq := q2 (s2.heap.objs.size + 1) s2.heap.objs.size (I2.hok.fresh (Nat.le_succ _)) (I2.hok.fresh (Nat.le_refl _)) (Nat.ne_of_lt (Nat.lt_succ_self _))
  have J := Inv.made (C := C) I2
  have l3 : ws.length = ks.length := rz.length.symm.trans l2
  refine wpAny_call (make_map (vs := []) (f := f) I2.kIn M.makes M.init (beq_iff_eq.mp M.fn) (codeAny_mono (F.run _ X.stack _ _ ⟨[Value.ref (s2.heap.objs.size + 1)], ks.zip ws⟩ (Value.ref (s2.heap.objs.size + 1) :: gv ws) (V.ref (s2.heap.objs.size + 1) :: gV zs) _ (E σ) (hr.make C [] (ks.zip ws))
    (J.env0.make C [] (ks.zip ws)) (hbd _ _ ws J.kIn l3) (.cons rfl (rel rz)) hq) fun r s' hq' => ?_))
  cases r with
  | error e => exact hx σ pins _ _ e s' J hq'
  | ok fl =>
    cases fl with
    | ret u =>
      obtain ⟨v, H', I3, rv, ev, q3⟩ := J.after hq'
      subst ev
      exact ⟨rv, ⟨V.ref (s2.heap.objs.size + 1), H', I3, rfl, q3⟩⟩
    | next => exact False.elim hq'
    | brk => exact False.elim hq'
    | cont => exact False.elim hq'
end
end L2

set_option Elab.async false
set_option linter.all false
set_option maxRecDepth 100000
set_option maxHeartbeats 2000000
/-! VxYl: yield from a list. -/
namespace L2
open PySem PySem.Spec PyProof.Rows
section
variable {prog : Program} {w : World} {A : Around} {E : Value → Shared → Prop} {s : Shared}
theorem special_lst_item {it t : Addr} {i : Nat} {items : Array Value} {x : Value} {Q : Option Value → Shared → Prop} (hit : s.heap.IsListIter it t i) (ht : s.heap.IsList t items) (hx : items[i]? = some x)
    (hQ : ∀ h', h'.IsListIter it t (i + 1) → Heap.SameBut it s.heap h' → Q (some x) { s with heap := h' }) : wpAny (model prog w) A (callSpecial? (.ref it) "__next__") Q E s := by
  obtain ⟨o, ho, hc, hd⟩ := id hit
  obtain ⟨ol, hol, _, nl, hdl⟩ := ht
  refine wpAny_callSpecial?_slot (name := Str.ofString "__next__") hit.typeIs slot_listiter_next (wpAny_call_entry slot_listiter_next hit.typeIs entry_listiter_next ?_ (args_listiter_next _))
  show wpAny _ _ (field (.ref it) 0 >>= _) _ _ s
  refine wpAny_bind (wpAny_field ho hd (x := .ref t) rfl ?_)
  show wpAny _ _ (if (Value.ref t == Value.none) = true then _ else _) _ _ s
  rw [if_neg (show ¬ ((Value.ref t == Value.none) = true) from Bool.false_ne_true)]
  show wpAny _ _ (field (.ref it) 1 >>= _) _ _ s
  refine wpAny_bind (wpAny_field ho hd (x := .int i 0) rfl ?_)
  show wpAny _ _ (seqItems? (.ref t) >>= _) _ _ s
  refine wpAny_bind (wpAny_seqItems hol hdl ?_)
  simp only [Int.toNat_natCast, hx]
  refine wpAny_bind (wpAny_setField ho hd (by simp) (wpAny_pure ⟨x, rfl, hQ _ ?_ (Heap.SameBut.update ..)⟩))
  exact ⟨_, Heap.get?_update_self _ ho (Obj.isFreed_of_fields (Obj.data_mapFields hd _)), (Obj.cls_mapFields ..).trans hc, by
    rw [Obj.data_mapFields hd]; simp [rawInt]⟩
theorem special_lst_end {it t : Addr} {i : Nat} {items : Array Value} {Q : Option Value → Shared → Prop} (hh : A.handled = none) (hit : s.heap.IsListIter it t i) (ht : s.heap.IsList t items) (hx : items[i]? = none)
    (hE : ∀ e h', StopX e h' → Heap.ExtBut it s.heap h' → E e { s with heap := h' }) : wpAny (model prog w) A (callSpecial? (.ref it) "__next__") Q E s := by
  obtain ⟨o, ho, hc, hd⟩ := id hit
  obtain ⟨ol, hol, _, nl, hdl⟩ := ht
  refine wpAny_callSpecial?_slot (name := Str.ofString "__next__") hit.typeIs slot_listiter_next (wpAny_call_entry slot_listiter_next hit.typeIs entry_listiter_next ?_ (args_listiter_next _))
  show wpAny _ _ (field (.ref it) 0 >>= _) _ _ s
  refine wpAny_bind (wpAny_field ho hd (x := .ref t) rfl ?_)
  show wpAny _ _ (if (Value.ref t == Value.none) = true then _ else _) _ _ s
  rw [if_neg (show ¬ ((Value.ref t == Value.none) = true) from Bool.false_ne_true)]
  show wpAny _ _ (field (.ref it) 1 >>= _) _ _ s
  refine wpAny_bind (wpAny_field ho hd (x := .int i 0) rfl ?_)
  show wpAny _ _ (seqItems? (.ref t) >>= _) _ _ s
  refine wpAny_bind (wpAny_seqItems hol hdl ?_)
  simp only [Int.toNat_natCast, hx]
  refine wpAny_bind (wpAny_rule (wpAny_bind (wpAny_setField ho hd (by simp) ?_)))
  show wpAny _ _ (newExc (.type "StopIteration") [] >>= _) _ _ _
  refine wpAny_bind ?_
  simp only [newExc, newTuple]
  refine wpAny_bind (wpAny_newObj_type ?_ (by size_fits))
  refine wpAny_bind (m := firstArgMember _ _) (wpAny_of_eq (a := Value.none) (by first | rfl | (simp only [firstArgMember]; rfl)) ?_)
  refine wpAny_newObj_type ?_ (by size_fits)
  simp only [raiseNew]
  refine wpAny_bind (wpAny_handled ?_)
  first | rw [show A.in1.handled = none from hh] | rw [hh]
  refine wpAny_bind (wpAny_pure (wpAny_throw ?_))
  refine hE _ _ ⟨_, _, _, rfl, Heap.get?_push_size _ rfl, rfl, rfl, ?_⟩ (((Heap.SameBut.update ..).extBut.push _).push _)
  first
    | rfl
    | (rw [Array.getElem?_append_left (by decide)]; rfl)
    | kernel_rfl
end
section
variable {X : Cx} {e : Expr} {te : TE}
def tYfLst (te : TE) : TYf := fun σ H Q => te σ H fun x H1 => ∃ a xs, x = .ref a ∧ H1 a = some (.lst xs) ∧ Q xs H1
theorem close_lst : typeLookup (.type "list_iterator") "close" = pure none := by rw [typeLookup_type, builtinLookup_eq_fast]; kernel_rfl
theorem yf_lst (he : PE X e te) : YfE X e (tYfLst te) := by
  refine ⟨fun pins s σ H Q I h => ?_⟩
  refine thn (he.run pins s σ H _ I h) fun v s1 ⟨x, H1, I1, r1, a, xs, ex, ha, hq⟩ => ?_
  subst ex
  obtain rfl : v = Value.ref a := r1
  obtain ⟨hlen, its, n, rits, ht⟩ := I1.hok a _ ha
  have htl : s1.heap.IsList a its.toArray := ⟨_, ht, rfl, _, rfl⟩
  refine ⟨"list", ⟨_, ht, rfl⟩, by decide, wpAny_pyIter_list htl ?_⟩
  have ksz : ∀ b o, s1.heap.get? b = some o → b ≠ s1.heap.objs.size := fun b o e => Nat.ne_of_lt (Heap.lt_size e)
  have kp : ∀ b o, s1.heap.get? b = some o → (s1.heap.push { cls := .type "list_iterator", data := .fields #[.ref a, .int 0 0] }).get? b = some o := fun b o e => Heap.get?_push_of_some _ e
  refine ⟨s1.heap.objs.size, H1, xs, fun j h => h.IsListIter s1.heap.objs.size a j ∧ h.IsList a its.toArray, rfl, I1.kept (t' := s1.toks) kp, .inr I1.sz, Nat.ne_of_gt I1.lt, fun y c hy => ?_, I1.hok.fresh (Nat.le_refl _), fun p hp => ?_,
    ⟨⟨_, Heap.get?_push_size _ rfl, rfl, rfl⟩, ⟨_, kp _ _ ht, rfl, _, rfl⟩⟩, ⟨⟨"list_iterator", fun j h q => ?_, close_lst, by decide⟩, fun j h h' q hk => ?_, fun A' j x s2 Q' E' hA hx q hQ => ?_, fun A' s2 Q' E' hA q hE => ?_⟩, hq⟩
  · obtain ⟨v, o, ho, _⟩ := I1.cell y c hy
    exact ksz c o ho
  · exact ksz p.1 _ (I1.pin p hp).1
  · obtain ⟨⟨o, ho, hc, _⟩, _⟩ := q
    exact ⟨o, ho, hc⟩
  · obtain ⟨⟨o, ho, r⟩, o2, ho2, r2⟩ := q
    exact ⟨⟨o, hk _ o (.inl rfl) ho, r⟩, o2, hk _ o2 (.inr (by rw [ha]; exact fun z => by cases z)) ho2, r2⟩
  · obtain ⟨q1, q2⟩ := q
    obtain ⟨u, hu, ru⟩ := rits.get hx
    have hne : a ≠ s1.heap.objs.size := ksz _ _ ht
    exact special_lst_item q1 q2 (x := u) (by simpa using hu) fun h' q1' hs => hQ u h' s2.toks ru ⟨q1', q2.extBut hs.extBut hne⟩ fun b o hb eb => hs.extBut b o hb eb
  · obtain ⟨q1, q2⟩ := q
    have hnone : its.toArray[xs.length]? = none := by
      have e := rits.length
      have e2 : its[xs.length]? = none := List.getElem?_eq_none_iff.mpr (by omega)
      simpa using e2
    exact special_lst_end hA q1 q2 hnone fun e h' hS hk => hE e h' s2.toks hS fun b o hb eb => hk b o hb eb
end
end L2

set_option Elab.async false
set_option linter.all false
set_option maxRecDepth 100000
set_option maxHeartbeats 2000000
/-! VxLc: a comprehension with two fors: the outer and the inner walk. -/
namespace L2
open PySem PySem.Spec PyProof.Rows
section
variable {J : It} {n : Nat} {G : Hp → Prop} {Y : Nat → Hp → V → Hp → Prop}
/-- a walk, told to whoever asks for the turns; B: what is asked of each item, N: what must hold behind it -/
theorem turns_it (w : Walk J n G Y) {B : V → Hp → (Hp → Prop) → Prop} {Z : Hp → Prop} {H1 : Hp} (Pv : Nat → Hp → Prop) (h0 : Pv 0 H1) (hG : ∀ i H, i ≤ n → Pv i H → G H)
    (hs : ∀ i x H H', i < n → Pv i H → Y i H x H' → B x H' (Pv (i + 1))) (hd : ∀ H, Pv n H → Z H) :
    ∃ W : Nat → Nat → Hp → Prop, (∃ m, W 0 m H1) ∧ ∀ i m H, W i m H → (J.stop i H ∧ Z H) ∨ (J.go i H ∧ ∃ Nx : Hp → Prop, (∀ H', Nx H' → ∃ m', m' < m ∧ W (i + 1) m' H') ∧ ∀ x H', J.yld i H x H' → B x H' Nx) := by
  refine ⟨fun i m H => m = n - i ∧ i ≤ n ∧ Pv i H, ⟨n, by simp, Nat.zero_le _, h0⟩, ?_⟩
  rintro i m H ⟨rfl, hi, p⟩
  have q := hG i H hi p
  by_cases hlt : i < n
  · exact .inr ⟨w.goes i H hlt q, Pv (i + 1), fun H' p' => ⟨n - (i + 1), by omega, rfl, hlt, p'⟩, fun x H' y => hs i x H H' hlt p (w.yields i H x H' hlt q y)⟩
  · have e : i = n := by omega
    subst e
    exact .inl ⟨w.stops H q, hd H p⟩
end
end L2

set_option Elab.async false
set_option linter.all false
set_option maxRecDepth 100000
set_option maxHeartbeats 1000000
/-! VxMs: within a try: o.m(e, ..) with what it lets out told at the slots; cls() of a local name of a class. -/
namespace L2
open PySem PySem.Spec PyProof.Rows StX
section
variable {X : Cx} {CX : CXT} {k i : Nat} {f C : Addr} {fd : FuncData} {ps : List Str} {sp : Sp} {E : L2.St → XK} {m x : Str} {p pos apos : Pos} {e o : Expr} {es : List Expr} {ta : TE} {t : TA}
/-- o.m(e, ..) -/
theorem pe_methSg {pl : Sem Bool} (he : PE X o ta) (c : Cls X.K C) (hm : Meth X.K C m f) (F : FnOk X.prog X.w X.K X.mg X.base CX k f fd ps sp) (hr : Room k X.A) (hb : Binds X.K fd ps []) (hx : ∀ σ, PassesAt CX X σ (E σ)) (ha : PA X (e :: es) t)
    (hst : starEach (e :: es) X.env = (false, eval e X.env) :: starEach es X.env := by rfl) (hpl : (backTo pos (starEach es X.env)).any (·.1) = false := by rfl)
    (ht : eval (.Call (.Attribute o m apos) (e :: es) [] pos) X.env = (do
      let ov ← eval o X.env
      standAt apos.atName
      let (f, first) ← holding [ov] (getMethod ov m pl)
      callWith pos f first (backTo pos (starEach (e :: es) X.env)) (backToKw pos (keywordEach [] X.env))) := by rfl) :
    PE X (.Call (.Attribute o m apos) (e :: es) [] pos) (fun σ H Q => ta σ H fun y H1 => ∃ a dx fs, y = .ref a ∧ H1 a = some (.ins C dx fs) ∧ fs.lookup m = none ∧ t σ H1 fun vs H2 => sp (y :: vs) H2 Q (E σ)) := by
  refine ⟨fun pins s σ H Q I h => PySem.W.methodCall_KW (pl := pl) (thn (he.run pins s σ H _ I h) fun u s1 hh => ?_) ht⟩
  obtain ⟨y, H1, I1, rx, a, dx, fs, rfl, ea, l, q⟩ := hh
  obtain rfl : u = Value.ref a := rx
  refine getmeth_ok I1 ea c hm l (PySem.W.callWith_K (first := [.ref a]) (h₀ := X.base) I.ok.mod.kin hm.kp (thn (ha.run pos pins s1 σ H1 _ I1 q) fun us s2 z => ?_) hst hpl)
  obtain ⟨vs, H2, I2, r, q2⟩ := z
  exact ⟨I2.kIn, run_fnS (us := .ref a :: us) (vs := .ref a :: vs) F hr hb (hx σ) I2 (.cons rfl r) q2⟩
/-- cls() -/
theorem pe_makeV0 {E : XK} {dvs : List V} {ds : List Value} (M : Mk X.K C f) (F : FnOk X.prog X.w X.K X.mg X.base CX k f fd ps sp) (hr : Room (k + 1) X.A) (hN : X.N[i]? = some x) (hv : Vis X.env.scope x) (hb : Binds X.K fd ps ds) (hd : Vals dvs ds) (hx : Passes CX X E) (hdd : (x == ("__debug__" : Str)) = false := by decide) (hcd : (x == ("__classdict__" : Str)) = false := by decide) :
    PE X (.Call (.Name x p) [] [] pos) (fun σ H Q => σ[i]? = some (some (.ref C)) ∧ tMake C sp dvs E tNil σ H Q) := by
  refine ⟨fun pins s σ H Q I h => ?_⟩
  obtain ⟨ec, h⟩ := h
  refine wpAny_Call_Name_kw (thn ((pe_var (pos := p) hN hv hdd hcd).run pins s σ H (fun v H1 => v = .ref C ∧ H1 = H) I ⟨_, ec, rfl, rfl⟩) fun u s0 hh => ?_)
  obtain ⟨v, H0, I0, r0, rfl, rfl⟩ := hh
  obtain rfl : u = Value.ref C := r0
  exact PySem.W.callWith_K0 I0.kIn M.kp (run_make (us := []) M F hr hb hd hx I0 .nil h)
end
end L2

set_option Elab.async false
set_option linter.all false
set_option maxRecDepth 100000
set_option maxHeartbeats 1000000
/-! VxLy: y = [x for x in g()], g a generator of the program: the list is stored as the comprehension ends. -/
namespace L2
open PySem PySem.Spec PyProof.Rows GenW
section
variable {X : Cx} {e : Expr} {x : Str} {px pe pos : Pos} {scope : Scope} {k : Nat} {tg : TYg}
theorem lcY_core {pins : List (Addr × Obj)} {s : Shared} {σ : St} {H : Hp} {Q : VK} {pos' : Pos} {use : Option (Value → Sem Unit)} {Qf : Value → Shared → Prop} (h : PY X k e tg E0) (hr : Room (k + 1) X.A) (hk : scope.kind = .function) (hu : ∀ y ∈ scope.names, scope.names.lookup y.1 = some y.2) (hf : ∀ y ∈ scope.names, y.2 ≠ .free) (hx : scope.names.lookup x = some .local)
    (hs : ∀ v, foldedSetIterable e X.env v = pure v) (hd : (x == ("__debug__" : Str)) = false) (I : Inv X pins σ H s)
    (hq : ∃ xs : List V, xs.length ≤ sizeLine ∧ tg σ H xs fun H2 => ∀ p, H2 p = none → Q (.ref p) (upd H2 p (.lst xs)))
    (hRR : ∀ D C s' m H', Inv X pins σ H' s' → Q (.ref D) H' → s'.heap.Ns C m → FpOk X pins H' C → compPost (model X.prog X.w) X.A X.xe use Qf (.ref D) C (.ok .next) s') :
    wpAny (model X.prog X.w) X.A (comprehension (.ListComp (.Name x pe) [⟨.Name x px, e, [], 0⟩] scope pos) scope X.env pos' (newList []) false (eval e X.env) use) Qf X.xe s := by
  obtain ⟨xs, hxs, hq⟩ := hq
  refine wpAny_comprehension_free (use := use) rfl hs (closure_ok fun y hy q => absurd q (hf y hy)) hk (fun y hy q => by rw [hu y hy, q]) (thn (h.run pins s σ H xs _ I hq) fun u s1 hg => ?_)
  obtain ⟨H1, sc, I1, a, g, c, rfl, a1, a2, isG, hgs, os1, bare1, lim1, kp1, wake⟩ := hg
  refine wpAny_pyIter_gen isG (wpAny_newObj_type (newEnv_comp ?_) (by show 0 ≤ sizeLine; decide))
  -- the list, the names
  generalize hD : s1.heap.objs.size = D
  generalize hs3 : ({ s1 with heap := s1.heap.push { cls := .type "list", data := .seq ([] : List Value).toArray } } : Shared) = s3
  have h3 : s3.heap = s1.heap.push { cls := .type "list", data := .seq ([] : List Value).toArray } := by rw [← hs3]
  generalize hC : s3.heap.objs.size = C
  have hCD : C = D + 1 := by rw [← hC, h3, Heap.size_push, hD]
  show codeAny _ _ (.compStart (.ListComp (.Name x pe) [⟨.Name x px, e, [], 0⟩] scope pos) 0 (.ref a) (.ref D) (compEnvC scope (cellsFrom (C + 1) scope.names (cloFrom X.env.cells scope.names [])) C X.env)) (compPost (model X.prog X.w) X.A X.xe use Qf (.ref D) C) { s3 with heap := pushCells (s3.heap.push { cls := .type "dict", data := .dict #[] }) scope.names }
  generalize hce : compEnvC scope (cellsFrom (C + 1) scope.names (cloFrom X.env.cells scope.names [])) C X.env = ce
  have cL : ce.locals = C := by subst hce; rfl
  have cK : ce.scope.kind = .function := by subst hce; exact hk
  have cX : ce.kindOf x = some .local := by
    subst hce
    exact lookup_relabel_local hx
  have cP : (ce.scope.kind == .class || (ce.scope.kind == .module && ce.locals != ce.globals)) = false := by
    rw [cK]
    rfl
  generalize hs4 : ({ s3 with heap := pushCells (s3.heap.push { cls := .type "dict", data := .dict #[] }) scope.names } : Shared) = s4
  have h4 : s4.heap = pushCells (s3.heap.push { cls := .type "dict", data := .dict #[] }) scope.names := by rw [← hs4]
  have k13 : ∀ b o, s1.heap.get? b = some o → s3.heap.get? b = some o := fun b o q => by rw [h3]; exact Heap.get?_push_of_some _ q
  have k34 : ∀ b o, s3.heap.get? b = some o → s4.heap.get? b = some o := fun b o q => by rw [h4]; exact pushCells_keeps _ _ _ _ (Heap.get?_push_of_some _ q)
  have k14 : ∀ b o, s1.heap.get? b = some o → s4.heap.get? b = some o := fun b o q => k34 b o (k13 b o q)
  have os4 : s4.os = sc.os := by rw [← hs4, ← hs3]; exact os1
  have gens4 : s4.gens = s1.gens := by rw [← hs4, ← hs3]
  have eD : s4.heap.get? D = some (lstObj #[] 0) := k34 D _ (by rw [h3, ← hD]; exact Heap.get?_push_size _ rfl)
  have eC : s4.heap.Ns C fun _ => none := by
    rw [h4, ← hC]
    exact (Heap.Ns.new s3.heap (.type "dict")).keeps (pushCells_keeps _ _)
  have aD : a ≠ D := fun z => by
    rw [← hD] at z
    exact Nat.lt_irrefl _ (z ▸ a2)
  have aC : a ≠ C := fun z => by
    rw [hCD, ← hD] at z
    exact Nat.lt_irrefl _ (Nat.lt_of_lt_of_le (z ▸ a2) (Nat.le_succ _))
  have DC : D ≠ C := fun z => by
    rw [hCD] at z
    exact Nat.lt_irrefl D (by
      have q : D < D + 1 := Nat.lt_succ_self D
      rw [← z] at q
      exact q)
  have scD : sc.heap.objs.size ≤ D := by
    rw [← hD]
    exact Nat.le_trans a1 (Nat.le_of_lt a2)
  have scC : sc.heap.objs.size ≤ C := Nat.le_trans scD (by rw [hCD]; exact Nat.le_succ D)
  have sD : cStatics ≠ D := fun z => by
    obtain ⟨mc, hn, _⟩ := lim1
    have q := hn.lt
    rw [z, ← hD] at q
    exact Nat.lt_irrefl _ q
  have sC : cStatics ≠ C := fun z => by
    obtain ⟨mc, hn, _⟩ := lim1
    have q := hn.lt
    rw [z, hCD, ← hD] at q
    exact Nat.lt_irrefl _ (Nat.lt_of_lt_of_le q (Nat.le_succ _))
  -- the state between two items
  have loop : codeAny (model X.prog X.w) X.A (.compLoop (.ListComp (.Name x pe) [⟨.Name x px, e, [], 0⟩] scope pos) 0 (.ref a) (.ref D) ce) (compPost (model X.prog X.w) X.A X.xe use Qf (.ref D) C) s4 := by
    refine compLoop_any (fun n s5 => ∃ (j : Nat) (gs : GenState) (acc : Array Value) (cc : Nat) (m : Str → Option Value), n + j = xs.length ∧ s5.gens[g]? = some gs ∧
      gs.Goes (model X.prog X.w) X.A.in1 (YEnd X.prog X.w X.stack H1 sc [D, C] a g (fun H2 => ∀ p, H2 p = none → Q (.ref p) (upd H2 p (.lst xs))) E0) (YItm X.prog X.w X.stack H1 sc [D, C] a g xs) n (.send .none) (s5.setGen g .running) ∧
      s5.heap.get? D = some (lstObj acc cc) ∧ Vals (xs.take j) acc.toList ∧ s5.heap.Ns C m ∧ s5.heap.IsGen a g ∧ s5.heap.NoLimit ∧ s5.os = sc.os ∧ AllBare s5.gens) ?_ xs.length ?_
    · rintro n s5 ⟨j, gs, acc, cc, m, hn, hg5, go5, d5, v5, c5, i5, l5, o5, b5⟩
      have gl : g < s5.gens.size := (Array.getElem?_eq_some_iff.mp hg5).1
      refine wpAny_gsz (n := g + 1) gl (next_genG (A := X.A) hr.hd l5 hr.depth i5 hg5 (F := fun n s₀ s1 => ∃ H', n = 0 ∧ s1.os = sc.os ∧ AllBare s1.gens ∧ Un (frs X.stack) [] H1 H' sc.heap s1.heap ∧ HOk X.prog X.w H' s1.heap ∧ Still [D, C] H' s₀ s1 ∧ ∀ p, H' p = none → Q (.ref p) (upd H' p (.lst xs)))
        (Er := fun e s1 => CX X.prog X.w X.stack H1 sc E0 e s1 ∧ s1.heap.IsGen a g) go5 (fun v s6 gs' bare6 hv => ?_) (fun s6 hp h' hk => ?_) fun er s6 he => (no_cx he.1).elim)
      · -- an item
        intro hsz
        obtain ⟨j', y, H', hn', hy, rv, o6, b6, l6, i6, un6, hok6, st6, kap⟩ := hv
        obtain ⟨q1, oD, q2, q3⟩ := st6 D List.mem_cons_self
        obtain ⟨z1, oC, z2, z3⟩ := st6 C (List.mem_cons_of_mem _ List.mem_cons_self)
        have d6 : s6.heap.get? D = some (lstObj acc cc) := by
          rw [q3, ← q2]
          exact d5
        have c6 : s6.heap.Ns C m := c5.at' fun o eo => by
          have w : some oC = some o := z2.symm.trans eo
          rw [z3, w]
        obtain ⟨og, nm, qn, g1, g2, g3, g4⟩ := id i6
        refine go_of (s := s6.setGen g gs') g1 g2 g3 (by decide) ?_
        refine wpAny_assign_Name (wpAny_storeName_local (s := s6.setGen g gs') cX (by rw [cL]; exact c6) (fun h7 n7 sb7 => ?_) cP)
        rw [cL] at n7 sb7
        refine wpAny_tests_nil ?_
        rw [if_pos rfl]
        refine wpAny_Name (wpAny_loadName_local cK cX (v := v) (by rw [cL]; exact n7) (by simp) ?_) hd
        have d7 : h7.get? D = some (lstObj acc cc) := (sb7.2 D DC).trans d6
        have sz : acc.size = j := by
          have q := v5.length
          rw [List.length_take] at q
          have q2 : acc.toList.length = acc.size := by simp
          omega
        refine append_at d7 (fun h8 sb8 d8 => ?_) (by rw [sz]; omega)
        have k68 : ∀ b o, b ≠ D → b ≠ C → s6.heap.get? b = some o → h8.get? b = some o := fun b o n1 n2 q => (sb8.2 b n1).trans ((sb7.2 b n2).trans q)
        have c8 : h8.Ns C _ := n7.at' fun o q => (sb8.2 C (Ne.symm DC)).trans q
        have g6 : g < s6.gens.size := by
          have q : (s6.setGen g gs').gens.size = s6.gens.size := setGen_size _ _ _
          have q2 : g + 1 ≤ (s6.setGen g gs').gens.size := hsz
          omega
        have b8 : AllBare (s6.setGen g gs').gens := allBare_setGen b6 bare6
        obtain ⟨mc, ln, lx⟩ := l6
        have zz : Zzz [D, C] s6 (({ s6.setGen g gs' with toks := (s6.setGen g gs').toks + 1, heap := h8 } : Shared).setGen g .running) := by
          refine ⟨rfl, allBare_setGen (s := { s6.setGen g gs' with toks := (s6.setGen g gs').toks + 1, heap := h8 }) b8 rfl, fun b o hb q => ?_, fun z hz => ?_⟩
          · exact k68 b o (fun w => hb (by rw [w]; exact List.mem_cons_self)) (fun w => hb (by rw [w]; exact List.mem_cons_of_mem _ List.mem_cons_self)) q
          · rcases List.mem_cons.mp hz with w | w
            · rw [w]
              exact ⟨_, d8, fun v w => by cases w⟩
            · rw [List.mem_singleton.mp w]
              obtain ⟨o, es, ep, w1, w2, _⟩ := id c8
              exact ⟨o, w1, fun v w => by rw [w2] at w; cases w⟩
        have go8 := kap _ zz
        cases n with
        | zero => exact go8.elim
        | succ n =>
          have jj : j' = j := by omega
          subst jj
          refine ⟨n, Nat.lt_succ_self n, j' + 1, gs', acc.push v, cc + 1, _, by omega, setGen_at g6, go8, d8, ?_, c8, ⟨og, nm, qn, k68 a og aD aC g1, g2, g3, g4⟩, ⟨mc, ln.at' fun o q => k68 _ o sD sC q, lx⟩, o6, b8⟩
          rw [Array.toList_push, List.take_add_one, hy]
          exact v5.append (.cons rv .nil)
      · -- the end
        intro _
        obtain ⟨H', hn0, o6, b6, un6, hok6, st6, qq⟩ := hp
        obtain ⟨q1, oD, q2, q3⟩ := st6 D List.mem_cons_self
        obtain ⟨z1, oC, z2, z3⟩ := st6 C (List.mem_cons_of_mem _ List.mem_cons_self)
        have d6 : s6.heap.get? D = some (lstObj acc cc) := by
          rw [q3, ← q2]
          exact d5
        have c6 : s6.heap.Ns C m := c5.at' fun o eo => by
          have w : some oC = some o := z2.symm.trans eo
          rw [z3, w]
        have v6 : Vals xs acc.toList := by
          have w := v5
          rw [List.take_of_length_le (by omega)] at w
          exact w
        have J : Inv X pins σ (upd H' D (.lst xs)) { s6.setGen g .finished with heap := h' } :=
          I1.drained scD hxs (hk _ _ d6) v6 .nil o6 (allBare_setGen (s := s6) b6 rfl) (un6.trans (Un.kept hk)) (hok6.kept hk) q1
        have nC : (upd H' D (.lst xs)) C = none := by
          rw [upd_ne (Ne.symm DC)]
          exact z1
        exact hRR D C _ m _ J (qq D q1) (c6.keeps hk) (I1.fpOk scC nC)
    · refine ⟨0, .fresh c, #[], 0, _, Nat.add_zero _, ?_, ⟨rfl, ?_⟩, eD, .nil, eC, isG.keeps k14, lim1.keeps k14, os4, by rw [gens4]; exact bare1⟩
      · rw [gens4]
        exact hgs
      · refine wake X.A.in1 [D, C] (s4.setGen g .running) hr.in1 I1.ok.frames (fun z hz => ?_) k14 os4 (allBare_setGen (s := s4) (by rw [gens4]; exact bare1) rfl)
        rcases List.mem_cons.mp hz with w | w
        · rw [w]
          exact ⟨Nat.le_of_eq hD, _, eD, fun v w => by cases w⟩
        · rw [List.mem_singleton.mp w]
          obtain ⟨o, es, ep, w1, w2, _⟩ := id eC
          exact ⟨by rw [hCD, hD]; exact Nat.le_succ D, o, w1, fun v w => by rw [w2] at w; cases w⟩
  exact codeAny_compStart_list loop (wpAny_pyIter_gen (isG.keeps k14) loop)
/-- y = [x for x in g()] -/
theorem ps_setLcY {i : Nat} {y : Str} {py spos : Pos} (h : PY X k e tg E0) (hr : Room (k + 1) X.A) (hN : X.N.Nodup) (hy : X.N[i]? = some y) (hyl : X.env.scope.names.lookup y = some .local) (hsw : swapsWith (.ListComp (.Name x pe) [⟨.Name x px, e, [], 0⟩] scope pos) (some (.Name y py)) spos.line X.env = pure true)
    (hk : scope.kind = .function) (hu : ∀ y ∈ scope.names, scope.names.lookup y.1 = some y.2) (hf : ∀ y ∈ scope.names, y.2 ≠ .free) (hx : scope.names.lookup x = some .local)
    (hs : ∀ v, foldedSetIterable e X.env v = pure v := by intro _; rfl) (hd : (x == ("__debug__" : Str)) = false := by decide) :
    PS X (.Assign [.Name y py] (.ListComp (.Name x pe) [⟨.Name x px, e, [], 0⟩] scope pos) spos) (tAsg (fun σ H Q => ∃ xs : List V, xs.length ≤ sizeLine ∧ tg σ H xs fun H2 => ∀ p, H2 p = none → Q (.ref p) (upd H2 p (.lst xs))) (gName i)) := by
  refine ⟨fun pins s σ H D I hq => ?_⟩
  rw [exec_Assign_Name_used _ _ _ _ hsw]
  refine wpAny_bind (wpAny_standAt (wpAny_bind ?_))
  show wpAny _ X.A (do let _ ← comprehension (.ListComp (.Name x pe) [⟨.Name x px, e, [], 0⟩] scope pos) scope X.env (firstIterPos [⟨.Name x px, e, [], 0⟩] pos) (newList []) false (eval e X.env) (some (assign (.Name y py) X.env))) _ _ s
  refine wpAny_bind (thn (lcY_core (Q := fun v H1 => gName i v σ H1 D.nx) (Qf := fun _ s' => SP X pins D .next s') h hr hk hu hf hx hs hd I hq fun L C s' m H' I' q hn f => ?_) fun _ s' hq => wpAny_pure (wpAny_pure hq))
  show wpAny _ _ (assign (.Name y py) X.env (.ref L)) _ _ _
  refine wpAny_assign_Name (store_ok2 (v := V.ref L) I' hN hy (.inl hyl) rfl (fun s2 I2 ha => ?_) (.inr hyl))
  obtain ⟨a, sb, ha⟩ := ha
  obtain ⟨f0, f1, f2, f3, f4, f5⟩ := f
  have haC : C ≠ a := by
    rcases ha with z | z
    · rw [z]; exact f1
    · exact fun e => f4 y a z e.symm
  refine ⟨m, hn.sameBut sb haC, fun h3 sb3 => ?_⟩
  exact ⟨_, H', I2.turned (t' := s2.toks) (fun b o hb e => (sb3.2 b hb).trans e) f0 f1 f3 f4 f5, q⟩
end
end L2

set_option Elab.async false
set_option linter.all false
set_option maxRecDepth 100000
set_option maxHeartbeats 1000000
/-! VxLq: == of two lists: data, or of different lengths. -/
namespace L2
open PySem PySem.Spec PyProof.Rows
section
variable {X : Cx}
def rEqS (K : PySem.W.Frag) : R2 := fun x y H Q => (∃ (a b : Addr) (xs ys : List V), x = .ref a ∧ y = .ref b ∧ SqL K H a xs ∧ SqL K H b ys ∧ xs.length ≠ ys.length ∧ Q (.bl false) H) ∨ rEqD K x y H Q
theorem op_eqS (h64 : X.A.units + 64 < cLine) : OpR X (compareOp .Eq) (rEqS X.K) := by
  intro pins s σ H x y v u Q I rx ry h
  have hu : X.A.units < cLine := by omega
  rcases h with h | h
  · obtain ⟨a, b, xs, ys, rfl, rfl, ha, hb, ne, q⟩ := h
    cases rx
    cases ry
    obtain ⟨us, r1, p1, _⟩ := I.list ha
    obtain ⟨ws, r2, p2, _⟩ := I.list hb
    refine SeqAt.eq_list_lengthsAt p1.isList p2.isList ?_ hu ⟨.bl false, H, I, rfl, q⟩
    have e1 := r1.length
    have e2 := r2.length
    rw [bne_iff_ne]
    intro z
    apply ne
    have z' : us.length = ws.length := by simpa using z
    omega
  · exact op_eqD h64 pins s σ H x y v u Q I rx ry h
end
end L2

set_option Elab.async false
set_option linter.all false
set_option maxRecDepth 100000
set_option maxHeartbeats 1000000
/-! VxNp: [text, v] != [text, v]: one text, one v. -/
namespace L2
open PySem PySem.Spec PyProof.Rows
section
variable {X : Cx}
def eqOk : V → Bool
  | .ref _ => true
  | .non => true
  | .int _ => true
  | .str _ => true
  | _ => false
def rNeP (K : PySem.W.Frag) : R2 := fun x y H Q => ∃ (a b : Addr) (z : Str) (v : V), x = .ref a ∧ y = .ref b ∧ SqL K H a [.str z, v] ∧ SqL K H b [.str z, v] ∧ eqOk v = true ∧ Q (.bl false) H
theorem eq_one {A : Around} {s : Shared} {v : V} {u w : Value} (h : eqOk v = true) (r1 : RelV v u) (r2 : RelV v w) : SeqAt.EqAt A s u w true := by
  cases v with
  | ref a =>
    cases r1
    cases r2
    exact SeqAt.EqAt.same _
  | non =>
    cases r1
    cases r2
    exact SeqAt.EqAt.same _
  | int i =>
    obtain ⟨t, rfl⟩ := r1
    obtain ⟨t2, rfl⟩ := r2
    have z := SeqAt.EqAt.int_int (A := A) (s := s) i t i t2
    rw [beq_self_eq_true] at z
    exact z
  | str i =>
    obtain ⟨t, rfl⟩ := r1
    obtain ⟨t2, rfl⟩ := r2
    have z := SeqAt.EqAt.str_str (A := A) (s := s) i t i t2
    rw [beq_self_eq_true] at z
    exact z
  | _ => cases h
theorem op_neP (hu : X.A.units < cLine) : OpR X (compareOp .NotEq) (rNeP X.K) := by
  intro pins s σ H x y v u Q I rx ry h
  obtain ⟨a, b, z, v, rfl, rfl, ha, hb, hv, q⟩ := h
  cases rx
  cases ry
  obtain ⟨us, r1, p1, _⟩ := I.list ha
  obtain ⟨ws, r2, p2, _⟩ := I.list hb
  cases r1 with
  | cons a1 r1 =>
    cases r1 with
    | cons a2 r1 =>
      cases r1
      cases r2 with
      | cons b1 r2 =>
        cases r2 with
        | cons b2 r2 =>
          cases r2
          refine SeqAt.RcNeAt.lists (e := fun _ => true) p1.isList p2.isList rfl hu (fun j h1 h2 => ?_) X.prog X.w _ _ ?_
          · match j, h1, h2 with
            | 0, _, _ => exact eq_one (v := .str z) rfl a1 b1
            | 1, _, _ => exact eq_one hv a2 b2
          · exact ⟨.bl false, H, I, rfl, q⟩
end
end L2

set_option Elab.async false
set_option linter.all false
set_option maxRecDepth 100000
set_option maxHeartbeats 1000000
/-! VxCu: t + u of tuples, u not empty: some tuple that holds both. -/
namespace L2
open PySem PySem.Spec PyProof.Rows StX
section
variable {X : Cx}
def rCatU (K : PySem.W.Frag) : R2 := fun x y H Q => ∃ (a b : Addr) (xs ys : List V), x = .ref a ∧ y = .ref b ∧ SqT K H a xs ∧ SqT K H b ys ∧ ys ≠ [] ∧ xs.length + ys.length ≤ sizeLine ∧ ∀ p H', Same H H' → SqT K H' p (xs ++ ys) → Q (.ref p) H'
theorem op_catU : OpR X (binaryOp .Add) (rCatU X.K) := by
  intro pins s σ H x y v u Q I rx ry h
  obtain ⟨a, b, xs, ys, rfl, rfl, ha, hb, ny, hl, q⟩ := h
  exact op_catA pins s σ H _ _ v u Q I rx ry ⟨a, b, xs, ys, rfl, rfl, ha, hb, hl, fun e => by subst e; exact q b H Same.refl' hb, fun _ e => absurd e ny, fun _ _ p np => q p _ (same_new np) (SqT.of upd_same)⟩
end
end L2

set_option Elab.async false
set_option linter.all false
set_option maxRecDepth 100000
set_option maxHeartbeats 2000000
namespace Kb
open PySem PySem.Spec PyProof.Rows L2
def top (i : Nat) : Stmt := PySem.Challenge.pw_brinejar_k04_books.main.body.getD i (.Pass ⟨0, 0, 0, 0⟩)
abbrev FnP (K : PySem.W.Frag) (x : Str) (st : Stmt) (f : Addr) (fd : FuncData) : Prop := FunD K x x (defArgs st) (defBody st) (defScope st) [] [] f fd
abbrev gC (K : PySem.W.Frag) (x : Str) : Addr := He.ga K x
abbrev CN (K : PySem.W.Frag) : Addr := gC K "Node"
/-- 10 ** 300 -/
def big : Int := (10 ^ 60) ^ 5
def isI : PyData → Bool
  | .int _ => true
  | _ => false
def isT : PyData → Bool
  | .str x => decide (x.length ≤ 2000)
  | _ => false
def isK : PyData → Bool
  | .int i => decide (-big < i) && decide (i < big)
  | .str x => decide (x.length ≤ 2000)
  | _ => false
def isA : PyData → Bool
  | .none => true
  | .bool _ => true
  | d => isK d
def fits (d : PyData) : Prop := ∀ x, d = .str x → x.length ≤ sizeLine
/-- a test of data, of a thing -/
def onT (t : PyData → Bool) (n : Bool) : Tk → Bool
  | .dat d => t d
  | .nod _ => n
def fitsT : Tk → Prop
  | .dat d => fits d
  | .nod _ => True
def spTest (K : PySem.W.Frag) (t : PyData → Bool) (n : Bool) : Sp := fun vs H Q _ => ∃ (v : V) (k : Tk), vs = [v] ∧ Tv K (CN K) H v k ∧ fitsT k ∧ Q (.bl (onT t n k)) H
section
variable {P : Program} {w : World} {K : PySem.W.Frag} {mg : Str → Option Value} {base : Heap}
abbrev sIsInt : Stmt := top 4
abbrev sIsText : Stmt := top 5
abbrev sIsKey : Stmt := top 6
abbrev sIsAtom : Stmt := top 7
abbrev sIsVal : Stmt := top 20
theorem scIsInt : FnScope ["thing"] ["thing"] (defScope sIsInt) := ⟨rfl, rfl, rfl, by decide +kernel, rfl, by decide +kernel, by decide +kernel⟩
theorem scIsText : FnScope ["thing"] ["thing"] (defScope sIsText) := ⟨rfl, rfl, rfl, by decide +kernel, rfl, by decide +kernel, by decide +kernel⟩
theorem scIsKey : FnScope ["thing"] ["thing"] (defScope sIsKey) := ⟨rfl, rfl, rfl, by decide +kernel, rfl, by decide +kernel, by decide +kernel⟩
theorem scIsAtom : FnScope ["thing"] ["thing"] (defScope sIsAtom) := ⟨rfl, rfl, rfl, by decide +kernel, rfl, by decide +kernel, by decide +kernel⟩
theorem scIsVal : FnScope ["thing"] ["thing"] (defScope sIsVal) := ⟨rfl, rfl, rfl, by decide +kernel, rfl, by decide +kernel, by decide +kernel⟩
/-- the built-in names and the constants -/
structure Nm (K : PySem.W.Frag) (mg : Str → Option Value) : Prop where
  isi : mg "isinstance" = none
  int : mg "int" = none
  bool : mg "bool" = none
  str : mg "str" = none
  tuple : mg "tuple" = none
  len : mg "len" = none
  all : mg "all" = none
  list : mg "list" = none
  repr : mg "repr" = none
  rng : mg "range" = none
  min : mg "min" = none
  atom : ∃ t, mg "ATOM_LIMIT" = some (.int big t)
  text : ∃ t, mg "TEXT_LIMIT" = some (.int 2000 t)
  node : mg "Node" = some (.ref (CN K))
  dat : DatN K (CN K)
theorem ok_isInt {f : Addr} {fd : FuncData} (F : FnP K "is_integer" sIsInt f fd) (N : Nm K mg) : FnOk P w K mg base CX0 1 f fd ["thing"] (spTest K isI false) := by
  refine F.ok scIsInt (fun vs H Q E h => ?_) (fun cdv A outer s H vs Q E hr h => ?_)
  · obtain ⟨v, d, rfl, _⟩ := h
    rfl
  · refine ⟨_, PSs.nox (pss_one (ps_ret (pe_and (pe_callB (call_isTk (CN := CN K)) (by rfl) N.isi (by decide +kernel) (pa_cons (pv 0) (pa_cons (pe_bltn (v := .ty "int") (by rfl) N.int (by decide +kernel) rfl) pa_nil)))
      (pe_one (pe_not (pe_callB (call_isTk (CN := CN K)) (by rfl) N.isi (by decide +kernel) (pa_cons (pv 0) (pa_cons (pe_bltn (v := .ty "bool") (by rfl) N.bool (by decide +kernel) rfl) pa_nil)))))))), ?_⟩
    obtain ⟨v, k, rfl, hv, hf, q⟩ := h
    refine ⟨_, rfl, v, k, "int", rfl, rfl, hv, _, rfl, ?_⟩
    cases k with
    | nod C => exact q
    | dat d =>
      cases d with
      | int i => exact ⟨_, rfl, v, _, "bool", rfl, rfl, hv, _, rfl, q⟩
      | bool b => exact ⟨_, rfl, v, _, "bool", rfl, rfl, hv, _, rfl, q⟩
      | none => exact q
      | str _ => exact q
      | list _ => exact q
      | tuple _ => exact q
      | dict _ => exact q
theorem ok_isText {f : Addr} {fd : FuncData} (F : FnP K "is_text" sIsText f fd) (N : Nm K mg) : FnOk P w K mg base CX0 1 f fd ["thing"] (spTest K isT false) := by
  obtain ⟨tt, gt⟩ := N.text
  refine F.ok scIsText (fun vs H Q E h => ?_) (fun cdv A outer s H vs Q E hr h => ?_)
  · obtain ⟨v, d, rfl, _⟩ := h
    rfl
  · refine ⟨_, PSs.nox (pss_one (ps_ret (pe_and (pe_callB (call_isTk (CN := CN K)) (by rfl) N.isi (by decide +kernel) (pa_cons (pv 0) (pa_cons (pe_bltn (v := .ty "str") (by rfl) N.str (by decide +kernel) rfl) pa_nil)))
      (pe_one (pe_cmpR op_le (pe_callB call_len (by rfl) N.len PySem.boot_len (pa_cons (pv 0) pa_nil)) (pe_glob (v := .int 2000) (by rfl) gt ⟨_, rfl⟩) (nomark _)))))), ?_⟩
    obtain ⟨v, k, rfl, hv, hf, q⟩ := h
    refine ⟨_, rfl, v, k, "str", rfl, rfl, hv, _, rfl, ?_⟩
    cases k with
    | nod C => exact q
    | dat d =>
      cases d with
      | str x =>
        cases hv
        refine ⟨_, rfl, _, x.length, rfl, ⟨hf x rfl, rfl⟩, _, _, rfl, rfl, ?_⟩
        have e : decide ((x.length : Int) ≤ 2000) = onT isT false (.dat (.str x)) := by
          show _ = decide (x.length ≤ 2000)
          rw [Bool.eq_iff_iff, decide_eq_true_iff, decide_eq_true_iff]
          omega
        rw [← e] at q
        exact q
      | int i => exact q
      | bool b => exact q
      | none => exact q
      | list _ => exact q
      | tuple _ => exact q
      | dict _ => exact q
/-- the tests that the package has -/
structure Ts (K : PySem.W.Frag) (mg : Str → Option Value) : Prop where
  isI : ∃ f fd, FnP K "is_integer" sIsInt f fd ∧ mg "is_integer" = some (.ref f)
  isT : ∃ f fd, FnP K "is_text" sIsText f fd ∧ mg "is_text" = some (.ref f)
  isK : ∃ f fd, FnP K "is_key" sIsKey f fd ∧ mg "is_key" = some (.ref f)
  isA : ∃ f fd, FnP K "is_atom" sIsAtom f fd ∧ mg "is_atom" = some (.ref f)
  isV : ∃ f fd, FnP K "is_atom_or_node" sIsVal f fd ∧ mg "is_atom_or_node" = some (.ref f)
theorem ok_isKey {f : Addr} {fd : FuncData} (F : FnP K "is_key" sIsKey f fd) (T : Ts K mg) (N : Nm K mg) : FnOk P w K mg base CX0 2 f fd ["thing"] (spTest K isK false) := by
  obtain ⟨fi, fdi, FI, gI⟩ := T.isI
  obtain ⟨ft, fdt, FT, gT⟩ := T.isT
  have GI : FnOk P w K mg base CX0 1 fi fdi ["thing"] (spTest K isI false) := ok_isInt FI N
  have GT : FnOk P w K mg base CX0 1 ft fdt ["thing"] (spTest K isT false) := ok_isText FT N
  have bI : Binds K fdi ["thing"] [] := FI.bindsN fun _ _ _ _ _ _ us hl => match us, hl with | [_], _ => rfl
  have bT : Binds K fdt ["thing"] [] := FT.bindsN fun _ _ _ _ _ _ us hl => match us, hl with | [_], _ => rfl
  obtain ⟨ta, ga⟩ := N.atom
  refine F.ok scIsKey (fun vs H Q E h => ?_) (fun cdv A outer s H vs Q E hr h => ?_)
  · obtain ⟨v, d, rfl, _⟩ := h
    rfl
  · refine ⟨_, PSs.nox (pss_cons (ps_if (pt_val (pe_call GI hr (by rfl) gI FI.kp bI .nil pass0 (pa_cons (pv 0) pa_nil)))
        (pss_one (ps_ret (pe_chain op_lt op_lt (pe_un un_neg (pe_glob (v := .int big) (by rfl) ga ⟨_, rfl⟩)) (pv 0) (pe_glob (v := .int big) (by rfl) ga ⟨_, rfl⟩)))) pss_nil)
      (pss_one (ps_ret (pe_call GT hr (by rfl) gT FT.kp bT .nil pass0 (pa_cons (pv 0) pa_nil))))), ?_⟩
    obtain ⟨v, k, rfl, hv, hf, q⟩ := h
    refine ⟨_, rfl, v, k, rfl, hv, hf, _, rfl, ?_⟩
    cases k with
    | nod C => exact ⟨_, rfl, v, _, rfl, hv, hf, q⟩
    | dat d =>
      cases d with
      | int i =>
        cases hv
        refine iteT ?_
        refine ⟨_, rfl, _, rfl, _, _, rfl, rfl, _, rfl, ?_⟩
        by_cases c : -big < i
        · rw [decide_eq_true c]
          refine iteT ?_
          refine ⟨_, _, rfl, rfl, ?_⟩
          have e : onT isK false (.dat (.int i)) = decide (i < big) := by
            show (decide (-big < i) && decide (i < big)) = _
            rw [decide_eq_true c, Bool.true_and]
          rw [e] at q
          exact q
        · rw [decide_eq_false c]
          refine iteF ?_
          have e : onT isK false (.dat (.int i)) = false := by
            show (decide (-big < i) && decide (i < big)) = _
            rw [decide_eq_false c, Bool.false_and]
          rw [e] at q
          exact q
      | str x => exact ⟨_, rfl, v, _, rfl, hv, hf, q⟩
      | bool b => exact ⟨_, rfl, v, _, rfl, hv, hf, q⟩
      | none => exact ⟨_, rfl, v, _, rfl, hv, hf, q⟩
      | list _ => exact ⟨_, rfl, v, _, rfl, hv, hf, q⟩
      | tuple _ => exact ⟨_, rfl, v, _, rfl, hv, hf, q⟩
      | dict _ => exact ⟨_, rfl, v, _, rfl, hv, hf, q⟩
theorem non_of {CN : Addr} {H : Hp} {v : V} {k : Tk} (h : Tv K CN H v k) : (v = V.non ∧ k = .dat .none) ∨ (v ≠ V.non ∧ k ≠ .dat .none) := by
  cases k with
  | nod C =>
    obtain ⟨_, a, _, _, rfl, _⟩ := h
    exact .inr ⟨(fun z => nomatch z), (fun z => nomatch z)⟩
  | dat d =>
    have h' : Sd K H v d := h
    cases h' with
    | non => exact .inl ⟨rfl, rfl⟩
    | bl b => exact .inr ⟨(fun z => nomatch z), (fun z => nomatch z)⟩
    | int b => exact .inr ⟨(fun z => nomatch z), (fun z => nomatch z)⟩
    | str b => exact .inr ⟨(fun z => nomatch z), (fun z => nomatch z)⟩
    | lst _ _ => exact .inr ⟨(fun z => nomatch z), (fun z => nomatch z)⟩
    | tup _ _ => exact .inr ⟨(fun z => nomatch z), (fun z => nomatch z)⟩
    | emp _ => exact .inr ⟨(fun z => nomatch z), (fun z => nomatch z)⟩
    | one _ _ => exact .inr ⟨(fun z => nomatch z), (fun z => nomatch z)⟩
theorem ok_isAtom {f : Addr} {fd : FuncData} (F : FnP K "is_atom" sIsAtom f fd) (T : Ts K mg) (N : Nm K mg) : FnOk P w K mg base CX0 3 f fd ["thing"] (spTest K isA false) := by
  obtain ⟨fk, fdk, FK, gK⟩ := T.isK
  have GK : FnOk P w K mg base CX0 2 fk fdk ["thing"] (spTest K isK false) := ok_isKey FK T N
  have bK : Binds K fdk ["thing"] [] := FK.bindsN fun _ _ _ _ _ _ us hl => match us, hl with | [_], _ => rfl
  refine F.ok scIsAtom (fun vs H Q E h => ?_) (fun cdv A outer s H vs Q E hr h => ?_)
  · obtain ⟨v, d, rfl, _⟩ := h
    rfl
  · refine ⟨_, PSs.nox (pss_one (ps_ret (pe_or (pe_cmp (pc_isN (pv 0))) (pe_or (pe_callB (call_isTk (CN := CN K)) (by rfl) N.isi (by decide +kernel) (pa_cons (pv 0) (pa_cons (pe_bltn (v := .ty "bool") (by rfl) N.bool (by decide +kernel) rfl) pa_nil)))
      (pe_one (pe_call GK hr (by rfl) gK FK.kp bK .nil pass0 (pa_cons (pv 0) pa_nil))))))), ?_⟩
    obtain ⟨v, k, rfl, hv, hf, q⟩ := h
    rcases non_of hv with ⟨rfl, rfl⟩ | ⟨n1, n2⟩
    · exact ⟨_, rfl, true, by rw [decide_eq_true rfl], iteT q⟩
    · refine ⟨_, rfl, false, by rw [decide_eq_false n1], iteF ⟨_, rfl, v, k, "bool", rfl, rfl, hv, _, rfl, ?_⟩⟩
      cases k with
      | nod C => exact iteF ⟨_, rfl, v, _, rfl, hv, hf, q⟩
      | dat d =>
        cases d with
        | none => exact absurd rfl n2
        | bool b => exact iteT q
        | int i => exact iteF ⟨_, rfl, v, _, rfl, hv, hf, q⟩
        | str x => exact iteF ⟨_, rfl, v, _, rfl, hv, hf, q⟩
        | list _ => exact iteF ⟨_, rfl, v, _, rfl, hv, hf, q⟩
        | tuple _ => exact iteF ⟨_, rfl, v, _, rfl, hv, hf, q⟩
        | dict _ => exact iteF ⟨_, rfl, v, _, rfl, hv, hf, q⟩
theorem ok_isVal {f : Addr} {fd : FuncData} (F : FnP K "is_atom_or_node" sIsVal f fd) (T : Ts K mg) (N : Nm K mg) : FnOk P w K mg base CX0 4 f fd ["thing"] (spTest K isA true) := by
  obtain ⟨fk, fdk, FK, gK⟩ := T.isA
  have GK : FnOk P w K mg base CX0 3 fk fdk ["thing"] (spTest K isA false) := ok_isAtom FK T N
  have bK : Binds K fdk ["thing"] [] := FK.bindsN fun _ _ _ _ _ _ us hl => match us, hl with | [_], _ => rfl
  refine F.ok scIsVal (fun vs H Q E h => ?_) (fun cdv A outer s H vs Q E hr h => ?_)
  · obtain ⟨v, d, rfl, _⟩ := h
    rfl
  · refine ⟨_, PSs.nox (pss_one (ps_ret (pe_or (pe_call GK hr (by rfl) gK FK.kp bK .nil pass0 (pa_cons (pv 0) pa_nil))
      (pe_one (pe_callB (call_isN N.dat) (by rfl) N.isi (by decide +kernel) (pa_cons (pv 0) (pa_cons (pe_glob (v := .ref (CN K)) (by rfl) N.node rfl) pa_nil))))))), ?_⟩
    obtain ⟨v, k, rfl, hv, hf, q⟩ := h
    refine ⟨_, rfl, v, k, rfl, hv, hf, _, rfl, ?_⟩
    cases k with
    | nod C => exact iteF ⟨_, rfl, v, _, rfl, hv, q⟩
    | dat d =>
      cases e : isA d with
      | true =>
        have q' : Q (.bl (isA d)) H := q
        rw [e] at q'
        show if isA d = true then _ else _
        rw [e]
        exact iteT q'
      | false =>
        have q' : Q (.bl (isA d)) H := q
        rw [e] at q'
        show if isA d = true then _ else _
        rw [e]
        exact iteF ⟨_, rfl, v, _, rfl, hv, q'⟩
theorem yesT {σ : L2.St} {H : Hp} {A B : Hp → Prop} (h : A H) : tYes σ H fun b H3 => if b = true then A H3 else B H3 := @iteT (A H) (B H) h
theorem same_updN {H H' : Hp} {p : Addr} {o : HO} (s : Same H H') (n : H p = none) : Same H (upd H' p o) := fun b u e => by
  rw [upd_ne (ne_of_none e n)]
  exact s b u e
end
end Kb

set_option Elab.async false
set_option linter.all false
set_option maxRecDepth 100000
set_option maxHeartbeats 2000000
namespace Kb
open PySem PySem.Spec PyProof.Rows L2 StX
theorem sdall_len {K : PySem.W.Frag} {H : Hp} : ∀ {xs : List V} {ds : List PyData}, SdAll K H xs ds → xs.length = ds.length
  | _, _, .nil => rfl
  | _, _, .cons _ h => by rw [List.length_cons, List.length_cons, sdall_len h]
theorem sdall_get {K : PySem.W.Frag} {H : Hp} : ∀ {xs : List V} {ds : List PyData} {i : Nat} {x : V}, SdAll K H xs ds → xs[i]? = some x → ∃ d, ds[i]? = some d ∧ Sd K H x d
  | _, _, 0, _, .cons h _, e => by
    cases e
    exact ⟨_, rfl, h⟩
  | _, _, i + 1, _, .cons _ h, e => sdall_get (i := i) h e
theorem sqT_to {K : PySem.W.Frag} {H H' : Hp} {a : Addr} {xs : List V} (s : Same H H') (h : SqT K H a xs) : SqT K H' a xs := by
  rcases h with h | h
  · rcases h with h | ⟨o, h⟩
    · exact .inl (.inl (s _ _ h))
    · exact .inl (.inr ⟨o, s _ _ h⟩)
  · exact .inr h
theorem sd_to {K : PySem.W.Frag} {H H' : Hp} {v : V} {d : PyData} (h : Sd K H v d) (s : Same H H') : Sd K H' v d := Sd.same s (fun z => sqT_to s z) h
theorem sdall_to {K : PySem.W.Frag} {H H' : Hp} {xs : List V} {ds : List PyData} (h : SdAll K H xs ds) (s : Same H H') : SdAll K H' xs ds := SdAll.same s (fun z => sqT_to s z) h
/-- the error with the object, to be raised at a heap that has grown -/
def Err (C : Addr) (fld : Str) (v : V) (H : Hp) (E : XK) : Prop := ∀ dd H', H dd = none → Same H H' → H' dd = some (.xd [(fld, v)]) → E (.ref C) (some dd) H'
theorem none_of {H H' : Hp} {b : Addr} (s : Same H H') (n : H' b = none) : H b = none := by
  cases e : H b with
  | none => rfl
  | some o =>
    rw [s _ _ e] at n
    cases n
theorem err_to {C : Addr} {f : Str} {v : V} {H H' : Hp} {E : XK} (s : Same H H') (h : Err C f v H E) : Err C f v H' E := fun dd H2 n s2 x => h dd H2 (none_of s n) (s.tr s2) x
theorem tv_to {K : PySem.W.Frag} {C : Addr} {H H' : Hp} {v : V} {k : Tk} (h : Tv K C H v k) (s : Same H H') : Tv K C H' v k := by
  cases k with
  | dat d => exact sd_to (show Sd K H v d from h) s
  | nod D =>
    obtain ⟨n, a, dx, fs, e, ha⟩ := h
    exact ⟨n, a, dx, fs, e, s _ _ ha⟩
/-- values, things -/
inductive TvAll (K : PySem.W.Frag) (C : Addr) (H : Hp) : List V → List Tk → Prop
  | nil : TvAll K C H [] []
  | cons {v : V} {k : Tk} {vs : List V} {ks : List Tk} : Tv K C H v k → TvAll K C H vs ks → TvAll K C H (v :: vs) (k :: ks)
theorem tvall_to {K : PySem.W.Frag} {C : Addr} {H H' : Hp} (s : Same H H') : ∀ {vs : List V} {ks : List Tk}, TvAll K C H vs ks → TvAll K C H' vs ks
  | _, _, .nil => .nil
  | _, _, .cons h t => .cons (tv_to h s) (tvall_to s t)
theorem tvall_len {K : PySem.W.Frag} {C : Addr} {H : Hp} : ∀ {vs : List V} {ks : List Tk}, TvAll K C H vs ks → vs.length = ks.length
  | _, _, .nil => rfl
  | _, _, .cons _ t => by rw [List.length_cons, List.length_cons, tvall_len t]
theorem tvall_get {K : PySem.W.Frag} {C : Addr} {H : Hp} : ∀ {vs : List V} {ks : List Tk} {i : Nat} {v : V}, TvAll K C H vs ks → vs[i]? = some v → ∃ k, ks[i]? = some k ∧ Tv K C H v k
  | _, _, 0, _, .cons h _, e => by
    cases e
    exact ⟨_, rfl, h⟩
  | _, _, i + 1, _, .cons _ t, e => tvall_get (i := i) t e
/-- the first of them that is no value -/
def okT (k : Tk) : Bool := onT isA true k
def badAt : List Tk → Option Nat
  | [] => none
  | k :: r => if okT k = true then (badAt r).map (· + 1) else some 0
/-- v is required to be a value -/
def spReq (K : PySem.W.Frag) (CE : Addr) : Sp := fun vs H Q E => ∃ (v : V) (k : Tk), vs = [v] ∧ Tv K (CN K) H v k ∧ fitsT k ∧ (okT k = true → Q .non H) ∧ (okT k = false → Err CE "value" v H E)
def spReqs (K : PySem.W.Frag) (CE : Addr) : Sp := fun vs H Q E => ∃ (t : Addr) (ws : List V) (ks : List Tk), vs = [.ref t] ∧ SqT K H t ws ∧ TvAll K (CN K) H ws ks ∧ (∀ k ∈ ks, fitsT k) ∧ (badAt ks = none → Q .non H) ∧ (∀ n v, badAt ks = some n → ws[n]? = some v → Err CE "value" v H E)
/-- v is required to be a key -/
def keyT (k : Tk) : Bool := onT isK false k
def spReqK (K : PySem.W.Frag) (CE : Addr) : Sp := fun vs H Q E => ∃ (v : V) (k : Tk), vs = [v] ∧ Tv K (CN K) H v k ∧ fitsT k ∧ (keyT k = true → Q .non H) ∧ (keyT k = false → Err CE "key" v H E)
section
variable {P : Program} {w : World} {K : PySem.W.Frag} {mg : Str → Option Value} {base : Heap}
abbrev sReq : Stmt := top 21
abbrev sReqs : Stmt := top 22
abbrev sReqK : Stmt := top 24
theorem scReq : FnScope ["value"] ["value"] (defScope sReq) := ⟨rfl, rfl, rfl, by decide +kernel, rfl, by decide +kernel, by decide +kernel⟩
theorem scReqs : FnScope ["parts", "part"] ["parts"] (defScope sReqs) := ⟨rfl, rfl, rfl, by decide +kernel, rfl, by decide +kernel, by decide +kernel⟩
theorem scReqK : FnScope ["key"] ["key"] (defScope sReqK) := ⟨rfl, rfl, rfl, by decide +kernel, rfl, by decide +kernel, by decide +kernel⟩
/-- the error classes -/
structure Es (P : Program) (w : World) (K : PySem.W.Frag) (mg : Str → Option Value) (base : Heap) : Prop where
  val : XK1 P w K mg base "InvalidValue" "value" (gC K "InvalidValue")
  key : XK1 P w K mg base "InvalidKey" "key" (gC K "InvalidKey")
  taken : XK1 P w K mg base "KeyTaken" "key" (gC K "KeyTaken")
  noE : XK1 P w K mg base "NoEntry" "key" (gC K "NoEntry")
/-- the package's defs that require -/
structure Rq (K : PySem.W.Frag) (mg : Str → Option Value) : Prop where
  req : ∃ f fd, FnP K "require_value" sReq f fd ∧ mg "require_value" = some (.ref f)
  reqs : ∃ f fd, FnP K "require_values" sReqs f fd ∧ mg "require_values" = some (.ref f)
  reqK : ∃ f fd, FnP K "require_key" sReqK f fd ∧ mg "require_key" = some (.ref f)
theorem ok_req {f : Addr} {fd : FuncData} (F : FnP K "require_value" sReq f fd) (N : Nm K mg) (T : Ts K mg) (S : Es P w K mg base) : FnOk P w K mg base (L2.CX P w) 5 f fd ["value"] (spReq K (gC K "InvalidValue")) := by
  obtain ⟨fk, dk, FK, gK⟩ := T.isV
  have GK : FnOk P w K mg base CX0 4 fk dk ["thing"] (spTest K isA true) := ok_isVal FK T N
  have bK : Binds K dk ["thing"] [] := FK.bindsN fun _ _ _ _ _ _ us hl => match us, hl with | [_], _ => rfl
  refine F.ok scReq (fun vs H Q E h => ?_) (fun cdv A outer s H vs Q E hr h => ?_)
  · obtain ⟨v, d, rfl, _⟩ := h
    rfl
  · refine ⟨_, pss_one (ps_if (pt_not (pt_val (pe_call GK hr (by rfl) gK FK.kp bK .nil pass0 (pa_cons (pv 0) pa_nil)))) (pss_one (ps_x1 rfl (takes_of rfl rfl rfl rfl) S.val (hr.mono (by decide)) (by rfl) (pv 0))) pss_nil), ?_⟩
    obtain ⟨v, k, rfl, hv, hf, k1, k2⟩ := h
    refine ⟨_, rfl, v, k, rfl, hv, hf, _, rfl, ?_⟩
    cases e : onT isA true k with
    | true => exact iteF (k1 e)
    | false => exact iteT ⟨_, rfl, v, rfl, fun dd H' n s x => k2 e dd H' n s x⟩
theorem bad_step : ∀ (ks : List Tk) (i : Nat) (k : Tk), ks[i]? = some k → (∀ j : Nat, j < i → ∀ x, ks[j]? = some x → okT x = true) → okT k = false → badAt ks = some i
  | [], i, k, e, _, _ => by cases e
  | k0 :: r, 0, k, e, _, h => by
    cases e
    unfold badAt
    rw [h]
    rfl
  | k0 :: r, i + 1, k, e, h1, h => by
    have e0 : okT k0 = true := h1 0 (Nat.succ_pos _) k0 rfl
    have e1 := bad_step r i k e (fun j hj x hx => h1 (j + 1) (Nat.succ_lt_succ hj) x hx) h
    unfold badAt
    rw [e0, e1]
    rfl
theorem bad_none : ∀ (ks : List Tk), (∀ (j : Nat) x, ks[j]? = some x → okT x = true) → badAt ks = none
  | [], _ => rfl
  | k0 :: r, h => by
    unfold badAt
    rw [h 0 k0 rfl, bad_none r fun j x hx => h (j + 1) x hx]
    rfl
theorem ok_reqs {f : Addr} {fd : FuncData} (F : FnP K "require_values" sReqs f fd) (N : Nm K mg) (T : Ts K mg) (S : Es P w K mg base) (R : Rq K mg) : FnOk P w K mg base (L2.CX P w) 6 f fd ["parts"] (spReqs K (gC K "InvalidValue")) := by
  obtain ⟨fk, dk, FK, gK⟩ := R.req
  have GK : FnOk P w K mg base (L2.CX P w) 5 fk dk ["value"] (spReq K (gC K "InvalidValue")) := ok_req FK N T S
  have bK : Binds K dk ["value"] [] := FK.bindsN fun _ _ _ _ _ _ us hl => match us, hl with | [_], _ => rfl
  refine F.ok scReqs (fun vs H Q E h => ?_) (fun cdv A outer s H vs Q E hr h => ?_)
  · obtain ⟨t, ws, ks, rfl, _⟩ := h
    rfl
  · refine ⟨_, pss_one (ps_for (passes_of rfl) rfl (pi_tup (pv 0)) (pg_name (i := 1) scReqs.nd rfl (Or.inl rfl))
        (pss_one (ps_expr (pe_callS GK hr (by rfl) gK FK.kp bK (fun σ => passAt (takes_of rfl rfl rfl rfl) σ) (pa_cons (pv 1) pa_nil))))), ?_⟩
    obtain ⟨t, ws, ks, rfl, ht, hk, hf, k1, k2⟩ := h
    have hlen := tvall_len hk
    refine ⟨_, rfl, t, rfl, ⟨ws, ht⟩, for_it (walk_tup (xs := ws)) (fun i σ H' => ∃ t3 : Option V, σ = [some (.ref t), t3] ∧ H' = H ∧ ∀ j : Nat, j < i → ∀ x, ks[j]? = some x → okT x = true) ⟨none, rfl, rfl, fun j hj => absurd hj (Nat.not_lt_zero _)⟩ (fun i σ H' _ z => ?_) ?_ ?_⟩
    · obtain ⟨_, _, rfl, _⟩ := z
      exact ht
    · rintro i x σ H' H'' hi ⟨t3, rfl, rfl, hb⟩ ⟨rfl, hx⟩
      obtain ⟨k, ek, tx⟩ := tvall_get hk hx
      refine ⟨_, rfl, x, k, rfl, tx, hf k (List.mem_of_getElem? ek), fun o => ⟨_, rfl, rfl, fun j hj y hy => ?_⟩, fun o => k2 i x (bad_step ks i k ek hb o) hx⟩
      rcases Nat.lt_or_ge j i with c | c
      · exact hb j c y hy
      · have e : j = i := by omega
        subst e
        rw [ek] at hy
        cases hy
        exact o
    · rintro σ H' ⟨t3, rfl, rfl, hb⟩
      refine k1 (bad_none ks fun j x hx => hb j ?_ x hx)
      rw [hlen]
      exact (List.getElem?_eq_some_iff.mp hx).1
theorem ok_reqK {f : Addr} {fd : FuncData} (F : FnP K "require_key" sReqK f fd) (N : Nm K mg) (T : Ts K mg) (S : Es P w K mg base) : FnOk P w K mg base (L2.CX P w) 5 f fd ["key"] (spReqK K (gC K "InvalidKey")) := by
  obtain ⟨fk, dk, FK, gK⟩ := T.isK
  have GK : FnOk P w K mg base CX0 2 fk dk ["thing"] (spTest K isK false) := ok_isKey FK T N
  have bK : Binds K dk ["thing"] [] := FK.bindsN fun _ _ _ _ _ _ us hl => match us, hl with | [_], _ => rfl
  refine F.ok scReqK (fun vs H Q E h => ?_) (fun cdv A outer s H vs Q E hr h => ?_)
  · obtain ⟨v, d, rfl, _⟩ := h
    rfl
  · refine ⟨_, pss_one (ps_if (pt_not (pt_val (pe_call GK (hr.mono (by decide)) (by rfl) gK FK.kp bK .nil pass0 (pa_cons (pv 0) pa_nil)))) (pss_one (ps_x1 rfl (takes_of rfl rfl rfl rfl) S.key (hr.mono (by decide)) (by rfl) (pv 0))) pss_nil), ?_⟩
    obtain ⟨v, k, rfl, hv, hf, k1, k2⟩ := h
    refine ⟨_, rfl, v, k, rfl, hv, hf, _, rfl, ?_⟩
    cases e : onT isK false k with
    | true => exact iteF (k1 e)
    | false => exact iteT ⟨_, rfl, v, rfl, fun dd H' n s x => k2 e dd H' n s x⟩
end
end Kb

set_option Elab.async false
set_option linter.all false
set_option maxRecDepth 100000
set_option maxHeartbeats 2000000
namespace Kb
open PySem PySem.Spec PyProof.Rows L2 StX ClX
abbrev sNode : Stmt := top 17
abbrev sRow : Stmt := top 18
abbrev sBook : Stmt := top 19
abbrev sShape : Stmt := inClass sNode 1
abbrev sChildren : Stmt := inClass sNode 2
abbrev sRowI : Stmt := inClass sRow 1
abbrev sItems : Stmt := top 26
abbrev FnM (K : PySem.W.Frag) (x qual : Str) (st : Stmt) (dvs : List V) (f : Addr) (fd : FuncData) : Prop := FunD K x qual (defArgs st) (defBody st) (defScope st) dvs [] f fd
abbrev CB (K : PySem.W.Frag) : Addr := gC K "Book"
theorem scItems : FnScope ["pairs", "pair", "item"] ["pairs"] (defScope sItems) := ⟨rfl, rfl, rfl, by decide +kernel, rfl, by decide +kernel, by decide +kernel⟩
/-- keys and values, one behind the other -/
def flatK : List (Key × V) → List V
  | [] => []
  | (k, v) :: r => kV k :: v :: flatK r
theorem flatK_app : ∀ (a b : List (Key × V)), flatK (a ++ b) = flatK a ++ flatK b
  | [], _ => rfl
  | (k, v) :: r, b => by
    show kV k :: v :: flatK (r ++ b) = _
    rw [flatK_app r b]
    rfl
theorem flatK_len : ∀ (a : List (Key × V)), (flatK a).length = 2 * a.length
  | [] => rfl
  | (k, v) :: r => by
    show (flatK r).length + 1 + 1 = 2 * (r.length + 1)
    rw [flatK_len r]
    omega
def PairsAt (H : Hp) (p : Addr) (kvs : List (Key × V)) : Prop := ∃ ts : List Addr, H p = some (.tup (ts.map V.ref)) ∧ Paired (fun (t : Addr) (q : Key × V) => H t = some (.tup [kV q.1, q.2])) ts kvs
theorem paired_to {H H' : Hp} (s : Same H H') : ∀ {ts : List Addr} {kvs : List (Key × V)}, Paired (fun (t : Addr) (q : Key × V) => H t = some (.tup [kV q.1, q.2])) ts kvs → Paired (fun (t : Addr) (q : Key × V) => H' t = some (.tup [kV q.1, q.2])) ts kvs
  | _, _, .nil => .nil
  | _, _, .cons h r => .cons (s _ _ h) (paired_to s r)
theorem PairsAt.to {H H' : Hp} {p : Addr} {kvs : List (Key × V)} (s : Same H H') (h : PairsAt H p kvs) : PairsAt H' p kvs := by
  obtain ⟨ts, h1, h2⟩ := h
  exact ⟨ts, s _ _ h1, paired_to s h2⟩
def spItems (K : PySem.W.Frag) : Sp := fun vs H Q _ => ∃ (p : Addr) (kvs : List (Key × V)), vs = [.ref p] ∧ PairsAt H p kvs ∧ kvs.length ≤ 1000 ∧ ∀ D H', Same H H' → H' D = some (.lst (flatK kvs)) → Q (.ref D) H'
section
variable {P : Program} {w : World} {K : PySem.W.Frag} {mg : Str → Option Value} {base : Heap} {C : Addr}
theorem ok_items {f : Addr} {fd : FuncData} (F : FnP K "items_of_pairs" sItems f fd) : FnOk P w K mg base CX0 1 f fd ["pairs"] (spItems K) := by
  refine F.ok scItems (fun vs H Q E h => ?_) (fun cdv A outer s H vs Q E hr h => ?_)
  · obtain ⟨p, kvs, rfl, _⟩ := h
    rfl
  · have hv2 : ∀ i ∈ ([2] : List Nat), i ∈ ([("pair", 1), ("item", 2)] : List (Str × Nat)).map (·.2) := by simp
    refine ⟨_, PSs.nox (pss_one (ps_ret (pe_lc2 (wi1 := iTup K (tVar 1)) (own := [("pair", 1), ("item", 2)]) (vs1 := [2]) (g := gName 1) (g1 := gName 2) (tt := tYes) (tt1 := tYes) rfl scItems.nd (pi_tup (pv 0)) (blkOk_by (own := [("pair", 1), ("item", 2)]) (N := ["pairs", "pair", "item"]) (sc := defScope sItems) (by decide +kernel)) hv2
      (fun _ _ _ _ _ => pg_name (i := 1) scItems.nd rfl (Or.inl rfl)) (fun _ _ _ _ _ => pts_nil) (fun _ _ _ _ _ => pi_tup (pv 1)) (fun _ _ _ _ _ => pg_name (i := 2) scItems.nd rfl (Or.inl rfl)) (fun _ _ _ _ _ => pts_nil) (fun _ _ _ _ _ => pv 2)))), ?_⟩
    obtain ⟨p, kvs, rfl, ⟨ts, hp, hts⟩, hl, k⟩ := h
    have ln : ts.length = kvs.length := Paired.length hts
    refine ⟨_, rfl, p, rfl, ⟨_, SqT.of hp⟩, fun D nD => turns_it walk_tup (fun i H' => Same H H' ∧ H' D = some (.lst (flatK (kvs.take i)))) ⟨same_new nD, upd_same⟩ (fun i H' _ z => SqT.of (z.1 _ _ hp)) ?_ ?_⟩
    · rintro i x H' H'' hi ⟨s1, hD⟩ ⟨rfl, hx⟩
      rw [List.length_map] at hi
      obtain ⟨t, ht, rfl⟩ : ∃ t, ts[i]? = some t ∧ x = .ref t := by
        rw [List.getElem?_map] at hx
        cases e : ts[i]? with
        | none =>
          rw [e] at hx
          cases hx
        | some t =>
          rw [e] at hx
          cases hx
          exact ⟨t, rfl, rfl⟩
      obtain ⟨q, hq, hqt⟩ := LiI.paired_get hts ht
      obtain ⟨key, v⟩ := q
      refine ⟨rfl, yesT ⟨_, rfl, t, rfl, ⟨_, SqT.of (s1 _ _ hqt)⟩, ?_⟩⟩
      refine turns_it (walk_tup (xs := [kV key, v])) (fun j H2 => Same H H2 ∧ H2 D = some (.lst (flatK (kvs.take i) ++ [kV key, v].take j))) ⟨s1, by rw [List.take_zero, List.append_nil]; exact hD⟩ (fun j H2 _ z => SqT.of (z.1 _ _ hqt)) ?_ ?_
      · rintro j y H2 H3 hj ⟨s2, hD2⟩ ⟨rfl, hy⟩
        refine ⟨rfl, yesT ⟨_, rfl, _, hD2, ?_, same_updN s2 nD, ?_⟩⟩
        · rw [List.length_append, flatK_len, List.length_take, List.length_take]
          have : 100000 < sizeLine := by decide
          have e1 : min i kvs.length ≤ 1000 := Nat.le_trans (Nat.min_le_right _ _) hl
          have e2 : min j [kV key, v].length ≤ 2 := Nat.min_le_right _ _
          omega
        · rw [upd_same, List.take_add_one, hy, List.append_assoc]
          rfl
      · rintro H2 ⟨s2, hD2⟩
        refine ⟨s2, ?_⟩
        rw [hD2, List.take_add_one, hq, flatK_app]
        rfl
    · rintro H' ⟨s1, hD⟩
      rw [List.length_map, ln, List.take_length] at hD
      exact k D H' s1 hD
end
end Kb

set_option Elab.async false
set_option linter.all false
set_option maxRecDepth 100000
set_option maxHeartbeats 4000000
namespace Kb
open PySem PySem.Spec PyProof.Rows L2 StX ClX
abbrev sBkI : Stmt := inClass sBook 1
abbrev sBkO : Stmt := inClass sBook 2
abbrev sBkP : Stmt := inClass sBook 3
abbrev sBkE : Stmt := inClass sBook 4
abbrev sBkCh : Stmt := inClass sBook 5
abbrev sBkV : Stmt := inClass sBook 6
abbrev sBkR : Stmt := inClass sBook 7
abbrev sBkC : Stmt := inClass sBook 8
theorem scBkI : FnScope ["self"] ["self"] (defScope sBkI) := ⟨rfl, rfl, rfl, by decide +kernel, rfl, by decide +kernel, by decide +kernel⟩
theorem scBkP : FnScope ["self"] ["self"] (defScope sBkP) := ⟨rfl, rfl, rfl, by decide +kernel, rfl, by decide +kernel, by decide +kernel⟩
theorem scBkE : FnScope ["self", "key", "value"] ["self", "key", "value"] (defScope sBkE) := ⟨rfl, rfl, rfl, by decide +kernel, rfl, by decide +kernel, by decide +kernel⟩
theorem scBkCh : FnScope ["self", "key", "value"] ["self", "key", "value"] (defScope sBkCh) := ⟨rfl, rfl, rfl, by decide +kernel, rfl, by decide +kernel, by decide +kernel⟩
theorem scBkV : FnScope ["self", "key"] ["self", "key"] (defScope sBkV) := ⟨rfl, rfl, rfl, by decide +kernel, rfl, by decide +kernel, by decide +kernel⟩
theorem scBkR : FnScope ["self", "key"] ["self", "key"] (defScope sBkR) := ⟨rfl, rfl, rfl, by decide +kernel, rfl, by decide +kernel, by decide +kernel⟩
theorem scBkC : FnScope ["self"] ["self"] (defScope sBkC) := ⟨rfl, rfl, rfl, by decide +kernel, rfl, by decide +kernel, by decide +kernel⟩
theorem scShape : FnScope ["self"] ["self"] (defScope sShape) := ⟨rfl, rfl, rfl, by decide +kernel, rfl, by decide +kernel, by decide +kernel⟩
theorem gsChildren : GScope ["self"] ["self"] (defScope sChildren) := ⟨rfl, rfl, rfl, by decide +kernel, rfl, by decide +kernel, by decide +kernel⟩
/-- the fields of a Book's object -/
abbrev TF (q : Addr) : List (Str × V) := [("_entries", .ref q)]
/-- a Book with what it has -/
def BkAt (K : PySem.W.Frag) (H : Hp) (a q : Addr) (kvs : List (Key × V)) : Prop := ∃ dx, H a = some (.ins (CB K) dx (TF q)) ∧ H q = some (.dK kvs)
theorem BkAt.to {K : PySem.W.Frag} {H H' : Hp} {a q : Addr} {kvs : List (Key × V)} (h : BkAt K H a q kvs) (s : Same H H') : BkAt K H' a q kvs := by
  obtain ⟨dx, h1, h2⟩ := h
  exact ⟨dx, s _ _ h1, s _ _ h2⟩
def spBkI (K : PySem.W.Frag) : Sp := fun vs H Q _ => ∃ (a dx : Addr) (H0 : Hp), vs = [.ref a] ∧ H a = some (.ins (CB K) dx []) ∧ H0 a = none ∧ Same H0 H ∧
  (∀ q H', Same H0 H' → H0 q = none → H' a = some (.ins (CB K) dx (TF q)) → H' q = some (.dK []) → Q .non H')
def spPairs (K : PySem.W.Frag) : Sp := fun vs H Q _ => ∃ (a q : Addr) (kvs : List (Key × V)), vs = [.ref a] ∧ BkAt K H a q kvs ∧ ∀ H' p, Same H H' → PairsAt H' p kvs → Q (.ref p) H'
def spCont (K : PySem.W.Frag) : Sp := fun vs H Q _ => ∃ (a q : Addr) (kvs : List (Key × V)), vs = [.ref a] ∧ BkAt K H a q kvs ∧ kvs.length ≤ 1000 ∧ ∀ D H', Same H H' → H' D = some (.lst (flatK kvs)) → Q (.ref D) H'
/-- enter -/
def spEnt (K : PySem.W.Frag) : Sp := fun vs H Q E => ∃ (a q : Addr) (kvs : List (Key × V)) (lv v : V) (kl k : Tk), vs = [.ref a, lv, v] ∧ BkAt K H a q kvs ∧ kvs.length ≤ 1000 ∧ Tv K (CN K) H lv kl ∧ fitsT kl ∧ Tv K (CN K) H v k ∧ fitsT k ∧
  (keyT kl = false → Err (gC K "InvalidKey") "key" lv H E) ∧
  (keyT kl = true → ∀ y, lv = kV y → (∀ u, valV kvs y = some u → Err (gC K "KeyTaken") "key" lv H E) ∧ (valV kvs y = none → (okT k = true → Q .non (upd H q (.dK (putK kvs y v)))) ∧ (okT k = false → Err (gC K "InvalidValue") "value" v H E)))
/-- _require_entry -/
def spRqE (K : PySem.W.Frag) : Sp := fun vs H Q E => ∃ (a q : Addr) (kvs : List (Key × V)) (lv : V) (kl : Tk), vs = [.ref a, lv] ∧ BkAt K H a q kvs ∧ Tv K (CN K) H lv kl ∧ fitsT kl ∧
  (keyT kl = false → Err (gC K "InvalidKey") "key" lv H E) ∧ (keyT kl = true → ∀ y, lv = kV y → (∀ u, valV kvs y = some u → Q .non H) ∧ (valV kvs y = none → Err (gC K "NoEntry") "key" lv H E))
/-- change -/
def spChg (K : PySem.W.Frag) : Sp := fun vs H Q E => ∃ (a q : Addr) (kvs : List (Key × V)) (lv v : V) (kl k : Tk), vs = [.ref a, lv, v] ∧ BkAt K H a q kvs ∧ kvs.length ≤ 1000 ∧ Tv K (CN K) H lv kl ∧ fitsT kl ∧ Tv K (CN K) H v k ∧ fitsT k ∧
  (keyT kl = false → Err (gC K "InvalidKey") "key" lv H E) ∧
  (keyT kl = true → ∀ y, lv = kV y → (valV kvs y = none → Err (gC K "NoEntry") "key" lv H E) ∧ (∀ u, valV kvs y = some u → (okT k = true → Q .non (upd H q (.dK (putK kvs y v)))) ∧ (okT k = false → Err (gC K "InvalidValue") "value" v H E)))
/-- value_of -/
def spGet (K : PySem.W.Frag) : Sp := fun vs H Q E => ∃ (a q : Addr) (kvs : List (Key × V)) (lv : V) (kl : Tk), vs = [.ref a, lv] ∧ BkAt K H a q kvs ∧ Tv K (CN K) H lv kl ∧ fitsT kl ∧
  (keyT kl = false → Err (gC K "InvalidKey") "key" lv H E) ∧ (keyT kl = true → ∀ y, lv = kV y → (∀ u, valV kvs y = some u → Q u H) ∧ (valV kvs y = none → Err (gC K "NoEntry") "key" lv H E))
theorem key_of {K : PySem.W.Frag} {C : Addr} {H : Hp} {v : V} {k : Tk} (h : Tv K C H v k) (e : keyT k = true) : ∃ y : Key, v = kV y ∧ k = .dat (keyD y) := by
  cases k with
  | nod C => cases e
  | dat d =>
    cases d with
    | str y =>
      have h' : Sd K H v (.str y) := h
      cases h'
      exact ⟨.inr y, rfl, rfl⟩
    | int y =>
      have h' : Sd K H v (.int y) := h
      cases h'
      exact ⟨.inl y, rfl, rfl⟩
    | none => cases e
    | bool _ => cases e
    | list _ => cases e
    | tuple _ => cases e
    | dict _ => cases e
section
variable {P : Program} {w : World} {K : PySem.W.Frag} {mg : Str → Option Value} {base : Heap} {C : Addr}
/-- the class Book, apart from its methods -/
structure BkC (K : PySem.W.Frag) : Prop where
  cls : Cls K (CB K)
  noE : NoAttr K (CB K) "_entries"
theorem ok_bkI {f : Addr} {fd : FuncData} (B : BkC K) (F : FnM K "__init__" "Book.__init__" sBkI [] f fd) : FnOk P w K mg base CX0 1 f fd ["self"] (spBkI K) := by
  refine F.ok scBkI (fun vs H Q E h => ?_) (fun cdv A outer s H vs Q E hr h => ?_)
  · obtain ⟨a, dx, H0, rfl, _⟩ := h
    rfl
  · refine ⟨_, PSs.nox (pss_one (ps_fld (pv 0) pe_dnewK (by rfl))), ?_⟩
    obtain ⟨a, dx, H0, rfl, ha, a0, s0, k1⟩ := h
    refine fun q nq => ?_
    have nqa : q ≠ a := fun z => by
      rw [z, ha] at nq
      cases nq
    refine ⟨_, rfl, a, _, dx, [], rfl, by rw [upd_ne nqa.symm]; exact ha, B.cls, B.noE, by decide, ?_⟩
    refine k1 q _ (fun b o e1 => ?_) (none_of s0 nq) upd_same (by rw [upd_ne nqa, upd_same])
    have nba : b ≠ a := fun z => by
      rw [z, a0] at e1
      cases e1
    have nbq : b ≠ q := fun z => by
      rw [z, none_of s0 nq] at e1
      cases e1
    rw [upd_ne nba, upd_ne nbq]
    exact s0 _ _ e1
theorem ok_pairs {f : Addr} {fd : FuncData} (B : BkC K) (F : FnM K "pairs" "Book.pairs" sBkP [] f fd) (N : Nm K mg) : FnOk P w K mg base CX0 1 f fd ["self"] (spPairs K) := by
  refine F.ok scBkP (fun vs H Q E h => ?_) (fun cdv A outer s H vs Q E hr h => ?_)
  · obtain ⟨a, q, kvs, rfl, _⟩ := h
    rfl
  · refine ⟨_, PSs.nox (pss_one (ps_ret (pe_tupItems rfl (pe_fld (pv 0) (by rfl)) (by rfl) N.tuple (by decide +kernel)))), ?_⟩
    obtain ⟨a, q, kvs, rfl, ⟨dx, ha, hq⟩, k⟩ := h
    exact ⟨_, rfl, a, _, dx, _, .ref q, rfl, ha, B.cls, B.noE, rfl, q, kvs, rfl, hq, fun H' p ts s1 _ _ hp hts => k H' p s1 ⟨ts, hp, hts⟩⟩
theorem ok_cont {f p g fi : Addr} {fd fdg di : FuncData} (B : BkC K) (hp : PropOf K (CB K) "pairs" p g) (F : FnM K "_contents" "Book._contents" sBkC [] f fd) (FG : FnM K "pairs" "Book.pairs" sBkP [] g fdg) (N : Nm K mg) (FI : FnP K "items_of_pairs" sItems fi di) (gI : mg "items_of_pairs" = some (.ref fi)) : FnOk P w K mg base CX0 3 f fd ["self"] (spCont K) := by
  have GG : FnOk P w K mg base CX0 1 g fdg ["self"] (spPairs K) := ok_pairs B FG N
  have bG : Binds K fdg ["self"] [] := FG.bindsN fun _ _ _ _ _ _ us hl => match us, hl with | [_], _ => rfl
  have GI : FnOk P w K mg base CX0 1 fi di ["pairs"] (spItems K) := ok_items FI
  have bI : Binds K di ["pairs"] [] := FI.bindsN fun _ _ _ _ _ _ us hl => match us, hl with | [_], _ => rfl
  refine F.ok scBkC (fun vs H Q E h => ?_) (fun cdv A outer s H vs Q E hr h => ?_)
  · obtain ⟨a, q, kvs, rfl, _⟩ := h
    rfl
  · refine ⟨_, PSs.nox (pss_one (ps_ret (pe_call GI (hr.mono (by decide)) (by rfl) gI FI.kp bI .nil pass0 (pa_cons (pe_prop (pv 0) B.cls hp GG (hr.mono (by decide)) bG .nil pass0 (by rfl)) pa_nil)))), ?_⟩
    obtain ⟨a, q, kvs, rfl, ⟨dx, ha, hq⟩, hl, k⟩ := h
    exact ⟨_, rfl, a, dx, _, rfl, ha, a, q, kvs, rfl, ⟨dx, ha, hq⟩, fun H1 p s1 hpp => ⟨p, kvs, rfl, hpp, hl, fun D H2 s2 hD => k D H2 (s1.tr s2) hD⟩⟩
theorem ok_ent {f : Addr} {fd : FuncData} (B : BkC K) (F : FnM K "enter" "Book.enter" sBkE [] f fd) (N : Nm K mg) (T : Ts K mg) (S : Es P w K mg base) (R : Rq K mg) : FnOk P w K mg base (L2.CX P w) 6 f fd ["self", "key", "value"] (spEnt K) := by
  obtain ⟨fl, dl, FL, gL⟩ := R.reqK
  obtain ⟨fr, dr, FR, gR⟩ := R.req
  have GL : FnOk P w K mg base (L2.CX P w) 5 fl dl ["key"] (spReqK K (gC K "InvalidKey")) := ok_reqK FL N T S
  have GR : FnOk P w K mg base (L2.CX P w) 5 fr dr ["value"] (spReq K (gC K "InvalidValue")) := ok_req FR N T S
  have bL : Binds K dl ["key"] [] := FL.bindsN fun _ _ _ _ _ _ us hl => match us, hl with | [_], _ => rfl
  have bR : Binds K dr ["value"] [] := FR.bindsN fun _ _ _ _ _ _ us hl => match us, hl with | [_], _ => rfl
  refine F.ok scBkE (fun vs H Q E h => ?_) (fun cdv A outer s H vs Q E hr h => ?_)
  · obtain ⟨a, q, kvs, lv, v, kl, k, rfl, _⟩ := h
    rfl
  · have hu := hu_of hr
    refine ⟨_, pss_cons (ps_expr (pe_callS GL hr (by rfl) gL FL.kp bL (fun σ => passAt (takes_of rfl rfl rfl rfl) σ) (pa_cons (pv 1) pa_nil)))
      (pss_cons (ps_if (pt_cmp (pc_din hu (pv 1) (pe_fld (pv 0) (by rfl)))) (pss_one (ps_x1 rfl (takes_of rfl rfl rfl rfl) S.taken (hr.mono (by decide)) (by rfl) (pv 1))) pss_nil)
      (pss_cons (ps_expr (pe_callS GR hr (by rfl) gR FR.kp bR (fun σ => passAt (takes_of rfl rfl rfl rfl) σ) (pa_cons (pv 2) pa_nil)))
      (pss_one (ps_dput hu (pe_fld (pv 0) (by rfl)) (pv 1) (pv 2) rfl)))), ?_⟩
    obtain ⟨a, q, kvs, lv, v, kl, k, rfl, ⟨dx, ha, hq⟩, hl, tl, fl', tv, fv, k1, k2⟩ := h
    refine ⟨_, rfl, lv, kl, rfl, tl, fl', fun o => ?_, fun o => k1 o⟩
    obtain ⟨y, rfl, rfl⟩ := key_of tl o
    obtain ⟨g1, g2⟩ := k2 o y rfl
    refine ⟨_, rfl, _, rfl, a, _, dx, _, .ref q, rfl, ha, B.cls, B.noE, rfl, q, _, rfl, DGet.k (k := y) hq, _, rfl, ?_⟩
    cases e : valV kvs y with
    | some u => exact iteT ⟨_, rfl, kV y, rfl, fun dd H' n s x => g1 u e dd H' n s x⟩
    | none =>
      refine iteF ⟨_, rfl, v, k, rfl, tv, fv, fun o2 => ?_, fun o2 => (g2 e).2 o2⟩
      exact ⟨_, rfl, _, rfl, a, _, dx, _, .ref q, rfl, ha, B.cls, B.noE, rfl, _, rfl, q, _, rfl, DPut.k (k := y) hq (Nat.lt_of_le_of_lt hl (by decide)), (g2 e).1 o2⟩
theorem ok_rqE {f : Addr} {fd : FuncData} (B : BkC K) (F : FnM K "_require_entry" "Book._require_entry" sBkR [] f fd) (N : Nm K mg) (T : Ts K mg) (S : Es P w K mg base) (R : Rq K mg) : FnOk P w K mg base (L2.CX P w) 6 f fd ["self", "key"] (spRqE K) := by
  obtain ⟨fl, dl, FL, gL⟩ := R.reqK
  have GL : FnOk P w K mg base (L2.CX P w) 5 fl dl ["key"] (spReqK K (gC K "InvalidKey")) := ok_reqK FL N T S
  have bL : Binds K dl ["key"] [] := FL.bindsN fun _ _ _ _ _ _ us hl => match us, hl with | [_], _ => rfl
  refine F.ok scBkR (fun vs H Q E h => ?_) (fun cdv A outer s H vs Q E hr h => ?_)
  · obtain ⟨a, q, kvs, lv, kl, rfl, _⟩ := h
    rfl
  · have hu := hu_of hr
    refine ⟨_, pss_cons (ps_expr (pe_callS GL hr (by rfl) gL FL.kp bL (fun σ => passAt (takes_of rfl rfl rfl rfl) σ) (pa_cons (pv 1) pa_nil)))
      (pss_one (ps_if (pt_cmp (pc_dnotin hu (pv 1) (pe_fld (pv 0) (by rfl)))) (pss_one (ps_x1 rfl (takes_of rfl rfl rfl rfl) S.noE (hr.mono (by decide)) (by rfl) (pv 1))) pss_nil)), ?_⟩
    obtain ⟨a, q, kvs, lv, kl, rfl, ⟨dx, ha, hq⟩, tl, fl', k1, k2⟩ := h
    refine ⟨_, rfl, lv, kl, rfl, tl, fl', fun o => ?_, fun o => k1 o⟩
    obtain ⟨y, rfl, rfl⟩ := key_of tl o
    obtain ⟨g1, g2⟩ := k2 o y rfl
    refine ⟨_, rfl, _, rfl, a, _, dx, _, .ref q, rfl, ha, B.cls, B.noE, rfl, q, _, rfl, DGet.k (k := y) hq, _, rfl, ?_⟩
    cases e : valV kvs y with
    | none => exact iteT ⟨_, rfl, kV y, rfl, fun dd H' n s x => g2 e dd H' n s x⟩
    | some v => exact iteF (g1 v e)
theorem ok_chg {f fq : Addr} {fd dq : FuncData} (B : BkC K) (F : FnM K "change" "Book.change" sBkCh [] f fd) (MQ : Meth K (CB K) "_require_entry" fq) (FQ : FnM K "_require_entry" "Book._require_entry" sBkR [] fq dq) (N : Nm K mg) (T : Ts K mg) (S : Es P w K mg base) (R : Rq K mg) : FnOk P w K mg base (L2.CX P w) 7 f fd ["self", "key", "value"] (spChg K) := by
  obtain ⟨fr, dr, FR, gR⟩ := R.req
  have GQ : FnOk P w K mg base (L2.CX P w) 6 fq dq ["self", "key"] (spRqE K) := ok_rqE B FQ N T S R
  have GR : FnOk P w K mg base (L2.CX P w) 5 fr dr ["value"] (spReq K (gC K "InvalidValue")) := ok_req FR N T S
  have bQ : Binds K dq ["self", "key"] [] := FQ.bindsN fun _ _ _ _ _ _ us hl => match us, hl with | [_, _], _ => rfl
  have bR : Binds K dr ["value"] [] := FR.bindsN fun _ _ _ _ _ _ us hl => match us, hl with | [_], _ => rfl
  refine F.ok scBkCh (fun vs H Q E h => ?_) (fun cdv A outer s H vs Q E hr h => ?_)
  · obtain ⟨a, q, kvs, lv, v, kl, k, rfl, _⟩ := h
    rfl
  · have hu := hu_of hr
    refine ⟨_, pss_cons (ps_expr (pe_methSg (pv 0) B.cls MQ GQ hr bQ (fun σ => passAt (takes_of rfl rfl rfl rfl) σ) (pa_cons (pv 1) pa_nil)))
      (pss_cons (ps_expr (pe_callS GR (hr.mono (by decide)) (by rfl) gR FR.kp bR (fun σ => passAt (takes_of rfl rfl rfl rfl) σ) (pa_cons (pv 2) pa_nil)))
      (pss_one (ps_dput hu (pe_fld (pv 0) (by rfl)) (pv 1) (pv 2) rfl))), ?_⟩
    obtain ⟨a, q, kvs, lv, v, kl, k, rfl, ⟨dx, ha, hq⟩, hl, tl, fl', tv, fv, k1, k2⟩ := h
    refine ⟨_, rfl, a, dx, _, rfl, ha, rfl, _, rfl, a, q, kvs, lv, kl, rfl, ⟨dx, ha, hq⟩, tl, fl', fun o => k1 o, fun o y ey => ⟨fun u hu' => ?_, fun e => (k2 o y ey).1 e⟩⟩
    obtain ⟨g1, g2⟩ := (k2 o y ey).2 u hu'
    subst ey
    refine ⟨_, rfl, v, k, rfl, tv, fv, fun o2 => ?_, fun o2 => g2 o2⟩
    exact ⟨_, rfl, _, rfl, a, _, dx, _, .ref q, rfl, ha, B.cls, B.noE, rfl, _, rfl, q, _, rfl, DPut.k (k := y) hq (Nat.lt_of_le_of_lt hl (by decide)), g1 o2⟩
theorem ok_get {f fq : Addr} {fd dq : FuncData} (B : BkC K) (F : FnM K "value_of" "Book.value_of" sBkV [] f fd) (MQ : Meth K (CB K) "_require_entry" fq) (FQ : FnM K "_require_entry" "Book._require_entry" sBkR [] fq dq) (N : Nm K mg) (T : Ts K mg) (S : Es P w K mg base) (R : Rq K mg) : FnOk P w K mg base (L2.CX P w) 7 f fd ["self", "key"] (spGet K) := by
  have GQ : FnOk P w K mg base (L2.CX P w) 6 fq dq ["self", "key"] (spRqE K) := ok_rqE B FQ N T S R
  have bQ : Binds K dq ["self", "key"] [] := FQ.bindsN fun _ _ _ _ _ _ us hl => match us, hl with | [_, _], _ => rfl
  refine F.ok scBkV (fun vs H Q E h => ?_) (fun cdv A outer s H vs Q E hr h => ?_)
  · obtain ⟨a, q, kvs, lv, kl, rfl, _⟩ := h
    rfl
  · have hu := hu_of hr
    refine ⟨_, pss_cons (ps_expr (pe_methSg (pv 0) B.cls MQ GQ hr bQ (fun σ => passAt (takes_of rfl rfl rfl rfl) σ) (pa_cons (pv 1) pa_nil)))
      (pss_one (ps_ret (pe_dget hu (pe_fld (pv 0) (by rfl)) (pv 1) (fun _ _ => rfl)))), ?_⟩
    obtain ⟨a, q, kvs, lv, kl, rfl, ⟨dx, ha, hq⟩, tl, fl', k1, k2⟩ := h
    refine ⟨_, rfl, a, dx, _, rfl, ha, rfl, _, rfl, a, q, kvs, lv, kl, rfl, ⟨dx, ha, hq⟩, tl, fl', fun o => k1 o, fun o y ey => ⟨fun u hu' => ?_, fun e => (k2 o y ey).2 e⟩⟩
    subst ey
    refine ⟨_, rfl, a, _, dx, _, .ref q, rfl, ha, B.cls, B.noE, rfl, _, rfl, q, u, rfl, ?_, (k2 o y rfl).1 u hu'⟩
    have z := DGet.k (k := y) hq
    rw [hu'] at z
    exact z
/-- the contents are handed out, from a list -/
def spKids (C : Addr) (spC : Sp) : SpY := fun vs H xs Q E => ∃ (a dx : Addr) (fs : List (Str × V)), vs = [.ref a] ∧ H a = some (.ins C dx fs) ∧ fs.lookup ("_contents" : Str) = none ∧ spC [.ref a] H (fun v H1 => ∃ t, v = .ref t ∧ H1 t = some (.lst xs) ∧ Q H1) E0
theorem ok_kids {k : Nat} {f fc : Addr} {fd fdc : FuncData} {spC : Sp} (c : Cls K C) (hm : Meth K C "_contents" fc) (F : FnM K "children" "Node.children" sChildren [] f fd) (FC : FnOk P w K mg base CX0 k fc fdc ["self"] spC) (bC : Binds K fdc ["self"] []) (mono : ∀ vs H (Q Q' : VK) E, (∀ v H, Q v H → Q' v H) → spC vs H Q E → spC vs H Q' E) : YDef P w K mg base (k + 1) f fd ["self"] (spKids C spC) := by
  refine F.okY gsChildren (fun vs H xs Q E h => ?_) (fun cdv A outer s H vs xs Q E pn hr h => ?_)
  · obtain ⟨a, dx, fs, rfl, _⟩ := h
    rfl
  · refine ⟨_, yss_cons (ys_from (yf_lst (pe_meth0 (pe_var (i := 0) rfl (by first | exact .inl rfl | rfl)) c hm FC hr bC .nil pass0)) hr.hd) yss_nil, ?_⟩
    obtain ⟨a, dx, fs, rfl, ha, hl, q⟩ := h
    refine ⟨_, rfl, a, dx, fs, rfl, ha, hl, mono _ _ _ _ _ (fun v H1 z => ?_) q⟩
    obtain ⟨t, rfl, ht, q2⟩ := z
    exact ⟨t, xs, rfl, ht, fun i y e => by rw [Nat.zero_add]; exact e, Nat.zero_add _, q2⟩
theorem spCont_mono {vs : List V} {H : Hp} {Q Q' : VK} {E : XK} (i : ∀ v H, Q v H → Q' v H) (h : spCont K vs H Q E) : spCont K vs H Q' E := by
  obtain ⟨a, q, kvs, e1, e2, e3, k⟩ := h
  exact ⟨a, q, kvs, e1, e2, e3, fun D H' z1 z2 => i _ _ (k D H' z1 z2)⟩
def spShape (C : Addr) (z : Str) : Sp := fun vs H Q _ => ∃ (a dx : Addr) (fs : List (Str × V)), vs = [.ref a] ∧ H a = some (.ins C dx fs) ∧ fs.lookup ("SHAPE" : Str) = none ∧ Q (.str z) H
theorem ok_shape {f : Addr} {fd : FuncData} {z : Str} {u : Value} (c : Cls K C) (w1 : Con K C "SHAPE" (.str z) u) (F : FnM K "shape" "Node.shape" sShape [] f fd) : FnOk P w K mg base CX0 1 f fd ["self"] (spShape C z) := by
  refine F.ok scShape (fun vs H Q E h => ?_) (fun cdv A outer s H vs Q E hr h => ?_)
  · obtain ⟨a, dx, fs, rfl, _⟩ := h
    rfl
  · refine ⟨_, PSs.nox (pss_one (ps_ret (pe_con (pv 0) (by rfl)))), ?_⟩
    obtain ⟨a, dx, fs, rfl, ha, hl, k⟩ := h
    exact ⟨_, rfl, a, C, dx, fs, _, u, rfl, ha, c, w1, hl, k⟩
end
end Kb

set_option Elab.async false
set_option linter.all false
set_option maxRecDepth 100000
set_option maxHeartbeats 4000000
namespace Kb
open PySem PySem.Spec PyProof.Rows L2
/-- the cells' list of the draws at p stands at l -/
def CellsAt (H : Hp) (p l : Addr) : Prop := ∃ a b c : Int, H p = some (.dK (drawKv l a b c))
/-- all that was tracked but p stands, and the cells' list is the same -/
structure Keep (p : Addr) (H H' : Hp) : Prop where
  old : L2.Keep p H H'
  cells : ∀ l, CellsAt H p l → CellsAt H' p l
instance {p : Addr} {H H' : Hp} : CoeFun (Keep p H H') (fun _ => ∀ c o, H c = some o → c ≠ p → H' c = some o) := ⟨Keep.old⟩
theorem Keep.refl {p : Addr} {H : Hp} : Keep p H H := ⟨L2.Keep.refl, fun _ h => h⟩
theorem Keep.trans {p : Addr} {H H1 H2 : Hp} (a : Keep p H H1) (b : Keep p H1 H2) : Keep p H H2 := ⟨a.old.trans b.old, fun l h => b.cells l (a.cells l h)⟩
theorem Keep.of {p : Addr} {H H' : Hp} (s : Same H H') : Keep p H H' := ⟨L2.Keep.of s, fun _ ⟨a, b, c, h⟩ => ⟨a, b, c, s _ _ h⟩⟩
theorem cells_one {H : Hp} {p l l' : Addr} (h : CellsAt H p l) (k : CellsAt H p l') : l = l' := by
  obtain ⟨a, b, c, h⟩ := h
  obtain ⟨a', b', c', k⟩ := k
  rw [h] at k
  have z := congrArg (fun o => match o with
    | some (HO.dK ((_, V.ref x) :: _)) => x
    | _ => 0) k
  exact z
theorem Keep.upd {p l : Addr} {x y z : Int} {H : Hp} (h : CellsAt H p l) : Keep p H (upd H p (.dK (drawKv l x y z))) := ⟨L2.Keep.upd, fun l' k => by
  cases cells_one h k
  exact ⟨x, y, z, upd_same⟩⟩
def spNext : Sp := fun vs H Q _ => ∃ (p : Addr) (b : Int) (N : Nat), vs = [.ref p, .int b] ∧ DrawAt H p N ∧ N < 1000000000 ∧ 0 < b ∧ b < 1073741824 ∧ ∀ (r : Int) (H' : Hp), 0 ≤ r → r < b → DrawAt H' p (N + 1) → Keep p H H' → Q (.int r) H'
abbrev sBegin : Stmt := top 28
abbrev sMixed : Stmt := top 29
abbrev sNext : Stmt := top 30
section
variable {P : Program} {w : World} {K : PySem.W.Frag} {mg : Str → Option Value} {base : Heap}
theorem scBegin : FnScope ["script"] ["script"] (defScope sBegin) := ⟨rfl, rfl, rfl, by decide +kernel, rfl, by decide +kernel, by decide +kernel⟩
theorem scMixed : FnScope ["cell", "k", "mixed"] ["cell", "k"] (defScope sMixed) := ⟨rfl, rfl, rfl, by decide +kernel, rfl, by decide +kernel, by decide +kernel⟩
theorem scNext : FnScope ["draw", "bound", "found", "cells", "cell"] ["draw", "bound"] (defScope sNext) := ⟨rfl, rfl, rfl, by decide +kernel, rfl, by decide +kernel, by decide +kernel⟩
theorem ok_begin {f : Addr} {fd : FuncData} (F : FnP K "_law_begin" sBegin f fd) : FnOk P w K mg base CX0 1 f fd ["script"] (spBegin K) := by
  refine F.ok scBegin (fun vs H Q E h => ?_) (fun cdv A outer s H vs Q E hr h => ⟨_, PSs.nox (pss_one (ps_ret (pe_disp (pps_cons pe_str (pe_op op_catS (pv 0) (pe_lst (pa_cons pe_int pa_nil)))
    (pps_cons pe_str pe_int (pps_cons pe_str pe_int (pps_cons pe_str pe_int pps_nil)))) (by rfl) (by rfl) (fun z => by cases z) (by decide)))), ?_⟩)
  · obtain ⟨a, ns, rfl, _⟩ := h
    rfl
  · obtain ⟨a, ns, rfl, hS, hl, k⟩ := h
    intro p hp
    refine ⟨_, rfl, (by show 1 ≤ sizeLine; decide), fun q hq => ?_⟩
    have npq : p ≠ q := fun z => by rw [z, upd_same] at hq; cases hq
    have hq' : H q = none := by rw [← hq, upd_ne npq.symm]
    have s1 : Same H (upd (upd H p (.dK [])) q (.lst [V.int 0])) := fun b o e => by
      rw [upd_ne (ne_of_none e hq'), upd_ne (ne_of_none e hp)]
      exact e
    refine ⟨a, q, ns.map V.int, [V.int 0], rfl, rfl, s1.seq hS, SqL.of upd_same, (by rw [List.length_map]; show ns.length + 1 ≤ sizeLine; exact Nat.le_trans (Nat.succ_le_succ hl) (by decide)), fun l hlz => ?_⟩
    have nl : l ≠ p := fun z => by rw [z, upd_ne npq, upd_same] at hlz; cases hlz
    have nlq : l ≠ q := fun z => by rw [z, upd_same] at hlz; cases hlz
    have hl' : H l = none := by rw [upd_ne nlq, upd_ne nl] at hlz; exact hlz
    refine ⟨(by rw [upd_ne nl.symm, upd_ne npq, upd_same]), [(kCells, .ref l), (kAt, .int 0), (kLeft, .int 0), (kUsed, .int 0)], rfl, (by show 4 ≤ 15; decide), ?_⟩
    have em : mergeK [] [(kCells, V.ref l), (kAt, .int 0), (kLeft, .int 0), (kUsed, .int 0)] = drawKv l 0 0 0 := by kernel_rfl
    rw [em]
    refine k p _ hp (fun b o e => ?_) ⟨l, ns ++ [0], 0, 0, 0, upd_same, ?_, ?_, ?_, by decide, by decide, by decide, by decide, by decide⟩
    · rw [upd_ne (ne_of_none e hp), upd_ne (ne_of_none e hl')]
      exact s1 b o e
    · rw [upd_ne nl, upd_same, List.map_append]
      rfl
    · rw [List.length_append]
      exact Nat.succ_pos _
    · rw [List.length_append]
      exact Nat.succ_le_succ hl
theorem mix_lo (x : Int) : 0 ≤ x % 2147483647 / 7 := by omega
theorem mix_hi (x : Int) : x % 2147483647 / 7 < 2147483648 := by omega
theorem ok_mixed {f : Addr} {fd : FuncData} (F : FnP K "_law_mixed" sMixed f fd) : FnOk P w K mg base CX0 1 f fd ["cell", "k"] spMixed := by
  refine F.ok scMixed (fun vs H Q E h => ?_) (fun cdv A outer s H vs Q E hr h => ⟨_, PSs.nox (pss_cons (ps_set (i := 2) scMixed.nd rfl (Or.inl rfl)
      (pe_op op_mod (pe_op op_add (pe_op op_add (pe_op op_add (pe_op op_mod (pv 0) pe_int) (pe_op op_mul (pe_op op_mul pe_int (pv 1)) (pv 1))) (pe_op op_mul pe_int (pv 1))) pe_int) pe_int))
    (pss_cons (ps_set (i := 2) scMixed.nd rfl (Or.inl rfl) (pe_op op_mod (pe_op op_mul (pe_op op_mod (pe_op op_mul (pv 2) (pv 2)) pe_int) (pv 2)) pe_int))
    (pss_one (ps_ret (pe_op op_fdiv (pe_op op_mod (pe_op op_mul (pv 2) (pe_op op_add pe_int (pe_op op_mul pe_int (pe_op op_mod (pv 1) pe_int)))) pe_int) pe_int))))), ?_⟩)
  · obtain ⟨c, k, rfl, _⟩ := h
    rfl
  · obtain ⟨c, k, rfl, k0, k1, kq⟩ := h
    refine ⟨_, rfl, _, _, rfl, rfl, (by show (0 : Int) < 1000000007; decide), _, rfl, _, _, rfl, rfl, .inl ⟨by decide, by decide⟩, _, rfl, _, _, rfl, rfl, .inl ⟨by omega, by omega⟩, _, _, rfl, rfl, _, rfl, _, _, rfl, rfl, .inl ⟨by decide, by decide⟩, _, _, rfl, rfl,
      _, _, rfl, rfl, _, _, rfl, rfl, (by show (0 : Int) < 2147483647; decide), ?_⟩
    refine ⟨_, rfl, _, rfl, _, _, rfl, rfl, .inl ⟨by omega, by omega⟩, _, _, rfl, rfl, (by show (0 : Int) < 2147483647; decide), _, rfl, _, _, rfl, rfl, .inl ⟨by omega, by omega⟩, _, _, rfl, rfl, (by show (0 : Int) < 2147483629; decide), ?_⟩
    refine ⟨_, rfl, _, rfl, _, _, rfl, rfl, (by show (0 : Int) < 1000; decide), _, _, rfl, rfl, .inl ⟨by decide, by decide⟩, _, _, rfl, rfl, _, _, rfl, rfl, .inl ⟨by omega, by omega⟩, _, _, rfl, rfl, (by show (0 : Int) < 2147483647; decide), _, _, rfl, rfl, ⟨by decide, by decide⟩, ?_⟩
    exact kq _ (mix_lo _) (mix_hi _)
theorem ok_next {f fm : Addr} {fd fdm : FuncData} (F : FnP K "_law_next" sNext f fd) (FM : FnP K "_law_mixed" sMixed fm fdm) (gM : mg "_law_mixed" = some (.ref fm)) (gL : mg "len" = none) : FnOk P w K mg base CX0 2 f fd ["draw", "bound"] spNext := by
  have GM : FnOk P w K mg base CX0 1 fm fdm ["cell", "k"] spMixed := ok_mixed FM
  have bM : Binds K fdm ["cell", "k"] [] := FM.bindsN fun _ _ _ _ _ _ us hl => match us, hl with | [_, _], _ => rfl
  refine F.ok scNext (fun vs H Q E h => ?_) (fun cdv A outer s H vs Q E hr h => ?_)
  · obtain ⟨p, b, N, rfl, _⟩ := h
    rfl
  · have hu := hu_of hr
    refine ⟨_, PSs.nox (pss_cons (ps_if (pt_cmpR op_gt (pe_dget hu (pv 0) pe_str (fun _ _ => rfl)) pe_int (nomark _))
        (pss_cons (ps_set (i := 2) scNext.nd rfl (Or.inl rfl) (pe_op op_mod (pe_dget hu (pv 0) pe_str (fun _ _ => rfl)) (pv 1)))
        (pss_cons (ps_dput hu (pv 0) pe_str (pe_op op_fdiv (pe_dget hu (pv 0) pe_str (fun _ _ => rfl)) (pv 1)) rfl)
        (pss_one (ps_ret (pv 2))))) pss_nil)
      (pss_cons (ps_set (i := 3) scNext.nd rfl (Or.inl rfl) (pe_dget hu (pv 0) pe_str (fun _ _ => rfl)))
      (pss_cons (ps_set (i := 4) scNext.nd rfl (Or.inl rfl) (pe_ix ix_list (pv 3) (pe_op op_mod (pe_dget hu (pv 0) pe_str (fun _ _ => rfl)) (pe_callB call_len (by rfl) gL PySem.boot_len (pa_cons (pv 3) pa_nil))) (fun _ _ => rfl)))
      (pss_cons (ps_dput hu (pv 0) pe_str (pe_op op_add (pe_dget hu (pv 0) pe_str (fun _ _ => rfl)) pe_int) rfl)
      (pss_cons (ps_if (PW.pt (pw_and (pt_cmpR op_ge (pv 4) (pe_op op_pow pe_int pe_int) (nomark _)) (pw_and1 (pt_cmpR op_le (pe_dget hu (pv 0) pe_str (fun _ _ => rfl)) (pe_callB call_len (by rfl) gL PySem.boot_len (pa_cons (pv 3) pa_nil)) (nomark _)))))
        (pss_cons (ps_dput hu (pv 0) pe_str (pe_op op_fdiv (pv 4) (pv 1)) rfl) (pss_one (ps_ret (pe_op op_mod (pv 4) (pv 1))))) pss_nil)
      (pss_cons (ps_dput hu (pv 0) pe_str (pe_op op_add (pe_dget hu (pv 0) pe_str (fun _ _ => rfl)) pe_int) rfl)
      (pss_one (ps_ret (pe_op op_mod (pe_call GM hr (by rfl) gM FM.kp bM .nil pass0 (pa_cons (pe_call GM hr (by rfl) gM FM.kp bM .nil pass0 (pa_cons (pv 4) (pa_cons (pe_dget hu (pv 0) pe_str (fun _ _ => rfl)) pa_nil))) (pa_cons (pe_dget hu (pv 0) pe_str (fun _ _ => rfl)) pa_nil))) (pv 1)))))))))), ?_⟩
    obtain ⟨p, b, N, rfl, D, hN, b0, b1, k⟩ := h
    obtain ⟨l, cs, a, lf, us, hp, hl, l0, l1, a0, a1, f0, u0, u1⟩ := D
    have npl : l ≠ p := ne_of hl hp (by intro z; cases z)
    have hl' : ∀ o, (upd H p o) l = some (.lst (cs.map V.int)) := fun o => by rw [upd_ne npl]; exact hl
    -- if draw['left'] > 0
    refine ⟨_, rfl, p, _, rfl, (by rw [← dk_left]; exact DGet.k (k := kLeft) hp), _, _, rfl, rfl, _, rfl, ?_⟩
    have hz4 : ∀ x y z, (drawKv l x y z).length < sizeLine := fun x y z => by show 4 < sizeLine; decide
    refine ite2 (fun c => ?_) (fun c => ?_)
    · -- found = draw['left'] % bound; draw['left'] = draw['left'] // bound; return found
      have c' : 0 < lf := of_decide_eq_true c
      refine ⟨_, rfl, p, _, rfl, (by rw [← dk_left]; exact DGet.k (k := kLeft) hp), _, rfl, _, _, rfl, rfl, b0, ?_⟩
      refine ⟨_, rfl, p, _, rfl, (by rw [← dk_left]; exact DGet.k (k := kLeft) hp), _, rfl, _, _, rfl, rfl, ⟨b0, b1⟩, _, rfl, p, _, rfl, DPut.k (k := kLeft) hp (hz4 _ _ _), ?_⟩
      rw [dp_left]
      refine ⟨_, rfl, k _ _ (Int.emod_nonneg _ (by omega)) (Int.emod_lt_of_pos _ b0) ⟨l, cs, a, lf / b, us, upd_same, hl' _, l0, l1, a0, by omega, Int.ediv_nonneg (by omega) (by omega), u0, by omega⟩ (Keep.upd ⟨_, _, _, hp⟩)⟩
    · -- cells = draw['cells']; cell = cells[draw['at'] % len(cells)]
      refine ⟨_, rfl, p, _, rfl, (by rw [← dk_cells]; exact DGet.k (k := kCells) hp), ?_⟩
      have ix0 : 0 ≤ a % (cs.length : Int) := Int.emod_nonneg _ (by omega)
      have ix1 : a % (cs.length : Int) < (cs.length : Int) := Int.emod_lt_of_pos _ (by omega)
      have hlt : (a % (cs.length : Int)).toNat < cs.length := by omega
      obtain ⟨z, hz⟩ : ∃ z, cs[(a % (cs.length : Int)).toNat]? = some z := ⟨_, List.getElem?_eq_getElem hlt⟩
      refine ⟨_, rfl, _, rfl, p, _, rfl, (by rw [← dk_at]; exact DGet.k (k := kAt) hp), _, rfl, _, (cs.map V.int).length, rfl, .inl ⟨_, SqL.of hl, rfl⟩, _, _, rfl, rfl, (by rw [List.length_map]; omega), ?_⟩
      refine ⟨l, _, _, V.int z, rfl, rfl, SqL.of hl, at_of (j := (a % (cs.length : Int)).toNat) (by rw [List.length_map]; omega) (by rw [List.getElem?_map, hz]; rfl), ?_⟩
      -- draw['at'] = draw['at'] + 1
      refine ⟨_, rfl, p, _, rfl, (by rw [← dk_at]; exact DGet.k (k := kAt) hp), _, _, rfl, rfl, _, rfl, p, _, rfl, DPut.k (k := kAt) hp (hz4 _ _ _), ?_⟩
      rw [dp_at]
      have hp1 := (upd_same (H := H) (a := p) (o := .dK (drawKv l (a + 1) lf us)))
      -- the test
      refine ⟨_, rfl, _, _, rfl, rfl, ⟨by decide, by decide, by decide⟩, _, _, rfl, rfl, _, rfl, ?_⟩
      have last : ∀ H1 : Hp, H1 p = some (.dK (drawKv l (a + 1) lf us)) → H1 l = some (.lst (cs.map V.int)) → Keep p H H1 → True := fun _ _ _ _ => True.intro
      refine ite2 (fun c1 => ?_) (fun c1 => ?_)
      · refine ⟨_, rfl, p, _, rfl, (by rw [← dk_at]; exact DGet.k (k := kAt) hp1), _, rfl, _, (cs.map V.int).length, rfl, .inl ⟨_, SqL.of (hl' _), rfl⟩, _, _, rfl, rfl, _, rfl, ?_⟩
        refine ite2 (fun c2 => ?_) (fun c2 => ?_)
        · have z0 : (1000000000000000000 : Int) ≤ z := of_decide_eq_true c1
          refine ⟨_, rfl, _, rfl, _, _, rfl, rfl, ⟨b0, b1⟩, _, rfl, p, _, rfl, DPut.k (k := kLeft) hp1 (hz4 _ _ _), ?_⟩
          rw [dp_left]
          refine ⟨_, rfl, _, rfl, _, _, rfl, rfl, b0, ?_⟩
          exact k _ _ (Int.emod_nonneg _ (by omega)) (Int.emod_lt_of_pos _ b0) ⟨l, cs, a + 1, z / b, us, upd_same, by rw [upd_ne npl]; exact hl' _, l0, l1, by omega, by omega, Int.ediv_nonneg (by omega) (by omega), u0, by omega⟩ ((Keep.upd ⟨_, _, _, hp⟩).trans (Keep.upd ⟨_, _, _, upd_same⟩))
        · refine ⟨_, rfl, p, _, rfl, (by rw [← dk_used]; exact DGet.k (k := kUsed) hp1), _, _, rfl, rfl, _, rfl, p, _, rfl, DPut.k (k := kUsed) hp1 (hz4 _ _ _), ?_⟩
          rw [dp_used]
          have hp2 := (upd_same (H := upd H p (.dK (drawKv l (a + 1) lf us))) (a := p) (o := .dK (drawKv l (a + 1) lf (us + 1))))
          refine ⟨_, rfl, _, rfl, p, _, rfl, (by rw [← dk_at]; exact DGet.k (k := kAt) hp2), _, _, rfl, by omega, by omega, fun r1 _ _ => ?_⟩
          refine ⟨_, rfl, p, _, rfl, (by rw [← dk_used]; exact DGet.k (k := kUsed) hp2), _, _, rfl, by omega, by omega, fun r2 _ _ => ?_⟩
          refine ⟨_, rfl, _, _, rfl, rfl, b0, ?_⟩
          exact k _ _ (Int.emod_nonneg _ (by omega)) (Int.emod_lt_of_pos _ b0) ⟨l, cs, a + 1, lf, us + 1, hp2, by rw [upd_ne npl]; exact hl' _, l0, l1, by omega, by omega, f0, by omega, by omega⟩ ((Keep.upd ⟨_, _, _, hp⟩).trans (Keep.upd ⟨_, _, _, upd_same⟩))
      · refine iteF ?_
        refine ⟨_, rfl, p, _, rfl, (by rw [← dk_used]; exact DGet.k (k := kUsed) hp1), _, _, rfl, rfl, _, rfl, p, _, rfl, DPut.k (k := kUsed) hp1 (hz4 _ _ _), ?_⟩
        rw [dp_used]
        have hp2 := (upd_same (H := upd H p (.dK (drawKv l (a + 1) lf us))) (a := p) (o := .dK (drawKv l (a + 1) lf (us + 1))))
        refine ⟨_, rfl, _, rfl, p, _, rfl, (by rw [← dk_at]; exact DGet.k (k := kAt) hp2), _, _, rfl, by omega, by omega, fun r1 _ _ => ?_⟩
        refine ⟨_, rfl, p, _, rfl, (by rw [← dk_used]; exact DGet.k (k := kUsed) hp2), _, _, rfl, by omega, by omega, fun r2 _ _ => ?_⟩
        refine ⟨_, rfl, _, _, rfl, rfl, b0, ?_⟩
        exact k _ _ (Int.emod_nonneg _ (by omega)) (Int.emod_lt_of_pos _ b0) ⟨l, cs, a + 1, lf, us + 1, hp2, by rw [upd_ne npl]; exact hl' _, l0, l1, by omega, by omega, f0, by omega, by omega⟩ ((Keep.upd ⟨_, _, _, hp⟩).trans (Keep.upd ⟨_, _, _, upd_same⟩))
end
end Kb

set_option Elab.async false
set_option linter.all false
set_option maxRecDepth 100000
set_option maxHeartbeats 2000000
namespace Kb
open PySem PySem.Spec PyProof.Rows L2 StX
abbrev sAtom : Stmt := top 31
theorem scAtom : FnScope ["draw", "great", "some"] ["draw"] (defScope sAtom) := ⟨rfl, rfl, rfl, by decide +kernel, rfl, by decide +kernel, by decide +kernel⟩
/-- a text of real signs -/
def lowS (x : Str) : Bool := x.cps.toList.all fun c => decide (c < 16 ^ 8)
/-- 2,000 signs -/
abbrev xs2000 : Str := ⟨(List.replicate 2000 ("x" : Str).cps).foldl (· ++ ·) #[]⟩
/-- the short texts that are drawn -/
def SH : List Str := ["", "a", "salt", "two\nlines", "q\"\\", "1", "key0", "key1", "key2", "key3", "key4", "key5", "key6", "key7", "key8", "key9", "key10", "key11"]
def inT (x : Str) : Prop := x ∈ SH ∨ x = xs2000
/-- an atom -/
inductive At : V → PyData → Prop
  | non : At .non .none
  | bl (b : Bool) : At (.bl b) (.bool b)
  | int (i : Int) : -big < i → i < big → At (.int i) (.int i)
  | str (x : Str) : x.length ≤ 2000 → lowS x = true → inT x → At (.str x) (.str x)
def spAtom : Sp := fun vs H Q _ => ∃ (p : Addr) (N : Nat), vs = [.ref p] ∧ DrawAt H p N ∧ N < 100000 ∧ ∀ v d H', At v d → DrawAt H' p (N + 4) → Keep p H H' → Q v H'
/-- the defs that draw -/
structure Dr (K : PySem.W.Frag) (mg : Str → Option Value) : Prop where
  begin_ : ∃ f fd, FnP K "_law_begin" sBegin f fd ∧ mg "_law_begin" = some (.ref f)
  mixed : ∃ f fd, FnP K "_law_mixed" sMixed f fd ∧ mg "_law_mixed" = some (.ref f)
  next : ∃ f fd, FnP K "_law_next" sNext f fd ∧ mg "_law_next" = some (.ref f)
theorem low_app {x y : Str} (h : lowS x = true) (k : lowS y = true) : lowS (x ++ y) = true := by
  show (x.cps ++ y.cps).toList.all _ = true
  rw [Array.toList_append, List.all_append]
  have a : (x.cps.toList.all fun c => decide (c < 16 ^ 8)) = true := h
  have b : (y.cps.toList.all fun c => decide (c < 16 ^ 8)) = true := k
  rw [a, b]
  rfl
theorem low_repA (a : Array Nat) (h : (a.toList.all fun c => decide (c < 16 ^ 8)) = true) : ∀ (n : Nat) (b : Array Nat), (b.toList.all fun c => decide (c < 16 ^ 8)) = true → (((List.replicate n a).foldl (· ++ ·) b).toList.all fun c => decide (c < 16 ^ 8)) = true
  | 0, b, k => k
  | n + 1, b, k => by
    rw [List.replicate_succ, List.foldl_cons]
    refine low_repA a h n _ ?_
    rw [Array.toList_append, List.all_append, k, h]
    rfl
theorem low_rep (n : Nat) : lowS ⟨(List.replicate n ("x" : Str).cps).foldl (· ++ ·) #[]⟩ = true := low_repA _ (by decide +kernel) n #[] rfl
theorem low_key {r : Int} (h : 0 ≤ r) (k : r < 12) : lowS ("key" ++ (toString r : Str)) = true := by
  refine low_app (by decide +kernel) ?_
  obtain ⟨j, rfl⟩ := Int.eq_ofNat_of_zero_le h
  have hj : j < 12 := by omega
  match j, hj with
  | 0, _ => decide +kernel
  | 1, _ => decide +kernel
  | 2, _ => decide +kernel
  | 3, _ => decide +kernel
  | 4, _ => decide +kernel
  | 5, _ => decide +kernel
  | 6, _ => decide +kernel
  | 7, _ => decide +kernel
  | 8, _ => decide +kernel
  | 9, _ => decide +kernel
  | 10, _ => decide +kernel
  | 11, _ => decide +kernel
theorem key_in {r : Int} (h : 0 ≤ r) (k : r < 12) : ("key" ++ (toString r : Str)) ∈ SH := by
  obtain ⟨j, rfl⟩ := Int.eq_ofNat_of_zero_le h
  have hj : j < 12 := by omega
  match j, hj with
  | 0, _ => decide +kernel
  | 1, _ => decide +kernel
  | 2, _ => decide +kernel
  | 3, _ => decide +kernel
  | 4, _ => decide +kernel
  | 5, _ => decide +kernel
  | 6, _ => decide +kernel
  | 7, _ => decide +kernel
  | 8, _ => decide +kernel
  | 9, _ => decide +kernel
  | 10, _ => decide +kernel
  | 11, _ => decide +kernel
theorem sz (n : Nat) (h : n ≤ 1000) : n ≤ sizeLine := Nat.le_trans h (by decide)
section
variable {P : Program} {w : World} {K : PySem.W.Frag} {mg : Str → Option Value} {base : Heap}
theorem ok_atom {f : Addr} {fd : FuncData} (F : FnP K "_law_atom" sAtom f fd) (N : Nm K mg) (D : Dr K mg) : FnOk P w K mg base CX0 3 f fd ["draw"] spAtom := by
  obtain ⟨fX, dX, FX, gX⟩ := D.next
  obtain ⟨fM, dM, FM, gM⟩ := D.mixed
  have GX : FnOk P w K mg base CX0 2 fX dX ["draw", "bound"] spNext := ok_next FX FM gM N.len
  have bX : Binds K dX ["draw", "bound"] [] := FX.bindsN fun _ _ _ _ _ _ us hl => match us, hl with | [_, _], _ => rfl
  refine F.ok scAtom (fun vs H Q E h => ?_) (fun cdv A outer s H vs Q E hr h => ?_)
  · obtain ⟨p, N, rfl, _⟩ := h
    rfl
  · refine ⟨_, PSs.nox (pss_cons (ps_set (i := 1) scAtom.nd rfl (Or.inl rfl) (pe_op op_sub (pe_op op_powW (pe_op op_pow pe_int pe_int) pe_int) pe_int))
      (pss_cons (ps_set (i := 2) scAtom.nd rfl (Or.inl rfl) (pe_lst (pa_cons pe_non (pa_cons pe_bl (pa_cons pe_bl (pa_cons (pe_op op_sub (pe_call GX hr (by rfl) gX FX.kp bX .nil pass0 (pa_cons (pv 0) (pa_cons pe_int pa_nil))) pe_int) (pa_cons (pv 1) (pa_cons (pe_op op_sub pe_int (pv 1))
          (pa_cons (pe_op op_add (pe_op op_pow pe_int pe_int) (pe_call GX hr (by rfl) gX FX.kp bX .nil pass0 (pa_cons (pv 0) (pa_cons pe_int pa_nil)))) pa_nil)))))))))
      (pss_cons (ps_set (i := 2) scAtom.nd rfl (Or.inl rfl) (pe_op op_catS (pv 2) (pe_lst (pa_cons pe_str (pa_cons pe_str (pa_cons pe_str (pa_cons pe_str (pa_cons pe_str (pa_cons (pe_op op_mulS pe_str pe_int) (pa_cons (pe_op op_add_str pe_str (pe_callTy call_str_int (by rfl) N.str (by decide +kernel) (pa_cons (pe_call GX hr (by rfl) gX FX.kp bX .nil pass0 (pa_cons (pv 0) (pa_cons pe_int pa_nil))) pa_nil)))
          (pa_cons pe_int (pa_cons pe_int pa_nil))))))))))))
      (pss_one (ps_ret (pe_ix ix_list (pv 2) (pe_call GX hr (by rfl) gX FX.kp bX .nil pass0 (pa_cons (pv 0) (pa_cons pe_int pa_nil))) (fun _ _ => rfl))))))), ?_⟩
    obtain ⟨p, n, rfl, D0, hn, k⟩ := h
    refine ⟨_, _, rfl, rfl, ⟨by decide, by decide, by decide⟩, _, _, rfl, rfl, ⟨by decide, by decide +kernel⟩, _, _, rfl, rfl, ?_⟩
    have eg : (10 ^ (60 : Int).toNat : Int) ^ (5 : Int).toNat - 1 = big - 1 := by decide +kernel
    refine ⟨_, rfl, p, 600, n, rfl, D0, by omega, by decide, by decide, fun r1 H1 a1 b1 D1 k1 => ?_⟩
    refine ⟨_, _, rfl, rfl, _, rfl, _, rfl, _, _, rfl, rfl, _, _, rfl, rfl, ⟨by decide, by decide, by decide⟩, _, rfl, p, 9, n + 1, rfl, D1, by omega, by decide, by decide, fun r2 H2 a2 b2 D2 k2 => ?_⟩
    refine ⟨_, _, rfl, rfl, sz 7 (by decide), fun l1 n1 => ?_⟩
    have s3 := same_new (o := .lst [.non, .bl true, .bl false, .int (r1 - 300), .int ((10 ^ (60 : Int).toNat : Int) ^ (5 : Int).toNat - 1), .int (0 - ((10 ^ (60 : Int).toNat : Int) ^ (5 : Int).toNat - 1)), .int (10 ^ (40 : Int).toNat + r2)]) n1
    refine ⟨_, rfl, _, 2000, rfl, rfl, by decide, by decide +kernel, by decide +kernel, _, rfl, p, 12, n + 2, rfl, D2.same s3, by omega, by decide, by decide, fun r3 H3 a3 b3 D3 k3 => ?_⟩
    have lg : r3.natAbs.log2 < 1920 := Nat.lt_of_le_of_lt (Nat.log2_le_self _) (by omega)
    have tl : ((toString r3 : Str)).length ≤ 1921 := int_text_len_1921 lg
    refine ⟨r3, rfl, lg, _, _, rfl, rfl, Nat.le_trans (Nat.add_le_add_left tl _) (by decide +kernel), sz 9 (by decide), fun l2 n2 => ?_⟩
    have nl1 : l1 ≠ p := (D2.same s3).ne upd_same fun kvs z => by cases z
    have h3 := k3 l1 _ upd_same nl1
    have s4 := same_new (o := .lst [.str "", .str "a", .str "salt", .str "two\nlines", .str "q\"\\", .str ⟨(List.replicate 2000 ("x" : Str).cps).foldl (· ++ ·) #[]⟩, .str ("key" ++ (toString r3 : Str)), .int 0, .int 1]) n2
    refine ⟨l1, l2, _, _, rfl, rfl, SqL.of (s4 _ _ h3), SqL.of upd_same, sz 16 (by decide), fun l3 n3 => ?_⟩
    have s5 := same_new (o := .lst ([.non, .bl true, .bl false, .int (r1 - 300), .int ((10 ^ (60 : Int).toNat : Int) ^ (5 : Int).toNat - 1), .int (0 - ((10 ^ (60 : Int).toNat : Int) ^ (5 : Int).toNat - 1)), .int (10 ^ (40 : Int).toNat + r2)] ++ [.str "", .str "a", .str "salt", .str "two\nlines", .str "q\"\\", .str ⟨(List.replicate 2000 ("x" : Str).cps).foldl (· ++ ·) #[]⟩, .str ("key" ++ (toString r3 : Str)), .int 0, .int 1])) n3
    have D5 := (D3.same s4).same s5
    refine ⟨_, rfl, _, rfl, p, 16, n + 3, rfl, D5, by omega, by decide, by decide, fun r4 H4 a4 b4 D4 k4 => ?_⟩
    have nl3 : l3 ≠ p := D5.ne upd_same fun kvs z => by cases z
    have h5 := k4 l3 _ upd_same nl3
    have kp : Keep p H H4 := k1.trans (k2.trans ((Keep.of s3).trans (k3.trans ((Keep.of s4).trans ((Keep.of s5).trans k4)))))
    obtain ⟨j, rfl⟩ := Int.eq_ofNat_of_zero_le a4
    have hj : j < 16 := by omega
    rw [eg] at h5
    have key : ∃ v d, ([.non, .bl true, .bl false, .int (r1 - 300), .int (big - 1), .int (0 - (big - 1)), .int (10 ^ (40 : Int).toNat + r2)] ++ [.str "", .str "a", .str "salt", .str "two\nlines", .str "q\"\\", .str ⟨(List.replicate 2000 ("x" : Str).cps).foldl (· ++ ·) #[]⟩, .str ("key" ++ (toString r3 : Str)), .int 0, .int 1] : List V)[j]? = some v ∧ At v d := by
      have c1 : (1000 : Int) < big := by decide +kernel
      have c2 : (10 ^ (40 : Int).toNat : Int) + 1000 < big := by decide +kernel
      have c3 : (0 : Int) ≤ 10 ^ (40 : Int).toNat := by decide +kernel
      match j, hj with
      | 0, _ => exact ⟨_, _, rfl, .non⟩
      | 1, _ => exact ⟨_, _, rfl, .bl _⟩
      | 2, _ => exact ⟨_, _, rfl, .bl _⟩
      | 3, _ => exact ⟨_, _, rfl, .int _ (by omega) (by omega)⟩
      | 4, _ => exact ⟨_, _, rfl, .int _ (by omega) (by omega)⟩
      | 5, _ => exact ⟨_, _, rfl, .int _ (by omega) (by omega)⟩
      | 6, _ => exact ⟨_, _, rfl, .int _ (by omega) (by omega)⟩
      | 7, _ => exact ⟨_, _, rfl, .str _ (by decide) (by decide +kernel) (.inl (by decide +kernel))⟩
      | 8, _ => exact ⟨_, _, rfl, .str _ (by decide) (by decide +kernel) (.inl (by decide +kernel))⟩
      | 9, _ => exact ⟨_, _, rfl, .str _ (by decide) (by decide +kernel) (.inl (by decide +kernel))⟩
      | 10, _ => exact ⟨_, _, rfl, .str _ (by decide) (by decide +kernel) (.inl (by decide +kernel))⟩
      | 11, _ => exact ⟨_, _, rfl, .str _ (by decide) (by decide +kernel) (.inl (by decide +kernel))⟩
      | 12, _ => exact ⟨_, _, rfl, .str _ (by show Array.size _ ≤ 2000; rw [size_rep]; decide) (low_rep 2000) (.inr rfl)⟩
      | 13, _ => exact ⟨_, _, rfl, .str _ (by rw [strLen_append]; exact Nat.le_trans (Nat.add_le_add_left tl _) (by decide)) (low_key a3 b3) (.inl (key_in a3 b3))⟩
      | 14, _ => exact ⟨_, _, rfl, .int _ (by omega) (by omega)⟩
      | 15, _ => exact ⟨_, _, rfl, .int _ (by omega) (by omega)⟩
    obtain ⟨v, d, hv, ha⟩ := key
    exact ⟨l3, _, _, v, rfl, rfl, SqL.of h5, at_of rfl hv, k v d H4 ha D4 kp⟩
/-- what is short enough to be shown -/
structure Shw (d : PyData) : Prop where
  show_ : d.showable = true
  wt_ : wt d ≤ 20200
  dep : d.depth ≤ 9
theorem low_lenS {x : Str} (h : lowS x = true) (hl : x.length ≤ 2001) : wt (.str x) ≤ 20100 := by
  have z := StrLaws.reprText_len x fun c m => of_decide_eq_true (List.all_eq_true.mp h c m)
  show (reprText x).length ≤ 20100
  omega
theorem int_show {i : Int} (h : i.natAbs ≤ big.toNat) : (PyData.int i).showable = true := by
  show decide (i.natAbs.log2 < 1920) = true
  rw [decide_eq_true_iff]
  by_cases z : i.natAbs = 0
  · rw [z]
    decide
  · rw [Nat.log2_lt z]
    have b : big.toNat < 2 ^ 1920 := by decide +kernel
    exact Nat.lt_of_le_of_lt h b
theorem at_ok {v : V} {d : PyData} (h : At v d) : fits d ∧ Shw d ∧ isA d = true ∧ ∀ K H, Sd K H v d := by
  cases h with
  | non => exact ⟨fun x e => (by cases e), ⟨rfl, by decide, Nat.zero_le _⟩, rfl, fun _ _ => .non⟩
  | bl b => exact ⟨fun x e => (by cases e), ⟨rfl, (by show 5 ≤ 20200; decide), Nat.zero_le _⟩, rfl, fun _ _ => .bl b⟩
  | int i h1 h2 =>
    refine ⟨fun x e => (by cases e), ⟨int_show (by omega), (by show 1921 ≤ 20200; decide), Nat.zero_le _⟩, ?_, fun _ _ => .int i⟩
    show (decide (-big < i) && decide (i < big)) = true
    rw [decide_eq_true h1, decide_eq_true h2]
    rfl
  | str x hl hw _ =>
    refine ⟨fun y e => (by cases e; exact Nat.le_trans hl (by decide)), ⟨rfl, Nat.le_trans (low_lenS hw (by omega)) (by decide), Nat.zero_le _⟩, ?_, fun _ _ => .str x⟩
    show decide (x.length ≤ 2000) = true
    exact decide_eq_true hl
abbrev bE : Int := (10 ^ (60 : Int).toNat) ^ (5 : Int).toNat
theorem bE_eq : bE = big := by decide +kernel
theorem odd_str {x : Str} (h : 2000 < x.length) : isA (.str x) = false := by
  show decide (x.length ≤ 2000) = false
  exact decide_eq_false (by omega)
/-- no value -/
abbrev sOdd : Stmt := top 32
theorem scOdd : FnScope ["draw", "great"] ["draw"] (defScope sOdd) := ⟨rfl, rfl, rfl, by decide +kernel, rfl, by decide +kernel, by decide +kernel⟩
structure OddD (d : PyData) : Prop where
  fit : fits d
  shw : Shw d
  no : isA d = false
def spOdd (K : PySem.W.Frag) : Sp := fun vs H Q _ => ∃ (p : Addr) (N : Nat), vs = [.ref p] ∧ DrawAt H p N ∧ N < 100000 ∧ ∀ v d H', OddD d → (∀ H2, Keep p H' H2 → Sd K H2 v d) → DrawAt H' p (N + 1) → Keep p H H' → Q v H'
theorem ok_odd {f : Addr} {fd : FuncData} (F : FnP K "_law_odd" sOdd f fd) (N : Nm K mg) (D : Dr K mg) : FnOk P w K mg base CX0 3 f fd ["draw"] (spOdd K) := by
  obtain ⟨fX, dX, FX, gX⟩ := D.next
  obtain ⟨fM, dM, FM, gM⟩ := D.mixed
  have GX : FnOk P w K mg base CX0 2 fX dX ["draw", "bound"] spNext := ok_next FX FM gM N.len
  have bX : Binds K dX ["draw", "bound"] [] := FX.bindsN fun _ _ _ _ _ _ us hl => match us, hl with | [_, _], _ => rfl
  refine F.ok scOdd (fun vs H Q E h => ?_) (fun cdv A outer s H vs Q E hr h => ?_)
  · obtain ⟨p, N, rfl, _⟩ := h
    rfl
  · refine ⟨_, PSs.nox (pss_cons (ps_set (i := 1) scOdd.nd rfl (Or.inl rfl) (pe_op op_powW (pe_op op_pow pe_int pe_int) pe_int))
      (pss_one (ps_ret (pe_ix ix_list (pe_lst (pa_cons (pv 1) (pa_cons (pe_op op_sub pe_int (pv 1)) (pa_cons (pe_op op_mulS pe_str pe_int) (pa_cons (pe_lst (pa_cons pe_int pa_nil)) (pa_cons (pe_tup (pa_cons pe_int pa_nil)) (pa_cons pe_dnewK
          (pa_cons (pe_disp (pps_cons pe_str pe_int pps_nil) (by rfl) (by rfl) (fun z => by cases z) (by decide)) (pa_cons (pe_tup pa_nil) (pa_cons (pe_lst pa_nil) (pa_cons (pe_tup (pa_cons pe_str (pa_cons pe_int pa_nil))) pa_nil)))))))))))
        (pe_call GX hr (by rfl) gX FX.kp bX .nil pass0 (pa_cons (pv 0) (pa_cons pe_int pa_nil))) (fun _ _ => rfl))))), ?_⟩
    obtain ⟨p, n, rfl, D0, hn, k⟩ := h
    refine ⟨_, _, rfl, rfl, ⟨by decide, by decide, by decide⟩, _, _, rfl, rfl, ⟨by decide, by decide +kernel⟩, ?_⟩
    refine ⟨_, rfl, _, rfl, _, _, rfl, rfl, _, 2001, rfl, rfl, by decide, by decide +kernel, by decide +kernel, sz 1 (by decide), fun a1 n1 => ⟨sz 1 (by decide), fun a2 n2 => fun a3 n3 => fun a4 n4 => ⟨upd_same, [(.inr "a", .int 1)], rfl, by decide, Nat.zero_le _, fun a5 n5 => ⟨Nat.zero_le _, fun a6 n6 => ⟨sz 2 (by decide), fun a7 n7 => ⟨sz 10 (by decide), fun l nl => ?_⟩⟩⟩⟩⟩⟩
    have em : mergeK [] [((.inr "a" : Key), V.int 1)] = [(.inr "a", .int 1)] := by kernel_rfl
    rw [em] at *
    have u1 := same_new (o := .lst [.int 1]) n1
    have u2 := same_new (o := .tup [.int 1]) n2
    have u3 := same_new (o := .dK []) n3
    have u4 : Same (upd (upd (upd H a1 (.lst [.int 1])) a2 (.tup [.int 1])) a3 (.dK [])) (upd (upd (upd (upd (upd H a1 (.lst [.int 1])) a2 (.tup [.int 1])) a3 (.dK [])) a4 (.dK [])) a4 (.dK [(.inr "a", .int 1)])) := same_updN (same_new n4) n4
    have u5 := same_new (o := .tup []) n5
    have u6 := same_new (o := .lst []) n6
    have u7 := same_new (o := .tup [.str "a", .int 2]) n7
    have u8 := same_new (o := .lst [.int bE, .int (0 - bE), .str ⟨(List.replicate 2001 ("x" : Str).cps).foldl (· ++ ·) #[]⟩, .ref a1, .ref a2, .ref a3, .ref a4, .ref a5, .ref a6, .ref a7]) nl
    have t7 := u7.tr u8
    have t6 := u6.tr t7
    have t5 := u5.tr t6
    have t4 := u4.tr t5
    have t3 := u3.tr t4
    have t2 := u2.tr t3
    have t1 := u1.tr t2
    have D1 := D0.same t1
    have p0 : ∃ o, H p = some o := by
      obtain ⟨_, _, _, _, _, h1, _⟩ := D0
      exact ⟨_, h1⟩
    have nep : ∀ {H1 : Hp} {a : Addr}, Same H H1 → H1 a = none → a ≠ p := fun s n z => by
      obtain ⟨o, h1⟩ := p0
      rw [z, s _ _ h1] at n
      cases n
    refine ⟨_, rfl, p, 10, n, rfl, D1, by omega, by decide, by decide, fun r H1 ra rb D2 k2 => ?_⟩
    have kp : Keep p H H1 := (Keep.of t1).trans k2
    have q1 := k2 a1 _ (t2 _ _ upd_same) (nep Same.refl' n1)
    have q2 := k2 a2 _ (t3 _ _ upd_same) (nep u1 n2)
    have q3 := k2 a3 _ (t4 _ _ upd_same) (nep (u1.tr u2) n3)
    have q4 := k2 a4 _ (t5 _ _ upd_same) (nep (u1.tr (u2.tr u3)) n4)
    have q5 := k2 a5 _ (t6 _ _ upd_same) (nep (u1.tr (u2.tr (u3.tr u4))) n5)
    have q6 := k2 a6 _ (t7 _ _ upd_same) (nep (u1.tr (u2.tr (u3.tr (u4.tr u5)))) n6)
    have q7 := k2 a7 _ (u8 _ _ upd_same) (nep (u1.tr (u2.tr (u3.tr (u4.tr (u5.tr u6))))) n7)
    have ql := k2 l _ upd_same (nep (u1.tr (u2.tr (u3.tr (u4.tr (u5.tr (u6.tr u7)))))) nl)
    obtain ⟨v, d, hv, hd, hs⟩ : ∃ v d, ([.int bE, .int (0 - bE), .str ⟨(List.replicate 2001 ("x" : Str).cps).foldl (· ++ ·) #[]⟩, .ref a1, .ref a2, .ref a3, .ref a4, .ref a5, .ref a6, .ref a7] : List V)[r.toNat]? = some v ∧ OddD d ∧ ∀ H2, Keep p H1 H2 → Sd K H2 v d := by
      obtain ⟨j, rfl⟩ := Int.eq_ofNat_of_zero_le ra
      have hj : j < 10 := by omega
      match j, hj with
      | 0, _ => exact ⟨_, .int bE, rfl, ⟨fun x e => (by cases e), ⟨int_show (by rw [bE_eq]; decide +kernel), (by show 1921 ≤ 20200; decide), Nat.zero_le _⟩, by decide +kernel⟩, fun _ _ => .int _⟩
      | 1, _ => exact ⟨_, .int (0 - bE), rfl, ⟨fun x e => (by cases e), ⟨int_show (by rw [bE_eq]; decide +kernel), (by show 1921 ≤ 20200; decide), Nat.zero_le _⟩, by decide +kernel⟩, fun _ _ => .int _⟩
      | 2, _ => exact ⟨_, .str _, rfl, ⟨fun x e => (by cases e; show Array.size _ ≤ sizeLine; rw [size_rep]; decide), ⟨rfl, Nat.le_trans (low_lenS (low_rep 2001) (by show Array.size _ ≤ 2001; rw [size_rep]; decide)) (by decide), Nat.zero_le _⟩, odd_str (by show 2000 < Array.size _; rw [size_rep]; decide)⟩, fun _ _ => .str _⟩
      | 3, _ => exact ⟨_, .list [.int 1], rfl, ⟨fun x e => (by cases e), ⟨by decide, by decide, by decide⟩, rfl⟩, fun H2 k3 => .lst (SqL.of (k3 a1 _ q1 (nep Same.refl' n1))) (.cons (.int 1) .nil)⟩
      | 4, _ => exact ⟨_, .tuple [.int 1], rfl, ⟨fun x e => (by cases e), ⟨by decide, by decide, by decide⟩, rfl⟩, fun H2 k3 => .tup (SqT.of (k3 a2 _ q2 (nep u1 n2))) (.cons (.int 1) .nil)⟩
      | 5, _ => exact ⟨_, .dict [], rfl, ⟨fun x e => (by cases e), ⟨by decide, by decide, by decide⟩, rfl⟩, fun H2 k3 => .emp (k3 a3 _ q3 (nep (u1.tr u2) n3))⟩
      | 6, _ => exact ⟨_, .dict [(.str "a", .int 1)], rfl, ⟨fun x e => (by cases e), ⟨by decide, by decide +kernel, by decide⟩, rfl⟩, fun H2 k3 => .one (k := .inr "a") (k3 a4 _ q4 (nep (u1.tr (u2.tr u3)) n4)) (.int 1)⟩
      | 7, _ => exact ⟨_, .tuple [], rfl, ⟨fun x e => (by cases e), ⟨by decide, by decide, by decide⟩, rfl⟩, fun H2 k3 => .tup (SqT.of (k3 a5 _ q5 (nep (u1.tr (u2.tr (u3.tr u4))) n5))) .nil⟩
      | 8, _ => exact ⟨_, .list [], rfl, ⟨fun x e => (by cases e), ⟨by decide, by decide, by decide⟩, rfl⟩, fun H2 k3 => .lst (SqL.of (k3 a6 _ q6 (nep (u1.tr (u2.tr (u3.tr (u4.tr u5)))) n6))) .nil⟩
      | 9, _ => exact ⟨_, .tuple [.str "a", .int 2], rfl, ⟨fun x e => (by cases e), ⟨by decide, by decide +kernel, by decide⟩, rfl⟩, fun H2 k3 => .tup (SqT.of (k3 a7 _ q7 (nep (u1.tr (u2.tr (u3.tr (u4.tr (u5.tr u6))))) n7))) (.cons (.str _) (.cons (.int 2) .nil))⟩
    exact ⟨l, _, _, v, rfl, rfl, SqL.of ql, at_of (Int.toNat_of_nonneg ra).symm hv, k v d H1 hd hs D2 kp⟩
end
end Kb

set_option Elab.async false
set_option linter.all false
set_option maxRecDepth 100000
set_option maxHeartbeats 2000000
namespace Kb
open PySem PySem.Spec PyProof.Rows L2 StX ClX
abbrev sLike : Stmt := top 33
theorem scLike : FnScope ["one", "other"] ["one", "other"] (defScope sLike) := ⟨rfl, rfl, rfl, by decide +kernel, rfl, by decide +kernel, by decide +kernel⟩
/-- a thing that can be shown, if it is to be -/
def shwT : Tk → Prop
  | .dat d => Shw d
  | .nod _ => True
theorem Shw.fit {d : PyData} (h : Shw d) : d.depth ≤ 40 ∧ d.shown.length ≤ sizeLine := ⟨Nat.le_trans h.dep (by decide), shown_fits h.show_ (Nat.le_trans h.wt_ (by decide))⟩
/-- alike: the same -/
def spLike (K : PySem.W.Frag) : Sp := fun vs H Q _ => ∃ (v : V) (k : Tk), vs = [v, v] ∧ Tv K (CN K) H v k ∧ shwT k ∧ Q (.bl true) H
section
variable {P : Program} {w : World} {K : PySem.W.Frag} {mg : Str → Option Value} {base : Heap}
theorem ok_like {f : Addr} {fd : FuncData} (F : FnP K "_law_like" sLike f fd) (N : Nm K mg) (SY : SysK K) : FnG P w K mg base CX0 2 f fd ["one", "other"] (spLike K) := by
  refine F.okG scLike (fun vs H Q E h => ?_) (fun cdv A outer s H vs Q E hgu hr h => ?_)
  · obtain ⟨v, k, rfl, _⟩ := h
    rfl
  · have hu1 := Nat.lt_of_succ_lt (hu_of hr)
    refine ⟨_, PSs.nox (pss_cons (ps_if (PW.pt (pw_or (pt_val (pe_callB (call_isN N.dat) (by rfl) N.isi (by decide +kernel) (pa_cons (pv 0) (pa_cons (pe_glob (v := .ref (CN K)) (by rfl) N.node rfl) pa_nil))))
          (pw_or1 (pt_val (pe_callB (call_isN N.dat) (by rfl) N.isi (by decide +kernel) (pa_cons (pv 1) (pa_cons (pe_glob (v := .ref (CN K)) (by rfl) N.node rfl) pa_nil)))))))
        (pss_one (ps_ret (pe_cmpR (op_eqO hu1) (pv 0) (pv 1) (nomark _)))) pss_nil)
      (pss_one (ps_ret (pe_cmpR op_eq (pe_callB (call_repr hgu hr SY) (by rfl) N.repr boot_repr (pa_cons (pv 0) pa_nil)) (pe_callB (call_repr hgu hr SY) (by rfl) N.repr boot_repr (pa_cons (pv 1) pa_nil)) (nomark _))))), ?_⟩
    obtain ⟨v, k, rfl, hv, hs, q⟩ := h
    refine ⟨_, rfl, v, k, rfl, hv, _, rfl, ?_⟩
    cases k with
    | nod C =>
      obtain ⟨n, a, dx, fs, rfl, e⟩ := hv
      refine iteT (iteT ⟨_, rfl, _, rfl, a, a, C, C, dx, dx, fs, fs, true, rfl, rfl, e, e, n.eqc, n.eqc, n.mro, ?_⟩)
      rw [decide_eq_true rfl]
      exact q
    | dat d =>
      refine iteF ⟨_, rfl, v, _, rfl, hv, _, rfl, iteF ?_⟩
      have hs' : Shw d := hs
      refine ⟨_, rfl, v, d, rfl, hv, hs'.show_, hs'.fit.1, hs'.fit.2, _, rfl, v, d, rfl, hv, hs'.show_, hs'.fit.1, hs'.fit.2, rfl, ?_⟩
      rw [decide_eq_true rfl]
      exact q
end
/-- a node with its items -/
def NodAt (C : Addr) (fld : Str) (ho : List V → HO) (H : Hp) (n : Addr) (ws : List V) : Prop := ∃ dx p, H n = some (.ins C dx [(fld, .ref p)]) ∧ H p = some (ho ws)
def spInit (K : PySem.W.Frag) (C : Addr) (fld : Str) (ho : List V → HO) (CV : Addr) : Sp := fun vs H Q E => ∃ (a dx : Addr) (ws : List V) (ks : List Tk) (H0 : Hp), vs = .ref a :: ws ∧ H a = some (.ins C dx []) ∧ H0 a = none ∧ Same H0 H ∧ TvAll K (CN K) H0 ws ks ∧ ws.length ≤ 60 ∧ (∀ k ∈ ks, fitsT k) ∧
  (badAt ks = none → ∀ p H', Same H0 H' → H0 p = none → H' a = some (.ins C dx [(fld, .ref p)]) → H' p = some (ho ws) → Q .non H') ∧ (∀ n v, badAt ks = some n → ws[n]? = some v → Err CV "value" v H0 E)
def spInitT (K : PySem.W.Frag) (C : Addr) (fld : Str) (ho : List V → HO) (CV : Addr) : Sp := fun vs H Q E => ∃ (a t dx : Addr) (ws : List V) (ks : List Tk) (H0 : Hp), vs = [.ref a, .ref t] ∧ H0 t = none ∧ H t = some (.tup ws) ∧ H a = some (.ins C dx []) ∧ H0 a = none ∧ Same H0 H ∧ TvAll K (CN K) H0 ws ks ∧ ws.length ≤ 60 ∧ (∀ k ∈ ks, fitsT k) ∧
  (badAt ks = none → ∀ p H', Same H0 H' → H0 p = none → H' a = some (.ins C dx [(fld, .ref p)]) → H' p = some (ho ws) → Q .non H') ∧ (∀ n v, badAt ks = some n → ws[n]? = some v → Err CV "value" v H0 E)
/-- what a new node's field holds is new -/
def Fr (fld : Str) (H H' : Hp) (n : Addr) : Prop := ∀ C dx p, H' n = some (.ins C dx [(fld, .ref p)]) → H p = none
/-- a node is made of ws, or the error that is due comes -/
def MkSeq (K : PySem.W.Frag) (C : Addr) (fld : Str) (ho : List V → HO) (CV : Addr) (ws : List V) (ks : List Tk) (H : Hp) (Q : VK) (E : XK) : Prop :=
  TvAll K (CN K) H ws ks ∧ ws.length ≤ 60 ∧ (∀ k ∈ ks, fitsT k) ∧ (badAt ks = none → ∀ n H', Same H H' → H n = none → NodAt C fld ho H' n ws → Fr fld H H' n → Q (.ref n) H') ∧ (∀ n v, badAt ks = some n → ws[n]? = some v → Err CV "value" v H E)
theorem mkSeq {K : PySem.W.Frag} {C : Addr} {fld : Str} {ho : List V → HO} {CV : Addr} {ws : List V} {ks : List Tk} {H : Hp} {Q : VK} {E : XK} (m : MkSeq K C fld ho CV ws ks H Q E) (n dx : Addr) (hn : H n = none) (hd : H dx = none) (ne : dx ≠ n) :
    spInit K C fld ho CV (V.ref n :: ws) (upd (upd H dx (.own n)) n (.ins C dx [])) (fun v H2 => v = .non ∧ Q (.ref n) H2) E := by
  obtain ⟨m1, m2, m3, m4, m5⟩ := m
  have s : Same H (upd (upd H dx (.own n)) n (.ins C dx [])) := fun b o e => by
    rw [upd_ne (ne_of_none e hn), upd_ne (ne_of_none e hd)]
    exact e
  exact ⟨n, dx, ws, ks, H, rfl, upd_same, hn, s, m1, m2, m3, fun b p H' h1 hp h2 h3 => ⟨rfl, m4 b n H' h1 hn ⟨dx, p, h2, h3⟩ fun C' dx' p' z => by
    rw [h2] at z
    cases z
    exact hp⟩, m5⟩
theorem mkSeq_to {K : PySem.W.Frag} {C : Addr} {fld : Str} {ho : List V → HO} {CV : Addr} {ws : List V} {ks : List Tk} {H H1 : Hp} {Q : VK} {E : XK} (s : Same H H1) (m : MkSeq K C fld ho CV ws ks H Q E) : MkSeq K C fld ho CV ws ks H1 Q E := by
  obtain ⟨m1, m2, m3, m4, m5⟩ := m
  exact ⟨tvall_to s m1, m2, m3, fun b n H' h1 h2 h3 h4 => m4 b n H' (s.tr h1) (none_of s h2) h3 fun C' dx' p' z => none_of s (h4 C' dx' p' z), fun n v b e => err_to s (m5 n v b e)⟩
theorem scRowI : FnScope ["self", "parts"] ((["self"] : List Str) ++ (["parts"] : List Str)) (defScope sRowI) := ⟨rfl, rfl, rfl, by decide +kernel, rfl, by decide +kernel, by decide +kernel⟩
section
variable {P : Program} {w : World} {K : PySem.W.Frag} {mg : Str → Option Value} {base : Heap} {C : Addr}
theorem ok_rowI {f : Addr} {fd : FuncData} (c : Cls K C) (na : NoAttr K C "_sequence") (F : FnM K "__init__" "Row.__init__" sRowI [] f fd) (N : Nm K mg) (T : Ts K mg) (S : Es P w K mg base) (R : Rq K mg) : FnR P w K mg base (L2.CX P w) 7 f (spInit K C "_sequence" HO.lst (gC K "InvalidValue")) := by
  obtain ⟨fa, da, FA, gA⟩ := R.reqs
  have GA : FnOk P w K mg base (L2.CX P w) 6 fa da ["parts"] (spReqs K (gC K "InvalidValue")) := ok_reqs FA N T S R
  have bA : Binds K da ["parts"] [] := FA.bindsN fun _ _ _ _ _ _ us hl => match us, hl with | [_], _ => rfl
  obtain ⟨oc, od, dV, kV', doc, pm, an, cdv, ct, osl, rfl, lk, hcd, hD, hK⟩ := F.ex
  obtain rfl : dV = .none := hD.elim (fun z => z.2) fun z => absurd rfl z.1
  have R := fn_star (P := P) (w := w) (mg := mg) (base := base) (CX := L2.CX P w) (k := 6) (ps := ["self"]) (pv := "parts") lk hcd scRowI cxUp (fun us rest hl => ?bind) (sp := spInitT K C "_sequence" HO.lst (gC K "InvalidValue")) fun A outer s H vs Q E hr h => ?body
  case bind =>
    match us, hl with
    | [u], _ => exact bind_star1 (B := fun us => bindArgs (PySem.W.fnOf "__init__" "Row.__init__" (defArgs sRowI) (defBody sRowI) (defScope sRowI) .none kV' doc pm an cdv ct) ⟨us, []⟩) (fun _ => rfl) (fun _ _ _ => rfl) [u] rest rfl
  case body =>
    refine ⟨_, pss_cons (ps_expr (pe_callS GA hr (by rfl) gA FA.kp bA (fun σ => passAt (takes_of rfl rfl rfl rfl) σ) (pa_cons (pv 1) pa_nil)))
      (pss_one (ps_fld (pv 0) (pe_callTy call_list_of (by rfl) N.list (by decide +kernel) (pa_cons (pv 1) pa_nil)) (by rfl))), ?_⟩
    obtain ⟨a, t, dx, ws, ks, H0, rfl, t0, ht, ha, a0, s0, hk, hl, hf, k0, k1⟩ := h
    refine ⟨_, rfl, t, ws, ks, rfl, SqT.of ht, tvall_to s0 hk, hf, fun b => ?_, fun n v b e => err_to s0 (k1 n v b e)⟩
    refine ⟨_, rfl, t, ws, rfl, .inr (SqT.of ht), fun l nl => ?_⟩
    have nla : l ≠ a := fun z => by
      rw [z, ha] at nl
      cases nl
    have ha2 : (upd H l (.lst ws)) a = some (.ins C dx []) := by rw [upd_ne nla.symm]; exact ha
    exact ⟨_, rfl, a, C, dx, [], rfl, ha2, c, na, by decide, k0 b l _ (same_updN (s0.tr (same_new nl)) a0) (none_of s0 nl) upd_same (by rw [upd_ne nla, upd_same])⟩
  intro A outer s H us vs Q E hr e0 r hsp
  obtain ⟨a, dx, ws, ks, H0, rfl, ha, a0, s0, hk, hl, hf, k0, k1⟩ := hsp
  refine R A outer s H us _ Q E hr e0 r ⟨[.ref a], ws, rfl, rfl, Nat.le_trans hl (by decide), fun p np => ?_⟩
  have s1 := same_new (o := .tup ws) np
  exact ⟨a, p, dx, ws, ks, H0, rfl, none_of s0 np, upd_same, s1 _ _ ha, a0, s0.tr s1, hk, hl, hf, k0, k1⟩
end
/-- an atom of the law, or a node -/
def Ev (K : PySem.W.Frag) (H : Hp) (v : V) : Tk → Prop
  | .dat d => At v d
  | .nod C => NodC K (CN K) C ∧ ∃ a dx fs, v = .ref a ∧ H a = some (.ins C dx fs)
inductive EvAll (K : PySem.W.Frag) (H : Hp) : List V → List Tk → Prop
  | nil : EvAll K H [] []
  | cons {v : V} {k : Tk} {vs : List V} {ks : List Tk} : Ev K H v k → EvAll K H vs ks → EvAll K H (v :: vs) (k :: ks)
/-- the objects of the program's own classes stand -/
def KI (H H' : Hp) : Prop := ∀ a C dx fs, H a = some (.ins C dx fs) → H' a = some (.ins C dx fs)
theorem KI.of {H H' : Hp} (s : Same H H') : KI H H' := fun _ _ _ _ e => s _ _ e
theorem KI.tr {H H1 H2 : Hp} (a : KI H H1) (b : KI H1 H2) : KI H H2 := fun x C dx fs e => b x C dx fs (a x C dx fs e)
theorem KI.lst {H : Hp} {q : Addr} {xs : List V} {o : HO} (h : H q = some (.lst xs)) : KI H (upd H q o) := fun a C dx fs e => by
  rw [upd_ne (fun z => by rw [z, h] at e; cases e)]
  exact e
theorem KI.keep {H H' : Hp} {p l : Addr} (c : CellsAt H p l) (k : Keep p H H') : KI H H' := fun a C dx fs e => k a _ e fun z => by
  obtain ⟨x, y, z', h⟩ := c
  rw [z, h] at e
  cases e
section
variable {K : PySem.W.Frag} {H H' : Hp}
theorem Ev.to {v : V} {k : Tk} (h : Ev K H v k) (s : KI H H') : Ev K H' v k := by
  cases k with
  | dat d => exact h
  | nod C =>
    obtain ⟨n, a, dx, fs, e, ha⟩ := h
    exact ⟨n, a, dx, fs, e, s _ _ _ _ ha⟩
theorem Ev.tv {v : V} {k : Tk} (h : Ev K H v k) : Tv K (CN K) H v k := by
  cases k with
  | dat d => exact (at_ok (show At v d from h)).2.2.2 K H
  | nod C => exact h
theorem Ev.fit {v : V} {k : Tk} (h : Ev K H v k) : fitsT k ∧ shwT k ∧ okT k = true := by
  cases k with
  | dat d =>
    obtain ⟨a, b, c, _⟩ := at_ok (show At v d from h)
    exact ⟨a, b, c⟩
  | nod C => exact ⟨True.intro, True.intro, rfl⟩
theorem EvAll.to : ∀ {vs : List V} {ks : List Tk}, EvAll K H vs ks → KI H H' → EvAll K H' vs ks
  | _, _, .nil, _ => .nil
  | _, _, .cons h t, s => .cons (h.to s) (t.to s)
theorem EvAll.tv : ∀ {vs : List V} {ks : List Tk}, EvAll K H vs ks → TvAll K (CN K) H vs ks
  | _, _, .nil => .nil
  | _, _, .cons h t => .cons h.tv t.tv
theorem EvAll.fit : ∀ {vs : List V} {ks : List Tk}, EvAll K H vs ks → (∀ k ∈ ks, fitsT k) ∧ (∀ k ∈ ks, shwT k) ∧ (∀ k ∈ ks, okT k = true)
  | _, _, .nil => ⟨fun _ m => (List.not_mem_nil m).elim, fun _ m => (List.not_mem_nil m).elim, fun _ m => (List.not_mem_nil m).elim⟩
  | _, _, .cons h t => by
    obtain ⟨a, b, c⟩ := t.fit
    obtain ⟨x, y, z⟩ := h.fit
    refine ⟨fun k m => ?_, fun k m => ?_, fun k m => ?_⟩
    · rcases List.mem_cons.mp m with m | m
      · rw [m]; exact x
      · exact a k m
    · rcases List.mem_cons.mp m with m | m
      · rw [m]; exact y
      · exact b k m
    · rcases List.mem_cons.mp m with m | m
      · rw [m]; exact z
      · exact c k m
theorem EvAll.ok {vs : List V} {ks : List Tk} (h : EvAll K H vs ks) : badAt ks = none := bad_none ks fun j x hx => h.fit.2.2 x (List.mem_of_getElem? hx)
theorem EvAll.app : ∀ {vs ws : List V} {ks ls : List Tk}, EvAll K H vs ks → EvAll K H ws ls → EvAll K H (vs ++ ws) (ks ++ ls)
  | _, _, _, _, .nil, b => b
  | _, _, _, _, .cons h a, b => .cons h (a.app b)
theorem EvAll.set : ∀ {vs : List V} {ks : List Tk} (j : Nat) {v : V} {k : Tk}, EvAll K H vs ks → Ev K H v k → EvAll K H (vs.set j v) (ks.set j k)
  | _, _, _, _, _, .nil, _ => .nil
  | _, _, 0, _, _, .cons h a, b => .cons b a
  | _, _, j + 1, _, _, .cons h a, b => .cons h (a.set j b)
theorem EvAll.len : ∀ {vs : List V} {ks : List Tk}, EvAll K H vs ks → vs.length = ks.length
  | _, _, .nil => rfl
  | _, _, .cons _ t => by rw [List.length_cons, List.length_cons, t.len]
theorem EvAll.get : ∀ {vs : List V} {ks : List Tk} {i : Nat} {v : V}, EvAll K H vs ks → vs[i]? = some v → ∃ k, ks[i]? = some k ∧ Ev K H v k
  | _, _, 0, _, .cons h _, e => by
    cases e
    exact ⟨_, rfl, h⟩
  | _, _, i + 1, _, .cons _ a, e => a.get e
end
/-- two texts or a text and a datum, in a list -/
theorem pair_shw {z : Str} {d : PyData} (hz : (reprText z).length ≤ 100) (h : Shw d) : (PyData.list [.str z, d]).showable = true ∧ (PyData.list [.str z, d]).depth ≤ 40 ∧ (PyData.list [.str z, d]).shown.length ≤ sizeLine := by
  have s1 : (PyData.list [.str z, d]).showable = true := by
    show (true && (d.showable && true)) = true
    rw [h.show_]
    rfl
  refine ⟨s1, ?_, shown_fits s1 ?_⟩
  · have e := h.dep
    show max 0 (max d.depth 0) + 1 ≤ 40
    omega
  · have e := h.wt_
    show (reprText z).length + 2 + (wt d + 2 + 0) + 2 ≤ sizeLine
    have : 30000 ≤ sizeLine := by decide
    omega
theorem pairs_shw {z : Str} {d : PyData} (hz : (reprText z).length ≤ 100) (h : Shw d) : (PyData.list [.list [.str z, d], .list [.str z, d]]).showable = true ∧ (PyData.list [.list [.str z, d], .list [.str z, d]]).depth ≤ 40 ∧ (PyData.list [.list [.str z, d], .list [.str z, d]]).shown.length ≤ sizeLine := by
  have s1 : (PyData.list [.list [.str z, d], .list [.str z, d]]).showable = true := by
    show ((true && (d.showable && true)) && ((true && (d.showable && true)) && true)) = true
    rw [h.show_]
    rfl
  refine ⟨s1, ?_, shown_fits s1 ?_⟩
  · have e := h.dep
    show max (max 0 (max d.depth 0) + 1) (max (max 0 (max d.depth 0) + 1) 0) + 1 ≤ 40
    omega
  · have e := h.wt_
    show ((reprText z).length + 2 + (wt d + 2 + 0) + 2) + 2 + (((reprText z).length + 2 + (wt d + 2 + 0) + 2) + 2 + 0) + 2 ≤ sizeLine
    have : 60000 ≤ sizeLine := by decide
    omega
theorem draw_upd {H : Hp} {p l a : Addr} {N : Nat} {o : HO} (d : DrawAt H p N) (c : CellsAt H p l) (n1 : a ≠ p) (n2 : a ≠ l) : DrawAt (upd H a o) p N ∧ CellsAt (upd H a o) p l := by
  obtain ⟨l', cs, x, y, z, h1, h2, r⟩ := d
  obtain rfl := cells_one ⟨x, y, z, h1⟩ c
  have e1 : (upd H a o) p = some (.dK (drawKv l' x y z)) := by rw [upd_ne n1.symm]; exact h1
  exact ⟨⟨l', cs, x, y, z, e1, by rw [upd_ne n2.symm]; exact h2, r⟩, ⟨x, y, z, e1⟩⟩
theorem draw_cells {H : Hp} {p : Addr} {N : Nat} (d : DrawAt H p N) : ∃ l, CellsAt H p l ∧ ∃ o, H l = some o := by
  obtain ⟨l, cs, x, y, z, h1, h2, r⟩ := d
  exact ⟨l, ⟨x, y, z, h1⟩, _, h2⟩
theorem cells_same {H H' : Hp} {p l : Addr} (c : CellsAt H p l) (s : Same H H') : CellsAt H' p l := by
  obtain ⟨x, y, z, h⟩ := c
  exact ⟨x, y, z, s _ _ h⟩
end Kb

set_option Elab.async false
set_option linter.all false
set_option maxRecDepth 100000
set_option maxHeartbeats 2000000
namespace Kb
open PySem PySem.Spec PyProof.Rows L2 StX ClX
abbrev sLKey : Stmt := top 34
abbrev sLVal : Stmt := top 35
theorem scLKey : FnScope ["what"] ["what"] (defScope sLKey) := ⟨rfl, rfl, rfl, by decide +kernel, rfl, by decide +kernel, by decide +kernel⟩
theorem scLVal : FnScope ["what"] ["what"] (defScope sLVal) := ⟨rfl, rfl, rfl, by decide +kernel, rfl, by decide +kernel, by decide +kernel⟩
def spKeyD (K : PySem.W.Frag) : Sp := fun vs H Q _ => ∃ (v : V) (d : PyData), vs = [v] ∧ Sd K H v d ∧ fits d ∧ Q (.bl (isK d)) H
def spVal (K : PySem.W.Frag) : Sp := fun vs H Q _ => ∃ (v : V) (k : Tk), vs = [v] ∧ Tv K (CN K) H v k ∧ fitsT k ∧ ∀ H', Same H H' → Q (.bl (okT k)) H'
section
variable {P : Program} {w : World} {K : PySem.W.Frag} {mg : Str → Option Value} {base : Heap}
theorem big_eq : (10 ^ (60 : Int).toNat : Int) ^ (5 : Int).toNat = big := by decide +kernel
theorem ok_lkey {f : Addr} {fd : FuncData} (F : FnP K "_law_is_key" sLKey f fd) (N : Nm K mg) : FnOk P w K mg base CX0 1 f fd ["what"] (spKeyD K) := by
  refine F.ok scLKey (fun vs H Q E h => ?_) (fun cdv A outer s H vs Q E hr h => ?_)
  · obtain ⟨v, d, rfl, _⟩ := h
    rfl
  · refine ⟨_, PSs.nox (pss_cons (ps_if (pt_val (pe_callB call_isD (by rfl) N.isi (by decide +kernel) (pa_cons (pv 0) (pa_cons (pe_bltn (v := .ty "str") (by rfl) N.str (by decide +kernel) rfl) pa_nil)))) (pss_one (ps_ret (pe_cmpR op_le (pe_callB call_len (by rfl) N.len PySem.boot_len (pa_cons (pv 0) pa_nil)) pe_int (nomark _)))) pss_nil)
      (pss_cons (ps_if (PW.pt (pw_or (pt_not (pt_val (pe_callB call_isD (by rfl) N.isi (by decide +kernel) (pa_cons (pv 0) (pa_cons (pe_bltn (v := .ty "int") (by rfl) N.int (by decide +kernel) rfl) pa_nil)))))
          (pw_or1 (pt_val (pe_callB call_isD (by rfl) N.isi (by decide +kernel) (pa_cons (pv 0) (pa_cons (pe_bltn (v := .ty "bool") (by rfl) N.bool (by decide +kernel) rfl) pa_nil))))))) (pss_one (ps_ret pe_bl)) pss_nil)
      (pss_one (ps_ret (pe_chain op_lt op_lt (pe_op op_sub pe_int (pe_op op_powW (pe_op op_pow pe_int pe_int) pe_int)) (pv 0) (pe_op op_powW (pe_op op_pow pe_int pe_int) pe_int)))))), ?_⟩
    obtain ⟨v, d, rfl, hv, hf, k⟩ := h
    refine ⟨_, rfl, v, d, "str", rfl, rfl, hv, _, rfl, ?_⟩
    cases d with
    | str x =>
      cases hv
      refine iteT ⟨_, rfl, _, x.length, rfl, ⟨hf x rfl, rfl⟩, _, _, rfl, rfl, ?_⟩
      have e : decide ((x.length : Int) ≤ 2000) = isK (.str x) := by
        show _ = decide (x.length ≤ 2000)
        rw [Bool.eq_iff_iff, decide_eq_true_iff, decide_eq_true_iff]
        omega
      rw [← e] at k
      exact k
    | int i =>
      refine iteF ⟨_, rfl, v, _, "int", rfl, rfl, hv, _, rfl, iteF ⟨_, rfl, v, _, "bool", rfl, rfl, hv, _, rfl, iteF ?_⟩⟩
      cases hv
      refine ⟨_, _, rfl, rfl, ⟨by decide, by decide, by decide⟩, _, _, rfl, rfl, ⟨by decide, by decide +kernel⟩, _, _, rfl, rfl, ?_⟩
      refine ⟨_, rfl, _, _, rfl, rfl, _, rfl, ?_⟩
      dsimp only
      rw [big_eq]
      have e0 : (0 : Int) - big = -big := by omega
      rw [e0]
      by_cases c : -big < i
      · rw [decide_eq_true c]
        refine iteT ⟨_, _, rfl, rfl, ⟨by decide, by decide, by decide⟩, _, _, rfl, rfl, ⟨by decide, by decide +kernel⟩, _, _, rfl, rfl, ?_⟩
        dsimp only
        rw [big_eq]
        have e : isK (.int i) = decide (i < big) := by
          show (decide (-big < i) && decide (i < big)) = _
          rw [decide_eq_true c, Bool.true_and]
        rw [e] at k
        exact k
      · rw [decide_eq_false c]
        refine iteF ?_
        have e : isK (.int i) = false := by
          show (decide (-big < i) && decide (i < big)) = _
          rw [decide_eq_false c, Bool.false_and]
        rw [e] at k
        exact k
    | bool b => exact iteF ⟨_, rfl, v, _, "int", rfl, rfl, hv, _, rfl, iteF ⟨_, rfl, v, _, "bool", rfl, rfl, hv, _, rfl, iteT k⟩⟩
    | none => exact iteF ⟨_, rfl, v, _, "int", rfl, rfl, hv, _, rfl, iteT (iteT k)⟩
    | list _ => exact iteF ⟨_, rfl, v, _, "int", rfl, rfl, hv, _, rfl, iteT (iteT k)⟩
    | tuple _ => exact iteF ⟨_, rfl, v, _, "int", rfl, rfl, hv, _, rfl, iteT (iteT k)⟩
    | dict _ => exact iteF ⟨_, rfl, v, _, "int", rfl, rfl, hv, _, rfl, iteT (iteT k)⟩
theorem kit_any {t u1 u2 : Value} {b1 b2 : Bool} (h1 : PySem.W.kitOne K t u1 = some b1) (h2 : PySem.W.kitOne K t u2 = some b2) : PySem.W.kitAny K t [u1, u2] = some (b1 || b2) := by
  unfold PySem.W.kitAny
  rw [h1]
  cases b1 with
  | true => rfl
  | false =>
    unfold PySem.W.kitAny
    rw [h2]
    cases b2 <;> rfl
theorem ok_lval {f : Addr} {fd : FuncData} (F : FnP K "_law_is_value" sLVal f fd) (N : Nm K mg) (LK : ∃ f fd, FnP K "_law_is_key" sLKey f fd ∧ mg "_law_is_key" = some (.ref f)) : FnOk P w K mg base CX0 2 f fd ["what"] (spVal K) := by
  obtain ⟨fk, dk, FK, gK⟩ := LK
  have GK : FnOk P w K mg base CX0 1 fk dk ["what"] (spKeyD K) := ok_lkey FK N
  have bK : Binds K dk ["what"] [] := FK.bindsN fun _ _ _ _ _ _ us hl => match us, hl with | [_], _ => rfl
  refine F.ok scLVal (fun vs H Q E h => ?_) (fun cdv A outer s H vs Q E hr h => ?_)
  · obtain ⟨v, k, rfl, _⟩ := h
    rfl
  · refine ⟨_, PSs.nox (pss_one (ps_ret (pe_or (pe_cmp (pc_isN (pv 0))) (pe_or (pe_callB call_isiT (by rfl) N.isi (by decide +kernel) (pa_cons (pv 0) (pa_cons (pe_tup (pa_cons (pe_bltn (v := .ty "bool") (by rfl) N.bool (by decide +kernel) rfl) (pa_cons (pe_glob (v := .ref (CN K)) (by rfl) N.node rfl) pa_nil))) pa_nil)))
      (pe_one (pe_call GK hr (by rfl) gK FK.kp bK .nil pass0 (pa_cons (pv 0) pa_nil))))))), ?_⟩
    obtain ⟨v, k, rfl, hv, hf, q⟩ := h
    rcases non_of hv with ⟨rfl, rfl⟩ | ⟨n1, n2⟩
    · exact ⟨_, rfl, true, by rw [decide_eq_true rfl], iteT (q _ Same.refl')⟩
    refine ⟨_, rfl, false, by rw [decide_eq_false n1], iteF ⟨_, rfl, sz 2 (by decide), fun p np => ?_⟩⟩
    have s1 := same_new (o := .tup [.ty "bool", .ref (CN K)]) np
    have q1 := q _ s1
    cases k with
    | nod C =>
      obtain ⟨n, a, dx, fs, rfl, e⟩ := hv
      exact ⟨.ref a, p, _, _, _, _, rfl, upd_same, .cons (.ty "bool") (.cons (.own _) .nil), n.ty (s1 _ _ e), kit_any (n.kit "bool" (by simp)) n.kitN, true, rfl, iteT q1⟩
    | dat d =>
      have hd : Sd K H v d := hv
      have tt : ∀ (b : Bool), PySem.W.kitAny K (.type (tyN d)) [.type "bool", .ref (CN K)] = some (isD d "bool" || false) := fun _ => kit_any (kit_data d rfl) (N.dat _ (tyN_mem d))
      refine ⟨v, p, _, _, _, _, rfl, upd_same, .cons (.ty "bool") (.cons (.own _) .nil), (sd_to hd s1).ty, tt true, isD d "bool" || false, rfl, ?_⟩
      cases d with
      | none => exact absurd rfl n2
      | bool b => exact iteT q1
      | int i => exact iteF ⟨_, rfl, v, _, rfl, sd_to hd s1, hf, q1⟩
      | str x => exact iteF ⟨_, rfl, v, _, rfl, sd_to hd s1, hf, q1⟩
      | list _ => exact iteF ⟨_, rfl, v, _, rfl, sd_to hd s1, hf, q1⟩
      | tuple _ => exact iteF ⟨_, rfl, v, _, rfl, sd_to hd s1, hf, q1⟩
      | dict _ => exact iteF ⟨_, rfl, v, _, rfl, sd_to hd s1, hf, q1⟩
end
end Kb

set_option Elab.async false
set_option linter.all false
set_option maxRecDepth 100000
set_option maxHeartbeats 2000000
namespace Kb
open PySem PySem.Spec PyProof.Rows L2 StX ClX
/-! ### the keys that are drawn -/
def KS : Key → Prop
  | .inl i => -big < i ∧ i < big
  | .inr x => x.length ≤ 2000 ∧ lowS x = true ∧ inT x
theorem KS.at_ {y : Key} (h : KS y) : At (kV y) (keyD y) := by
  cases y with
  | inl i => exact .int i h.1 h.2
  | inr x => exact .str x h.1 h.2.1 h.2.2
theorem KS.ok {y : Key} (h : KS y) : isK (keyD y) = true := by
  cases y with
  | inl i =>
    show (decide (-big < i) && decide (i < big)) = true
    rw [decide_eq_true h.1, decide_eq_true h.2]
    rfl
  | inr x =>
    show decide (x.length ≤ 2000) = true
    rw [decide_eq_true h.1]
theorem at_key {v : V} {d : PyData} (h : At v d) (e : isK d = true) : ∃ y : Key, v = kV y ∧ d = keyD y ∧ KS y := by
  cases h with
  | non => cases e
  | bl b => cases e
  | int i h1 h2 => exact ⟨.inl i, rfl, rfl, h1, h2⟩
  | str x h1 h2 h3 => exact ⟨.inr x, rfl, rfl, h1, h2, h3⟩
theorem rep_list (a : Nat) : ∀ (n : Nat) (b : Array Nat), ((List.replicate n (#[a] : Array Nat)).foldl (· ++ ·) b).toList = b.toList ++ List.replicate n a
  | 0, b => by simp
  | n + 1, b => by
    rw [List.replicate_succ, List.foldl_cons, rep_list a n, Array.toList_append, List.append_assoc, List.replicate_succ]
    rfl
theorem xs_list : xs2000.cps.toList = List.replicate 2000 120 := by
  have e : ("x" : Str).cps = #[120] := by decide +kernel
  show ((List.replicate 2000 ("x" : Str).cps).foldl (· ++ ·) #[]).toList = _
  rw [e, rep_list]
  rfl
theorem fold_rep (q : Nat) (h : 1 ≤ (Builtin.Str.reprChar q 120).length) : ∀ n m : Nat, m + n ≤ (List.replicate n 120).foldl (fun s c => s + (Builtin.Str.reprChar q c).length) m
  | 0, m => Nat.le_refl _
  | n + 1, m => by
    rw [List.replicate_succ, List.foldl_cons]
    exact Nat.le_trans (by omega) (fold_rep q h n (m + (Builtin.Str.reprChar q 120).length))
theorem xs_repr : 2002 ≤ (reprText xs2000).length := by
  rw [← reprLen_eq, ← Array.foldl_toList, xs_list]
  have q : reprQuote xs2000 = 34 ∨ reprQuote xs2000 = 39 := by
    unfold reprQuote
    split
    · exact .inl rfl
    · exact .inr rfl
  rcases q with q | q
  · rw [q]
    exact fold_rep 34 (by decide +kernel) 2000 2
  · rw [q]
    exact fold_rep 39 (by decide +kernel) 2000 2
theorem sh_short : ∀ x ∈ SH, (reprText x).length ≤ 30 := by decide +kernel
theorem sh_inj : ∀ x ∈ SH, ∀ y ∈ SH, reprText x = reprText y → x = y := by decide +kernel
theorem text_inj {x y : Str} (hx : inT x) (hy : inT y) (e : reprText x = reprText y) : x = y := by
  rcases hx with hx | hx
  · rcases hy with hy | hy
    · exact sh_inj x hx y hy e
    · have a := sh_short x hx
      rw [e, hy] at a
      have b := xs_repr
      omega
  · rcases hy with hy | hy
    · have a := sh_short y hy
      rw [← e, hx] at a
      have b := xs_repr
      omega
    · rw [hx, hy]
theorem ofS_inj {a b : String} (h : Str.ofString a = Str.ofString b) : a = b := by
  rw [Str.ofString_eq_toList, Str.ofString_eq_toList] at h
  have h1 : (a.toList.map Char.toNat).toArray = (b.toList.map Char.toNat).toArray := congrArg Str.cps h
  have h2 : a.toList.map Char.toNat = b.toList.map Char.toNat := by
    have z := congrArg Array.toList h1
    simpa using z
  have h3 : a.toList = b.toList := List.map_inj_right (fun c d z => Char.toNat_inj.mp z) |>.mp h2
  exact String.toList_inj.mp h3
theorem int_inj {i j : Int} (h : (PyData.int i).shown = (PyData.int j).shown) : i = j := by
  rw [PyData.shown_int, PyData.shown_int] at h
  exact Int.repr_injective (ofS_inj h)
theorem quote_mem (x : Str) : reprQuote x ∈ (reprText x).cps.toList := by
  unfold reprText
  show _ ∈ (Array.push _ _).toList
  rw [Array.toList_push]
  exact List.mem_append_right _ (List.mem_singleton.mpr rfl)
theorem int_text {i : Int} {x : Str} (h : (PyData.int i).shown = reprText x) : False := by
  have m := quote_mem x
  rw [← h] at m
  have q : reprQuote x = 34 ∨ reprQuote x = 39 := by
    unfold reprQuote
    split
    · exact .inl rfl
    · exact .inr rfl
  rcases q with q | q
  · rw [q] at m
    exact (shown_int_free_34 i).mp m
  · rw [q] at m
    exact (shown_int_free_39 i).mp m
theorem shown_inj {a b : Key} (ha : KS a) (hb : KS b) (e : (keyD a).shown = (keyD b).shown) : a = b := by
  cases a with
  | inl i =>
    cases b with
    | inl j => rw [int_inj e]
    | inr y => exact (int_text e).elim
  | inr x =>
    cases b with
    | inl j => exact (int_text e.symm).elim
    | inr y => rw [text_inj ha.2.2 hb.2.2 e]
end Kb

set_option Elab.async false
set_option linter.all false
set_option maxRecDepth 100000
set_option maxHeartbeats 2000000
namespace Kb
open PySem PySem.Spec PyProof.Rows L2 StX ClX
/-! ### the law's record -/
abbrev Rw := Key × V × Tk
def kvR (R : List Rw) : List (Key × V) := R.map fun r => (r.1, r.2.1)
def RowsAt (H : Hp) (l : Addr) (R : List Rw) : Prop := ∃ rs : List Addr, H l = some (.lst (rs.map V.ref)) ∧ Paired (fun (t : Addr) (r : Rw) => H t = some (.tup [kV r.1, r.2.1])) rs R
structure OkR (K : PySem.W.Frag) (H : Hp) (R : List Rw) : Prop where
  ev : ∀ r ∈ R, Ev K H r.2.1 r.2.2
  ks : ∀ r ∈ R, KS r.1
  nod : (R.map Prod.fst).Nodup
theorem OkR.to {K : PySem.W.Frag} {H H' : Hp} {R : List Rw} (h : OkR K H R) (s : KI H H') : OkR K H' R := ⟨fun r m => (h.ev r m).to s, h.ks, h.nod⟩
theorem pairedR_to {H H' : Hp} (s : Same H H') : ∀ {rs : List Addr} {R : List Rw}, Paired (fun (t : Addr) (r : Rw) => H t = some (.tup [kV r.1, r.2.1])) rs R → Paired (fun (t : Addr) (r : Rw) => H' t = some (.tup [kV r.1, r.2.1])) rs R
  | _, _, .nil => .nil
  | _, _, .cons h r => .cons (s _ _ h) (pairedR_to s r)
theorem RowsAt.to {H H' : Hp} {l : Addr} {R : List Rw} (s : Same H H') (h : RowsAt H l R) : RowsAt H' l R := by
  obtain ⟨rs, h1, h2⟩ := h
  exact ⟨rs, s _ _ h1, pairedR_to s h2⟩
theorem RowsAt.get {H : Hp} {l : Addr} {R : List Rw} (h : RowsAt H l R) {k : Nat} {r : Rw} (e : R[k]? = some r) : ∃ (xs : List V) (t : Addr), H l = some (.lst xs) ∧ xs.length = R.length ∧ xs[k]? = some (.ref t) ∧ H t = some (.tup [kV r.1, r.2.1]) := by
  obtain ⟨rs, h1, h2⟩ := h
  have ln : rs.length = R.length := Paired.length h2
  have hk : k < rs.length := by
    have := (List.getElem?_eq_some_iff.mp e).1
    omega
  obtain ⟨t, ht⟩ : ∃ t, rs[k]? = some t := ⟨_, List.getElem?_eq_getElem hk⟩
  obtain ⟨r', e', q⟩ := LiI.paired_get h2 ht
  rw [e] at e'
  cases e'
  exact ⟨_, t, h1, by rw [List.length_map]; exact ln, by rw [List.getElem?_map, ht]; rfl, q⟩
theorem RowsAt.list {H : Hp} {l : Addr} {R : List Rw} (h : RowsAt H l R) : ∃ xs : List V, H l = some (.lst xs) ∧ xs.length = R.length := by
  obtain ⟨rs, h1, h2⟩ := h
  exact ⟨_, h1, by rw [List.length_map]; exact Paired.length h2⟩
theorem PairsAt.get {H : Hp} {p : Addr} {kvs : List (Key × V)} (h : PairsAt H p kvs) {k : Nat} {r : Key × V} (e : kvs[k]? = some r) : ∃ (xs : List V) (t : Addr), H p = some (.tup xs) ∧ xs.length = kvs.length ∧ xs[k]? = some (.ref t) ∧ H t = some (.tup [kV r.1, r.2]) := by
  obtain ⟨rs, h1, h2⟩ := h
  have ln : rs.length = kvs.length := Paired.length h2
  have hk : k < rs.length := by
    have := (List.getElem?_eq_some_iff.mp e).1
    omega
  obtain ⟨t, ht⟩ : ∃ t, rs[k]? = some t := ⟨_, List.getElem?_eq_getElem hk⟩
  obtain ⟨r', e', q⟩ := LiI.paired_get h2 ht
  rw [e] at e'
  cases e'
  exact ⟨_, t, h1, by rw [List.length_map]; exact ln, by rw [List.getElem?_map, ht]; rfl, q⟩
theorem PairsAt.tup {H : Hp} {p : Addr} {kvs : List (Key × V)} (h : PairsAt H p kvs) : ∃ xs : List V, H p = some (.tup xs) ∧ xs.length = kvs.length := by
  obtain ⟨rs, h1, h2⟩ := h
  exact ⟨_, h1, by rw [List.length_map]; exact Paired.length h2⟩
theorem flatK_get : ∀ {kvs : List (Key × V)} {k : Nat} {r : Key × V}, kvs[k]? = some r → (flatK kvs)[2 * k]? = some (kV r.1) ∧ (flatK kvs)[2 * k + 1]? = some r.2
  | (a, b) :: r, 0, _, e => by
    cases e
    exact ⟨rfl, rfl⟩
  | (a, b) :: r, k + 1, q, e => by
    have e' : r[k]? = some q := e
    obtain ⟨h1, h2⟩ := flatK_get e'
    have z : 2 * (k + 1) = 2 * k + 1 + 1 := by omega
    rw [z]
    exact ⟨h1, h2⟩
theorem kvR_get {R : List Rw} {k : Nat} {r : Rw} (e : R[k]? = some r) : (kvR R)[k]? = some (r.1, r.2.1) := by
  unfold kvR
  rw [List.getElem?_map, e]
  rfl
theorem kvR_len (R : List Rw) : (kvR R).length = R.length := by
  unfold kvR
  rw [List.length_map]
theorem valV_none : ∀ {R : List Rw} {x : Key}, x ∉ R.map Prod.fst → valV (kvR R) x = none
  | [], _, _ => rfl
  | r :: R, x, h => by
    have h1 : ¬ r.1 = x := fun z => h (by rw [← z]; exact List.mem_cons_self)
    show valV ((r.1, r.2.1) :: kvR R) x = none
    rw [valV_neg h1]
    exact valV_none fun m => h (List.mem_cons_of_mem _ m)
theorem valV_at : ∀ {R : List Rw} {k : Nat} {r : Rw}, (R.map Prod.fst).Nodup → R[k]? = some r → valV (kvR R) r.1 = some r.2.1
  | [], k, r, _, e => by cases e
  | a :: R, 0, r, _, e => by
    cases e
    exact valV_pos rfl
  | a :: R, k + 1, r, hn, e => by
    have e' : R[k]? = some r := e
    obtain ⟨h1, h2⟩ := List.nodup_cons.mp hn
    have h3 : ¬ a.1 = r.1 := fun z => h1 (by
      have z' : a.1 = r.1 := z
      rw [z']
      exact List.mem_map.mpr ⟨r, List.mem_of_getElem? e', rfl⟩)
    show valV ((a.1, a.2.1) :: kvR R) r.1 = some r.2.1
    rw [valV_neg h3]
    exact valV_at h2 e'
theorem kvR_app (R : List Rw) (x : Key) (v : V) (k : Tk) (h : x ∉ R.map Prod.fst) : putK (kvR R) x v = kvR (R ++ [(x, v, k)]) := by
  have e : ((kvR R).any fun kv => decide (kv.1 = x)) = false := by
    rw [valV_any, valV_none h]
    rfl
  unfold putK
  rw [e, if_neg Bool.false_ne_true]
  unfold kvR
  rw [List.map_append]
  rfl
theorem kvR_map : ∀ (R : List Rw) (x : Key) (v : V), x ∉ R.map Prod.fst → (kvR R).map (fun kv => if kv.1 = x then (kv.1, v) else kv) = kvR R
  | [], _, _, _ => rfl
  | r :: R, x, v, h => by
    have h1 : ¬ r.1 = x := fun z => h (by rw [← z]; exact List.mem_cons_self)
    show (if r.1 = x then (r.1, v) else (r.1, r.2.1)) :: (kvR R).map _ = _
    rw [if_neg h1, kvR_map R x v fun m => h (List.mem_cons_of_mem _ m)]
    rfl
theorem kvR_set : ∀ (R : List Rw) (j : Nat) (r : Rw) (v : V) (k : Tk), (R.map Prod.fst).Nodup → R[j]? = some r → (kvR R).map (fun kv => if kv.1 = r.1 then (kv.1, v) else kv) = kvR (R.set j (r.1, v, k))
  | [], j, r, _, _, _, e => by cases e
  | a :: R, 0, r, v, k, hn, e => by
    cases e
    obtain ⟨h1, h2⟩ := List.nodup_cons.mp hn
    show (if a.1 = a.1 then (a.1, v) else (a.1, a.2.1)) :: (kvR R).map _ = _
    rw [if_pos rfl, kvR_map R a.1 v h1]
    rfl
  | a :: R, j + 1, r, v, k, hn, e => by
    have e' : R[j]? = some r := e
    obtain ⟨h1, h2⟩ := List.nodup_cons.mp hn
    have h3 : ¬ a.1 = r.1 := fun z => h1 (by
      have z' : a.1 = r.1 := z
      rw [z']
      exact List.mem_map.mpr ⟨r, List.mem_of_getElem? e', rfl⟩)
    show (if a.1 = r.1 then (a.1, v) else (a.1, a.2.1)) :: (kvR R).map _ = _
    rw [if_neg h3, kvR_set R j r v k h2 e']
    rfl
theorem kvR_put {R : List Rw} {j : Nat} {r : Rw} (v : V) (k : Tk) (hn : (R.map Prod.fst).Nodup) (e : R[j]? = some r) : putK (kvR R) r.1 v = kvR (R.set j (r.1, v, k)) := by
  have ea : ((kvR R).any fun kv => decide (kv.1 = r.1)) = true := by
    rw [valV_any, valV_at hn e]
    rfl
  unfold putK
  rw [ea, if_pos rfl]
  exact kvR_set R j r v k hn e
theorem OkR.app {K : PySem.W.Frag} {H : Hp} {R : List Rw} (h : OkR K H R) {x : Key} {v : V} {k : Tk} (hx : x ∉ R.map Prod.fst) (hs : KS x) (e : Ev K H v k) : OkR K H (R ++ [(x, v, k)]) := by
  refine ⟨fun r m => ?_, fun r m => ?_, ?_⟩
  · rcases List.mem_append.mp m with m | m
    · exact h.ev r m
    · rw [List.mem_singleton.mp m]
      exact e
  · rcases List.mem_append.mp m with m | m
    · exact h.ks r m
    · rw [List.mem_singleton.mp m]
      exact hs
  · rw [List.map_append]
    refine List.nodup_append.mpr ⟨h.nod, by simp, fun a m b m2 => ?_⟩
    have z : b = x := by simpa using m2
    rw [z]
    exact fun y => hx (y ▸ m)
theorem OkR.set {K : PySem.W.Frag} {H : Hp} {R : List Rw} (h : OkR K H R) {j : Nat} {r : Rw} {v : V} {k : Tk} (e : R[j]? = some r) (ev : Ev K H v k) : OkR K H (R.set j (r.1, v, k)) := by
  have hm : r ∈ R := List.mem_of_getElem? e
  refine ⟨fun q m => ?_, fun q m => ?_, ?_⟩
  · rcases List.mem_or_eq_of_mem_set m with m | m
    · exact h.ev q m
    · rw [m]
      exact ev
  · rcases List.mem_or_eq_of_mem_set m with m | m
    · exact h.ks q m
    · rw [m]
      exact h.ks r hm
  · have z : (R.set j (r.1, v, k)).map Prod.fst = R.map Prod.fst := by
      rw [List.map_set]
      show (R.map Prod.fst).set j r.1 = _
      refine List.ext_getElem? fun i => ?_
      rw [List.getElem?_set]
      split
      · rename_i c
        subst c
        split
        · rw [List.getElem?_map, e]
          rfl
        · rename_i c2
          rw [List.getElem?_eq_none (by omega)]
      · rfl
    rw [z]
    exact h.nod
end Kb

set_option Elab.async false
set_option linter.all false
set_option maxRecDepth 100000
set_option maxHeartbeats 2000000
namespace Kb
open PySem PySem.Spec PyProof.Rows L2 StX ClX
abbrev sPlace : Stmt := top 36
abbrev NP : List Str := ["rows", "what", "found", "k"]
theorem scPlace : FnScope NP ["rows", "what"] (defScope sPlace) := ⟨rfl, rfl, rfl, by decide +kernel, rfl, by decide +kernel, by decide +kernel⟩
def spPlace (K : PySem.W.Frag) : Sp := fun vs H Q _ => ∃ (l : Addr) (R : List Rw) (y : Key), vs = [.ref l, kV y] ∧ RowsAt H l R ∧ (∀ r ∈ R, KS r.1) ∧ (R.map Prod.fst).Nodup ∧ KS y ∧ R.length ≤ 60 ∧
  (∀ (j : Nat) r, R[j]? = some r → r.1 = y → ∀ H', Same H H' → Q (.int (j : Int)) H') ∧ (y ∉ R.map Prod.fst → ∀ H', Same H H' → Q (.int (-1)) H')
theorem sd_key {K : PySem.W.Frag} {H : Hp} (y : Key) : Sd K H (kV y) (keyD y) := by
  cases y with
  | inl i => exact .int i
  | inr x => exact .str x
theorem KS.shw {y : Key} (h : KS y) : Shw (keyD y) := (at_ok h.at_).2.1
theorem nod_one {R : List Rw} (hn : (R.map Prod.fst).Nodup) {i j : Nat} {r s : Rw} (hi : R[i]? = some r) (hj : R[j]? = some s) (e : r.1 = s.1) : i = j := by
  have h1 : (R.map Prod.fst)[i]? = some r.1 := by rw [List.getElem?_map, hi]; rfl
  have h2 : (R.map Prod.fst)[j]? = some r.1 := by rw [List.getElem?_map, hj, e]; rfl
  obtain ⟨b1, c1⟩ := List.getElem?_eq_some_iff.mp h1
  obtain ⟨b2, c2⟩ := List.getElem?_eq_some_iff.mp h2
  exact (List.getElem_inj hn).mp (c1.trans c2.symm)
section
variable {P : Program} {w : World} {K : PySem.W.Frag} {mg : Str → Option Value} {base : Heap}
theorem ok_place {f : Addr} {fd : FuncData} (F : FnP K "_law_place" sPlace f fd) (N : Nm K mg) (SY : SysK K) : FnG P w K mg base CX0 2 f fd ["rows", "what"] (spPlace K) := by
  refine F.okG scPlace (fun vs H Q E h => ?_) (fun cdv A outer s H vs Q E hgu hr h => ?_)
  · obtain ⟨l, R, y, rfl, _⟩ := h
    rfl
  · have hu1 := Nat.lt_of_succ_lt (hu_of hr)
    refine ⟨_, PSs.nox (pss_cons (ps_setLc (i := 2) (own := [("k", 3)]) (g := gName 3) rfl scPlace.nd rfl rfl (sw_true rfl rfl rfl rfl) (pi_range1 (by rfl) N.rng (pa_cons (pe_callB call_len (by rfl) N.len PySem.boot_len (pa_cons (pv 0) pa_nil)) pa_nil)) (blkOk_by (own := [("k", 3)]) (N := NP) (sc := defScope sPlace) (by decide +kernel)) (fun _ _ _ _ _ => pg_name (i := 3) scPlace.nd rfl (Or.inl rfl))
        (fun _ _ _ _ _ => pts_one (pt_cmpR op_eq (pe_callB (show CallR _ _ (rRepr K) from call_repr hgu hr SY) (by rfl) N.repr boot_repr (pa_cons (pe_ix (show IxR _ (rIxT K) from ix_tup) (pe_ix (show IxR _ (rIxL K) from ix_list) (pv 0) (pv 3) (fun _ _ => rfl)) pe_int (fun _ _ => rfl)) pa_nil)) (pe_callB (show CallR _ _ (rRepr K) from call_repr hgu hr SY) (by rfl) N.repr boot_repr (pa_cons (pv 1) pa_nil)) (nomark _))) (fun _ _ _ _ _ => pv 3))
      (pss_one (ps_ret (pe_ifExp (pt_cmpR (op_neN hu1) (pv 2) (pe_lst pa_nil) (nomark _)) (pe_ix ix_list (pv 2) pe_int (fun _ _ => rfl)) (pe_op op_sub pe_int pe_int))))), ?_⟩
    obtain ⟨l, R, y, rfl, hR, hks, hn, hy, hl, k1, k2⟩ := h
    obtain ⟨xs, hxl, lxl⟩ := hR.list
    have sy := hy.shw
    refine ⟨_, rfl, _, R.length, rfl, .inl ⟨xs, SqL.of hxl, lxl.symm⟩, _, rfl, by omega, by omega, fun PL nPL => ?_⟩
    refine lc_it walk_range (fun i H' => Same H H' ∧ ∃ js : List Nat, H' PL = some (.lst (js.map fun (j : Nat) => V.int (j : Int))) ∧ js.length ≤ i ∧ (∀ j ∈ js, ∃ r, R[j]? = some r ∧ r.1 = y) ∧ ∀ j r, j < i → R[j]? = some r → r.1 = y → j ∈ js) ⟨same_new nPL, [], upd_same, Nat.le_refl _, fun _ m => (List.not_mem_nil m).elim, fun j _ z => absurd z (Nat.not_lt_zero j)⟩ (fun _ _ _ _ => True.intro) ?_ ?_
    · rintro i z H' H'' hi ⟨s1, js, hP, lj, j1, j2⟩ ⟨rfl, rfl⟩
      have hi' : i < R.length := by omega
      obtain ⟨r, hr'⟩ : ∃ r, R[i]? = some r := ⟨_, List.getElem?_eq_getElem hi'⟩
      have sr := (hks r (List.mem_of_getElem? hr')).shw
      obtain ⟨ys, rt, hys, lys, hy', hrt⟩ := (hR.to s1).get hr'
      refine ⟨rfl, ?_⟩
      refine ⟨_, rfl, _, rfl, l, ys, _, .ref rt, rfl, rfl, SqL.of hys, at_of (j := i) (Int.zero_add _) hy', rt, _, 0, kV r.1, rfl, rfl, SqT.of hrt, at_of (j := 0) rfl rfl, _, keyD r.1, rfl, sd_key r.1, sr.show_, sr.fit.1, sr.fit.2, _, rfl, _, keyD y, rfl, sd_key y, sy.show_, sy.fit.1, sy.fit.2, rfl, ?_⟩
      by_cases c : r.1 = y
      · refine ⟨true, by rw [decide_eq_true (p := V.str (keyD r.1).shown = V.str (keyD y).shown) (by rw [c])], iteT ⟨_, rfl, _, hP, ?_, same_updN s1 nPL, js ++ [i], ?_, ?_, ?_, ?_⟩⟩
        · rw [List.length_map]
          exact Nat.lt_of_le_of_lt (m := 100) (by omega) (by decide)
        · rw [upd_same, List.map_append]
          show some (HO.lst (_ ++ [V.int (0 + (i : Int))])) = _
          rw [Int.zero_add]
          rfl
        · rw [List.length_append, List.length_singleton]
          omega
        · intro j m
          rcases List.mem_append.mp m with m | m
          · exact j1 j m
          · rw [List.mem_singleton.mp m]
            exact ⟨r, hr', c⟩
        · intro j r' hj e1 e2
          rcases Nat.lt_or_ge j i with z | z
          · exact List.mem_append_left _ (j2 j r' z e1 e2)
          · have : j = i := by omega
            rw [this]
            exact List.mem_append_right _ (List.mem_singleton.mpr rfl)
      · refine ⟨false, by rw [decide_eq_false (p := V.str (keyD r.1).shown = V.str (keyD y).shown) (fun z => c (shown_inj (hks r (List.mem_of_getElem? hr')) hy (by injection z)))], iteF ⟨s1, js, hP, by omega, j1, fun j r' hj e1 e2 => ?_⟩⟩
        rcases Nat.lt_or_ge j i with z | z
        · exact j2 j r' z e1 e2
        · have : j = i := by omega
          rw [this, hr'] at e1
          cases e1
          exact absurd e2 c
    rintro H1 ⟨s1, js, hP, lj, j1, j2⟩
    refine ⟨_, rfl, Nat.zero_le _, fun e ne => ?_⟩
    have s2 := s1.tr (same_new (o := .lst []) ne)
    have hP2 := same_new (o := .lst []) ne _ _ hP
    cases js with
    | nil =>
      refine ⟨PL, e, _, rfl, rfl, SqL.of hP2, SqL.of upd_same, false, rfl, iteF ?_⟩
      refine ⟨_, _, rfl, rfl, ?_⟩
      refine k2 (fun m => ?_) _ s2
      obtain ⟨r, hm, e⟩ := List.mem_map.mp m
      obtain ⟨i, hi⟩ := List.mem_iff_getElem?.mp hm
      have := j2 i r (List.getElem?_eq_some_iff.mp hi).1 hi e
      exact (List.not_mem_nil this).elim
    | cons j js =>
      refine ⟨PL, e, _, rfl, rfl, SqL.of hP2, SqL.of upd_same, true, rfl, iteT ?_⟩
      obtain ⟨r, hj, er⟩ := j1 j List.mem_cons_self
      exact ⟨_, rfl, PL, _, 0, .int (j : Int), rfl, rfl, SqL.of hP2, at_of (j := 0) rfl rfl, k1 j r hj er _ s2⟩
end
end Kb

set_option Elab.async false
set_option linter.all false
set_option maxRecDepth 100000
set_option maxHeartbeats 2000000
namespace Kb
open PySem PySem.Spec PyProof.Rows L2 StX ClX
/-! ### what is due -/
inductive Wd where
  | key | taken | none | value | done
  deriving DecidableEq
def wd (way : Int) (isk there ok : Bool) : Wd :=
  if isk = false then .key else if way = 0 ∧ there = true then .taken else if way ≠ 0 ∧ there = false then .none else if way ≠ 2 ∧ ok = false then .value else .done
def wdV (lv v : V) : Wd → List V
  | .key => [.str "key", lv]
  | .taken => [.str "taken", lv]
  | .none => [.str "none", lv]
  | .value => [.str "value", v]
  | .done => [.str "done"]
abbrev sDue : Stmt := top 37
abbrev ND : List Str := ["way", "rows", "what", "one"]
theorem scDue : FnScope ND ND (defScope sDue) := ⟨rfl, rfl, rfl, by decide +kernel, rfl, by decide +kernel, by decide +kernel⟩
/-- what is a key is one that is drawn -/
def KeyD (v : V) (d : PyData) : Prop := isK d = true → ∃ y : Key, v = kV y ∧ d = keyD y ∧ KS y
def thr (R : List Rw) (v : V) (th : Bool) : Prop := ∀ y : Key, v = kV y → (th = true ↔ y ∈ R.map Prod.fst)
def spDue (K : PySem.W.Frag) : Sp := fun vs H Q _ => ∃ (way : Int) (l : Addr) (R : List Rw) (lv v : V) (d : PyData) (k : Tk) (th : Bool), vs = [.int way, .ref l, lv, v] ∧ (way = 0 ∨ way = 1 ∨ way = 2) ∧ RowsAt H l R ∧ (∀ r ∈ R, KS r.1) ∧ (R.map Prod.fst).Nodup ∧ R.length ≤ 60 ∧
  Sd K H lv d ∧ fits d ∧ KeyD lv d ∧ thr R lv th ∧ Tv K (CN K) H v k ∧ fitsT k ∧ ∀ p H', Same H H' → H' p = some (.lst (wdV lv v (wd way (isK d) th (okT k)))) → Q (.ref p) H'
section
variable {P : Program} {w : World} {K : PySem.W.Frag} {mg : Str → Option Value} {base : Heap}
theorem ok_due {f : Addr} {fd : FuncData} (F : FnP K "_law_due" sDue f fd) (N : Nm K mg) (SY : SysK K) (LK : ∃ f fd, FnP K "_law_is_key" sLKey f fd ∧ mg "_law_is_key" = some (.ref f)) (LV : ∃ f fd, FnP K "_law_is_value" sLVal f fd ∧ mg "_law_is_value" = some (.ref f)) (LP : ∃ f fd, FnP K "_law_place" sPlace f fd ∧ mg "_law_place" = some (.ref f)) :
    FnG P w K mg base CX0 3 f fd ND (spDue K) := by
  obtain ⟨f1, d1, F1, g1⟩ := LK
  obtain ⟨f2, d2, F2, g2⟩ := LV
  obtain ⟨f3, d3, F3, g3⟩ := LP
  have G1 : FnOk P w K mg base CX0 1 f1 d1 ["what"] (spKeyD K) := ok_lkey F1 N
  have G2 : FnOk P w K mg base CX0 2 f2 d2 ["what"] (spVal K) := ok_lval F2 N ⟨f1, d1, F1, g1⟩
  have G3 : FnG P w K mg base CX0 2 f3 d3 ["rows", "what"] (spPlace K) := ok_place F3 N SY
  have b1 : Binds K d1 ["what"] [] := F1.bindsN fun _ _ _ _ _ _ us hl => match us, hl with | [_], _ => rfl
  have b2 : Binds K d2 ["what"] [] := F2.bindsN fun _ _ _ _ _ _ us hl => match us, hl with | [_], _ => rfl
  have b3 : Binds K d3 ["rows", "what"] [] := F3.bindsN fun _ _ _ _ _ _ us hl => match us, hl with | [_, _], _ => rfl
  refine F.okG scDue (fun vs H Q E h => ?_) (fun cdv A outer s H vs Q E hgu hr h => ?_)
  · obtain ⟨way, l, R, lv, v, d, k, th, rfl, _⟩ := h
    rfl
  · refine ⟨_, PSs.nox (pss_cons (ps_if (pt_not (pt_val (pe_call G1 (hr.mono (by decide)) (by rfl) g1 F1.kp b1 .nil pass0 (pa_cons (pv 2) pa_nil)))) (pss_one (ps_ret (pe_lst (pa_cons pe_str (pa_cons (pv 2) pa_nil))))) pss_nil)
      (pss_cons (ps_if (PW.pt (pw_and (pt_cmpR op_eq (pv 0) pe_int (nomark _)) (pw_and1 (pt_cmpR op_ge (pe_callG hgu G3 hr (by rfl) g3 F3.kp b3 .nil pass0 (pa_cons (pv 1) (pa_cons (pv 2) pa_nil))) pe_int (nomark _))))) (pss_one (ps_ret (pe_lst (pa_cons pe_str (pa_cons (pv 2) pa_nil))))) pss_nil)
      (pss_cons (ps_if (PW.pt (pw_and (pt_cmpR op_gt (pv 0) pe_int (nomark _)) (pw_and1 (pt_cmpR op_lt (pe_callG hgu G3 hr (by rfl) g3 F3.kp b3 .nil pass0 (pa_cons (pv 1) (pa_cons (pv 2) pa_nil))) pe_int (nomark _))))) (pss_one (ps_ret (pe_lst (pa_cons pe_str (pa_cons (pv 2) pa_nil))))) pss_nil)
      (pss_one (ps_ret (pe_ifExp (PW.pt (pw_and (pt_cmpR op_lt (pv 0) pe_int (nomark _)) (pw_and1 (pt_not (pt_val (pe_call G2 hr (by rfl) g2 F2.kp b2 .nil pass0 (pa_cons (pv 3) pa_nil))))))) (pe_lst (pa_cons pe_str (pa_cons (pv 3) pa_nil))) (pe_lst (pa_cons pe_str pa_nil)))))))), ?_⟩
    obtain ⟨way, l, R, lv, v, d, k, th, rfl, hw, hR, hks, hn, hl, hd, hf, kd, ht, tv, fv, q⟩ := h
    refine ⟨_, rfl, lv, d, rfl, hd, hf, _, rfl, ?_⟩
    cases ek : isK d with
    | false =>
      refine iteT ⟨_, rfl, sz 2 (by decide), fun p np => ?_⟩
      refine q p _ (same_new np) ?_
      rw [upd_same, ek]
      rfl
    | true =>
      refine iteF ?_
      obtain ⟨y, rfl, rfl, hy⟩ := kd ek
      have hth := ht y rfl
      rw [ek] at q
      have fin : ∀ H2, Same H H2 → way ≠ 2 → ∀ (A B : Hp → Prop), (okT k = false → ∀ H3, Same H H3 → A H3) → (okT k = true → ∀ H3, Same H H3 → B H3) → spVal K [v] H2 (fun x H3 => ∃ c, x = .bl c ∧ if (!c) = true then A H3 else B H3) E0 := fun H2 s2 _ A B a b => ⟨v, k, rfl, tv_to tv s2, fv, fun H3 s3 => ⟨_, rfl, by
        cases e : okT k with
        | false => exact iteT (a e _ (s2.tr s3))
        | true => exact iteF (b e _ (s2.tr s3))⟩⟩
      rcases hw with rfl | rfl | rfl
      · refine ⟨_, rfl, rfl, true, by rw [decide_eq_true rfl], iteT ⟨_, rfl, _, rfl, l, R, y, rfl, hR, hks, hn, hy, hl, fun j r hj e H1 s1 => ?_, fun no H1 s1 => ?_⟩⟩
        · have e1 : th = true := hth.mpr (List.mem_map.mpr ⟨r, List.mem_of_getElem? hj, e⟩)
          subst e1
          refine ⟨_, _, rfl, rfl, _, rfl, ?_⟩
          rw [decide_eq_true (p := (0 : Int) ≤ (j : Int)) (by omega)]
          exact iteT ⟨_, rfl, sz 2 (by decide), fun p np => q p _ (s1.tr (same_new np)) upd_same⟩
        · have e1 : th = false := by
            cases z : th with
            | false => rfl
            | true => exact (no (hth.mp z)).elim
          subst e1
          refine ⟨_, _, rfl, rfl, _, rfl, ?_⟩
          rw [decide_eq_false (p := (0 : Int) ≤ -1) (by omega)]
          refine iteF ⟨_, rfl, _, _, rfl, rfl, _, rfl, iteF ⟨_, rfl, _, _, rfl, rfl, _, rfl, iteT ⟨_, rfl, ?_⟩⟩⟩
          refine fin H1 s1 (by decide) _ _ (fun o H3 s3 => ?_) (fun o H3 s3 => ?_)
          · refine ⟨_, rfl, sz 2 (by decide), fun p np => q p _ (s3.tr (same_new np)) ?_⟩
            rw [upd_same, o]
            rfl
          · refine ⟨sz 1 (by decide), fun p np => q p _ (s3.tr (same_new np)) ?_⟩
            rw [upd_same, o]
            rfl
      · refine ⟨_, rfl, rfl, false, by rw [decide_eq_false (fun z => by cases z)], iteF ⟨_, rfl, _, _, rfl, rfl, _, rfl, iteT ⟨_, rfl, _, rfl, l, R, y, rfl, hR, hks, hn, hy, hl, fun j r hj e H1 s1 => ?_, fun no H1 s1 => ?_⟩⟩⟩
        · have e1 : th = true := hth.mpr (List.mem_map.mpr ⟨r, List.mem_of_getElem? hj, e⟩)
          subst e1
          refine ⟨_, _, rfl, rfl, _, rfl, ?_⟩
          rw [decide_eq_false (p := (j : Int) < 0) (by omega)]
          refine iteF ⟨_, rfl, _, _, rfl, rfl, _, rfl, iteT ⟨_, rfl, ?_⟩⟩
          refine fin H1 s1 (by decide) _ _ (fun o H3 s3 => ?_) (fun o H3 s3 => ?_)
          · refine ⟨_, rfl, sz 2 (by decide), fun p np => q p _ (s3.tr (same_new np)) ?_⟩
            rw [upd_same, o]
            rfl
          · refine ⟨sz 1 (by decide), fun p np => q p _ (s3.tr (same_new np)) ?_⟩
            rw [upd_same, o]
            rfl
        · have e1 : th = false := by
            cases z : th with
            | false => rfl
            | true => exact (no (hth.mp z)).elim
          subst e1
          refine ⟨_, _, rfl, rfl, _, rfl, ?_⟩
          rw [decide_eq_true (p := (-1 : Int) < 0) (by omega)]
          exact iteT ⟨_, rfl, sz 2 (by decide), fun p np => q p _ (s1.tr (same_new np)) upd_same⟩
      · refine ⟨_, rfl, rfl, false, by rw [decide_eq_false (fun z => by cases z)], iteF ⟨_, rfl, _, _, rfl, rfl, _, rfl, iteT ⟨_, rfl, _, rfl, l, R, y, rfl, hR, hks, hn, hy, hl, fun j r hj e H1 s1 => ?_, fun no H1 s1 => ?_⟩⟩⟩
        · have e1 : th = true := hth.mpr (List.mem_map.mpr ⟨r, List.mem_of_getElem? hj, e⟩)
          subst e1
          refine ⟨_, _, rfl, rfl, _, rfl, ?_⟩
          rw [decide_eq_false (p := (j : Int) < 0) (by omega)]
          exact iteF ⟨_, rfl, _, _, rfl, rfl, _, rfl, iteF (iteF ⟨sz 1 (by decide), fun p np => q p _ (s1.tr (same_new np)) upd_same⟩)⟩
        · have e1 : th = false := by
            cases z : th with
            | false => rfl
            | true => exact (no (hth.mp z)).elim
          subst e1
          refine ⟨_, _, rfl, rfl, _, rfl, ?_⟩
          rw [decide_eq_true (p := (-1 : Int) < 0) (by omega)]
          exact iteT ⟨_, rfl, sz 2 (by decide), fun p np => q p _ (s1.tr (same_new np)) upd_same⟩
end
end Kb

set_option Elab.async false
set_option linter.all false
set_option maxRecDepth 100000
set_option maxHeartbeats 4000000
namespace Kb
open PySem PySem.Spec PyProof.Rows L2 StX ClX
/-- an error that the law catches -/
structure CatchF (K : PySem.W.Frag) (mg : Str → Option Value) (CE : Addr) (x fld : Str) : Prop where
  fam : ∃ CJ CS CM : Addr, mg "JarError" = some (.ref CJ) ∧ mg "StateError" = some (.ref CS) ∧ mg "MissingError" = some (.ref CM) ∧ PySem.W.exmAny K (.ref CE) [.ref CJ, .ref CS, .ref CM] = some true
  xc : Xc K CE
  no : PySem.W.findIn K (.ref CE) fld = some none
  nm : mg x = some (.ref CE)
  kit : PySem.W.kitOne K (.ref CE) (.ref CE) = some true
abbrev CR (K : PySem.W.Frag) : Addr := gC K "Row"
abbrev CV (K : PySem.W.Frag) : Addr := gC K "InvalidValue"
abbrev CK (K : PySem.W.Frag) : Addr := gC K "InvalidKey"
abbrev CT (K : PySem.W.Frag) : Addr := gC K "KeyTaken"
abbrev CE (K : PySem.W.Frag) : Addr := gC K "NoEntry"
/-- the classes Book and Row -/
structure BkF (K : PySem.W.Frag) (mg : Str → Option Value) : Prop where
  cls : BkC K
  nm : mg "Book" = some (.ref (CB K))
  nod : NodC K (CN K) (CB K)
  init : ∃ f fd, Mk K (CB K) f ∧ FnM K "__init__" "Book.__init__" sBkI [] f fd
  pairs : ∃ p g fd, PropOf K (CB K) "pairs" p g ∧ FnM K "pairs" "Book.pairs" sBkP [] g fd
  shape : ∃ p g fd u, PropOf K (CB K) "shape" p g ∧ FnM K "shape" "Node.shape" sShape [] g fd ∧ Con K (CB K) "SHAPE" (.str "book") u
  kids : ∃ f fd, Meth K (CB K) "children" f ∧ FnM K "children" "Node.children" sChildren [] f fd
  cont : ∃ f fd, Meth K (CB K) "_contents" f ∧ FnM K "_contents" "Book._contents" sBkC [] f fd
  ent : ∃ f fd, Meth K (CB K) "enter" f ∧ FnM K "enter" "Book.enter" sBkE [] f fd
  chg : ∃ f fd, Meth K (CB K) "change" f ∧ FnM K "change" "Book.change" sBkCh [] f fd
  get : ∃ f fd, Meth K (CB K) "value_of" f ∧ FnM K "value_of" "Book.value_of" sBkV [] f fd
  rqe : ∃ f fd, Meth K (CB K) "_require_entry" f ∧ FnM K "_require_entry" "Book._require_entry" sBkR [] f fd
  items : ∃ f fd, FnP K "items_of_pairs" sItems f fd ∧ mg "items_of_pairs" = some (.ref f)
structure RowF (K : PySem.W.Frag) (mg : Str → Option Value) : Prop where
  cls : Cls K (CR K)
  noS : NoAttr K (CR K) "_sequence"
  nm : mg "Row" = some (.ref (CR K))
  nod : NodC K (CN K) (CR K)
  init : ∃ f fd, Mk K (CR K) f ∧ FnM K "__init__" "Row.__init__" sRowI [] f fd
/-- what of the errors is told apart -/
structure ErrF (K : PySem.W.Frag) (mg : Str → Option Value) : Prop where
  val : CatchF K mg (CV K) "InvalidValue" "value"
  key : CatchF K mg (CK K) "InvalidKey" "key"
  tak : CatchF K mg (CT K) "KeyTaken" "key"
  noE : CatchF K mg (CE K) "NoEntry" "key"
  kv : PySem.W.kitOne K (.ref (CK K)) (.ref (CV K)) = some false
  tv : PySem.W.kitOne K (.ref (CT K)) (.ref (CV K)) = some false
  ev : PySem.W.kitOne K (.ref (CE K)) (.ref (CV K)) = some false
  tk : PySem.W.kitOne K (.ref (CT K)) (.ref (CK K)) = some false
  ek : PySem.W.kitOne K (.ref (CE K)) (.ref (CK K)) = some false
  et : PySem.W.kitOne K (.ref (CE K)) (.ref (CT K)) = some false
abbrev sWord : Stmt := top 38
abbrev NW : List Str := ["way", "book", "what", "one", "caught", "found", "e", "word"]
theorem scWord : FnScope NW ["way", "book", "what", "one"] (defScope sWord) := ⟨rfl, rfl, rfl, by decide +kernel, rfl, by decide +kernel, by decide +kernel⟩
theorem same_upd2 {H H' : Hp} {q : Addr} {o : HO} (s : Same H H') : Same (upd H q o) (upd H' q o) := fun b u e => by
  by_cases c : b = q
  · subst c
    rw [upd_same] at e ⊢
    exact e
  · rw [upd_ne c] at e ⊢
    exact s b u e
def spWord (K : PySem.W.Frag) : Sp := fun vs H Q _ => ∃ (way : Int) (a q : Addr) (kvs : List (Key × V)) (lv v : V) (d : PyData) (k : Tk) (th : Bool), vs = [.int way, .ref a, lv, v] ∧ (way = 0 ∨ way = 1 ∨ way = 2) ∧ BkAt K H a q kvs ∧ kvs.length ≤ 1000 ∧ Sd K H lv d ∧ fits d ∧ Tv K (CN K) H v k ∧ fitsT k ∧
  (∀ y, lv = kV y → th = (valV kvs y).isSome) ∧
  (∀ y, lv = kV y → wd way (isK d) th (okT k) = .done → way ≠ 2 → ∀ p H', Same (upd H q (.dK (putK kvs y v))) H' → H' p = some (.lst [.str "done"]) → Q (.ref p) H') ∧
  ((wd way (isK d) th (okT k) = .done → way = 2) → ∀ p H', Same H H' → H' p = some (.lst (wdV lv v (wd way (isK d) th (okT k)))) → Q (.ref p) H')
theorem vals3 {C D E : Addr} {us : List Value} (r : Vals [.ref C, .ref D, .ref E] us) : us = [.ref C, .ref D, .ref E] := by
  cases r with
  | cons r1 r =>
    cases r with
    | cons r2 r =>
      cases r with
      | cons r3 r =>
        cases r
        cases r1
        cases r2
        cases r3
        rfl
section
variable {P : Program} {w : World} {K : PySem.W.Frag} {mg : Str → Option Value} {base : Heap}
theorem kit3 {t u1 u2 u3 : Value} {b1 b2 b3 : Bool} (h1 : PySem.W.kitOne K t u1 = some b1) (h2 : b1 = false → PySem.W.kitOne K t u2 = some b2) (h3 : b1 = false → b2 = false → PySem.W.kitOne K t u3 = some b3) : PySem.W.kitAny K t [u1, u2, u3] = some (b1 || (b2 || b3)) := by
  unfold PySem.W.kitAny
  rw [h1]
  cases b1 with
  | true => rfl
  | false =>
    unfold PySem.W.kitAny
    rw [h2 rfl]
    cases b2 with
    | true => rfl
    | false =>
      unfold PySem.W.kitAny
      rw [h3 rfl rfl]
      cases b3 <;> rfl
theorem ok_word {f : Addr} {fd : FuncData} (F : FnP K "_law_word" sWord f fd) (N : Nm K mg) (T : Ts K mg) (S : Es P w K mg base) (R : Rq K mg) (B : BkF K mg) (EF : ErrF K mg) : FnOk P w K mg base CX0 8 f fd ["way", "book", "what", "one"] (spWord K) := by
  obtain ⟨CF, CG, CI, CH, noKV, noTV, noEV, noTK, noEK, noET⟩ := EF
  obtain ⟨fS, dS, MS, FS⟩ := B.ent
  obtain ⟨fC, dC, MC, FC⟩ := B.chg
  obtain ⟨fG, dG, MG, FG⟩ := B.get
  obtain ⟨fQ, dQ, MQ, FQ⟩ := B.rqe
  obtain ⟨CJ, CSt, CM, mJ, mS, mM, exm⟩ := CF.fam
  obtain ⟨CJ1, CSt1, CM1, mJ1, mS1, mM1, exm1⟩ := CG.fam
  obtain rfl : CJ = CJ1 := by rw [mJ] at mJ1; cases mJ1; rfl
  obtain rfl : CSt = CSt1 := by rw [mS] at mS1; cases mS1; rfl
  obtain rfl : CM = CM1 := by rw [mM] at mM1; cases mM1; rfl
  obtain ⟨CJ2, CSt2, CM2, mJ2, mS2, mM2, exm2⟩ := CH.fam
  obtain rfl : CJ = CJ2 := by rw [mJ] at mJ2; cases mJ2; rfl
  obtain rfl : CSt = CSt2 := by rw [mS] at mS2; cases mS2; rfl
  obtain rfl : CM = CM2 := by rw [mM] at mM2; cases mM2; rfl
  obtain ⟨CJ3, CSt3, CM3, mJ3, mS3, mM3, exm3⟩ := CI.fam
  obtain rfl : CJ = CJ3 := by rw [mJ] at mJ3; cases mJ3; rfl
  obtain rfl : CSt = CSt3 := by rw [mS] at mS3; cases mS3; rfl
  obtain rfl : CM = CM3 := by rw [mM] at mM3; cases mM3; rfl
  have GS : FnOk P w K mg base (L2.CX P w) 6 fS dS ["self", "key", "value"] (spEnt K) := ok_ent B.cls FS N T S R
  have GC : FnOk P w K mg base (L2.CX P w) 7 fC dC ["self", "key", "value"] (spChg K) := ok_chg B.cls FC MQ FQ N T S R
  have GG : FnOk P w K mg base (L2.CX P w) 7 fG dG ["self", "key"] (spGet K) := ok_get B.cls FG MQ FQ N T S R
  have kS : ∀ (s : Shared) (a : Addr) (ws : List Value), K.In s.heap → ws.length = 2 → BindsTo s dS ⟨[Value.ref a], (["value", "key"] : List Str).zip ws⟩ ((["self", "key", "value"] : List Str).zip (Value.ref a :: ws.reverse)) := fun s a ws hK hl => by
    obtain ⟨oc, od, dV, kV, doc, pm, an, cdv, ct, osl, rfl, lk, hcd, hD, hK'⟩ := FS.ex
    obtain rfl : dV = .none := hD.elim (fun z => z.2) fun z => absurd rfl z.1
    match ws, hl with
    | [_, _], _ => exact .of_eq rfl
  have kC : ∀ (s : Shared) (a : Addr) (ws : List Value), K.In s.heap → ws.length = 2 → BindsTo s dC ⟨[Value.ref a], (["value", "key"] : List Str).zip ws⟩ ((["self", "key", "value"] : List Str).zip (Value.ref a :: ws.reverse)) := fun s a ws hK hl => by
    obtain ⟨oc, od, dV, kV, doc, pm, an, cdv, ct, osl, rfl, lk, hcd, hD, hK'⟩ := FC.ex
    obtain rfl : dV = .none := hD.elim (fun z => z.2) fun z => absurd rfl z.1
    match ws, hl with
    | [_, _], _ => exact .of_eq rfl
  have kG : ∀ (s : Shared) (a : Addr) (ws : List Value), K.In s.heap → ws.length = 1 → BindsTo s dG ⟨[Value.ref a], (["key"] : List Str).zip ws⟩ ((["self", "key"] : List Str).zip (Value.ref a :: ws)) := fun s a ws hK hl => by
    obtain ⟨oc, od, dV, kV, doc, pm, an, cdv, ct, osl, rfl, lk, hcd, hD, hK'⟩ := FG.ex
    obtain rfl : dV = .none := hD.elim (fun z => z.2) fun z => absurd rfl z.1
    match ws, hl with
    | [_], _ => exact .of_eq rfl
  refine F.ok scWord (fun vs H Q E h => ?_) (fun cdv A outer s H vs Q E hr h => ?_)
  · obtain ⟨way, a, q, kvs, lv, v, d, k, th, rfl, _⟩ := h
    rfl
  · refine ⟨_, (pss_cons (ps_asg (pe_tup (pa_cons pe_non (pa_cons pe_non pa_nil))) (pg_tup rfl (pgs_cons (pg_name (i := 4) scWord.nd rfl (Or.inl rfl)) (pgs_cons (pg_name (i := 5) scWord.nd rfl (Or.inl rfl)) pgs_nil))))
      (pss_cons (ps_try_kept (i := 6) (j := 4) (Wout := fun _ _ _ _ => False) rfl rfl rfl scWord.nd rfl rfl rfl rfl (by rfl) mJ (by rfl) mS (by rfl) mM (fun u s' z => by obtain ⟨_, _, _, _, _, _, _, _, _, _, _, _, _, _, _, _, z⟩ := z; exact z.elim)
        (fun W pn xe tk' _ => pss_one (ps_if (pt_cmpR op_eq (pv 0) pe_int (nomark _))
          (pss_one (ps_set (i := 5) scWord.nd rfl (Or.inl rfl) (pe_methKSg (E := WE W) (gv := List.reverse) (gV := List.reverse) (ks := ["value", "key"]) (pv 1) B.cls.cls MS GS (hr.mono (by decide)) (fun σ => passAt tk' σ) kS (fun r => vals_rev r) (pk_cons (pv 3) (pk_cons (pv 2) pk_nil)))))
          (pss_one (ps_set (i := 5) scWord.nd rfl (Or.inl rfl) (pe_ifExp (pt_cmpR op_eq (pv 0) pe_int (nomark _))
            (pe_methKSg (E := WE W) (gv := List.reverse) (gV := List.reverse) (ks := ["value", "key"]) (pv 1) B.cls.cls MC GC hr (fun σ => passAt tk' σ) kC (fun r => vals_rev r) (pk_cons (pv 3) (pk_cons (pv 2) pk_nil)))
            (pe_methKSg (E := WE W) (gv := fun ws => ws) (gV := fun zs => zs) (ks := ["key"]) (pv 1) B.cls.cls MG GG hr (fun σ => passAt tk' σ) kG (fun r => r) (pk_cons (pv 2) pk_nil))))))))
      (pss_cons (ps_if (pt_cmp (pc_isN (pv 4))) (pss_one (ps_ret (pe_ifExp (PW.pt (pw_or (pt_cmpR op_eq (pv 0) pe_int (nomark _)) (pw_or1 (pt_cmp (pc_isN (pv 5)))))) (pe_lst (pa_cons pe_str pa_nil)) (pe_lst (pa_cons pe_str pa_nil))))) pss_nil)
      (pss_cons (ps_if (pt_val (pe_callB call_isX (by rfl) N.isi (by decide +kernel) (pa_cons (pv 4) (pa_cons (pe_glob (v := .ref (CV K)) (by rfl) CF.nm rfl) pa_nil)))) (pss_one (ps_ret (pe_lst (pa_cons pe_str (pa_cons (pe_xfd (pv 4)) pa_nil))))) pss_nil)
      (pss_cons (ps_set (i := 7) scWord.nd rfl (Or.inl rfl) (pe_ifExp (pt_val (pe_callB call_isX (by rfl) N.isi (by decide +kernel) (pa_cons (pv 4) (pa_cons (pe_glob (v := .ref (CK K)) (by rfl) CG.nm rfl) pa_nil)))) pe_str
          (pe_ifExp (pt_val (pe_callB call_isX (by rfl) N.isi (by decide +kernel) (pa_cons (pv 4) (pa_cons (pe_glob (v := .ref (CT K)) (by rfl) CI.nm rfl) pa_nil)))) pe_str pe_str)))
      (pss_one (ps_ret (pe_ifExp (pt_val (pe_callB call_isXT (by rfl) N.isi (by decide +kernel) (pa_cons (pv 4) (pa_cons (pe_tup (pa_cons (pe_glob (v := .ref (CK K)) (by rfl) CG.nm rfl) (pa_cons (pe_glob (v := .ref (CT K)) (by rfl) CI.nm rfl) (pa_cons (pe_glob (v := .ref (CE K)) (by rfl) CH.nm rfl) pa_nil)))) pa_nil))))
        (pe_lst (pa_cons (pv 7) (pa_cons (pe_xfd (pv 4)) pa_nil))) (pe_lst (pa_cons pe_str pa_nil)))))))))), ?_⟩
    obtain ⟨way, a, q, kvs, lv, v, d, k, th, rfl, hw, ⟨dx, ha, hq⟩, hl, hd, hf, tv, fv, hth, k1, k2⟩ := h
    refine ⟨sz 2 (by decide), fun p0 n0 => ⟨p0, _, rfl, SqT.of upd_same, rfl, _, _, rfl, _, _, rfl, rfl, ?_⟩⟩
    have s0 := same_new (o := .tup [V.non, V.non]) n0
    have tl : Tv K (CN K) (upd H p0 (.tup [V.non, V.non])) lv (.dat d) := sd_to hd s0
    have hth' : ∀ y, lv = kV y → ∀ b, (valV kvs y).isSome = b → th = b := fun y e b e2 => (hth y e).trans e2
    rcases hw with rfl | rfl | rfl
    · refine ⟨_, rfl, rfl, true, by rw [decide_eq_true rfl], iteT ?_⟩
      refine ⟨_, rfl, a, dx, _, rfl, s0 _ _ ha, rfl, _, rfl, _, rfl, rfl, a, q, kvs, lv, v, .dat d, k, rfl, ⟨dx, s0 _ _ ha, s0 _ _ hq⟩, hl, tl, hf, tv_to tv s0, fv, fun o => fun dd H2 nd' s2 hx => ⟨true, exm1, fun _ => ⟨_, dd, rfl, rfl, fun b nb => ?_⟩, fun z => by cases z⟩, fun o y ey => ⟨fun u hu => fun dd H2 nd' s2 hx => ⟨true, exm3, fun _ => ⟨_, dd, rfl, rfl, fun b nb => ?_⟩, fun z => by cases z⟩, fun hn => ⟨fun o2 => ?_, fun o2 => fun dd H2 nd' s2 hx => ⟨true, exm, fun _ => ⟨_, dd, rfl, rfl, fun b nb => ?_⟩, fun z => by cases z⟩⟩⟩⟩
      · have o' : isK d = false := o
        have s3 := same_new (o := exV b (CK K) dd) nb
        have ex : ExAt (upd H2 b (exV b (CK K) dd)) b (CK K) [("key", lv)] := ⟨dd, upd_same, s3 _ _ hx⟩
        have ew : wd 0 (isK d) th (okT k) = .key := by rw [o']; rfl
        refine ⟨_, rfl, false, rfl, iteF ?_⟩
        refine ⟨_, rfl, b, _, _, _, _, false, rfl, ex, CG.xc, fun u r => r, noKV, _, rfl, iteF ?_⟩
        refine ⟨_, rfl, b, _, _, _, _, true, rfl, ex, CG.xc, fun u r => r, CG.kit, _, rfl, iteT ?_⟩
        refine ⟨_, rfl, sz 3 (by decide), fun tp ntp => ?_⟩
        have s4 := same_new (o := .tup [.ref (CK K), .ref (CT K), .ref (CE K)]) ntp
        have ex4 : ExAt (upd (upd H2 b (exV b (CK K) dd)) tp (.tup [.ref (CK K), .ref (CT K), .ref (CE K)])) b (CK K) [("key", lv)] := ⟨dd, s4 _ _ upd_same, s4 _ _ (s3 _ _ hx)⟩
        refine ⟨b, _, tp, _, _, _, _, rfl, ex4, CG.xc, upd_same, fun us r => vals3 r, kit3 (b2 := true) (b3 := true) CG.kit (fun z => by cases z) (fun z => by cases z), _, rfl, iteT ?_⟩
        exact ⟨_, rfl, _, rfl, b, _, _, lv, rfl, ex4, CG.xc, CG.no, rfl, sz 2 (by decide), fun p np => k2 (fun z => by rw [ew] at z; cases z) p _ (s0.tr (s2.tr (s3.tr (s4.tr (same_new np))))) (by rw [upd_same, ew]; rfl)⟩
      · have o' : isK d = true := o
        have e1 : th = true := hth' y ey _ (by rw [hu]; rfl)
        have s3 := same_new (o := exV b (CT K) dd) nb
        have ex : ExAt (upd H2 b (exV b (CT K) dd)) b (CT K) [("key", lv)] := ⟨dd, upd_same, s3 _ _ hx⟩
        have ew : wd 0 (isK d) th (okT k) = .taken := by rw [o', e1]; rfl
        refine ⟨_, rfl, false, rfl, iteF ?_⟩
        refine ⟨_, rfl, b, _, _, _, _, false, rfl, ex, CI.xc, fun u r => r, noTV, _, rfl, iteF ?_⟩
        refine ⟨_, rfl, b, _, _, _, _, false, rfl, ex, CI.xc, fun u r => r, noTK, _, rfl, iteF ?_⟩
        refine ⟨_, rfl, b, _, _, _, _, true, rfl, ex, CI.xc, fun u r => r, CI.kit, _, rfl, iteT ?_⟩
        refine ⟨_, rfl, sz 3 (by decide), fun tp ntp => ?_⟩
        have s4 := same_new (o := .tup [.ref (CK K), .ref (CT K), .ref (CE K)]) ntp
        have ex4 : ExAt (upd (upd H2 b (exV b (CT K) dd)) tp (.tup [.ref (CK K), .ref (CT K), .ref (CE K)])) b (CT K) [("key", lv)] := ⟨dd, s4 _ _ upd_same, s4 _ _ (s3 _ _ hx)⟩
        refine ⟨b, _, tp, _, _, _, _, rfl, ex4, CI.xc, upd_same, fun us r => vals3 r, kit3 (b3 := true) noTK (fun _ => CI.kit) (fun _ z => by cases z), _, rfl, iteT ?_⟩
        exact ⟨_, rfl, _, rfl, b, _, _, lv, rfl, ex4, CI.xc, CI.no, rfl, sz 2 (by decide), fun p np => k2 (fun z => by rw [ew] at z; cases z) p _ (s0.tr (s2.tr (s3.tr (s4.tr (same_new np))))) (by rw [upd_same, ew]; rfl)⟩
      · have o' : isK d = true := o
        have e1 : th = false := hth' y ey _ (by rw [hn]; rfl)
        refine ⟨_, rfl, true, rfl, iteT ⟨_, rfl, rfl, false, by rw [decide_eq_false (fun z => by cases z)], iteF ⟨_, rfl, true, rfl, iteT ⟨sz 1 (by decide), fun p np => ?_⟩⟩⟩⟩
        exact k1 y ey (by rw [o', e1, o2]; rfl) (by decide) p _ ((same_upd2 s0).tr (same_new np)) upd_same
      · have o' : isK d = true := o
        have e1 : th = false := hth' y ey _ (by rw [hn]; rfl)
        have s3 := same_new (o := exV b (CV K) dd) nb
        have ex : ExAt (upd H2 b (exV b (CV K) dd)) b (CV K) [("value", v)] := ⟨dd, upd_same, s3 _ _ hx⟩
        have ew : wd 0 (isK d) th (okT k) = .value := by rw [o', e1, o2]; rfl
        refine ⟨_, rfl, false, rfl, iteF ?_⟩
        refine ⟨_, rfl, b, _, _, _, _, true, rfl, ex, CF.xc, fun u r => r, CF.kit, _, rfl, iteT ?_⟩
        exact ⟨_, rfl, b, _, _, v, rfl, ex, CF.xc, CF.no, rfl, sz 2 (by decide), fun p np => k2 (fun z => by rw [ew] at z; cases z) p _ (s0.tr (s2.tr (s3.tr (same_new np)))) (by rw [upd_same, ew]; rfl)⟩
    · refine ⟨_, rfl, rfl, false, by rw [decide_eq_false (fun z => by cases z)], iteF ⟨_, rfl, rfl, true, by rw [decide_eq_true rfl], iteT ?_⟩⟩
      refine ⟨_, rfl, a, dx, _, rfl, s0 _ _ ha, rfl, _, rfl, _, rfl, rfl, a, q, kvs, lv, v, .dat d, k, rfl, ⟨dx, s0 _ _ ha, s0 _ _ hq⟩, hl, tl, hf, tv_to tv s0, fv, fun o => fun dd H2 nd' s2 hx => ⟨true, exm1, fun _ => ⟨_, dd, rfl, rfl, fun b nb => ?_⟩, fun z => by cases z⟩, fun o y ey => ⟨fun hn => fun dd H2 nd' s2 hx => ⟨true, exm2, fun _ => ⟨_, dd, rfl, rfl, fun b nb => ?_⟩, fun z => by cases z⟩, fun u hu => ⟨fun o2 => ?_, fun o2 => fun dd H2 nd' s2 hx => ⟨true, exm, fun _ => ⟨_, dd, rfl, rfl, fun b nb => ?_⟩, fun z => by cases z⟩⟩⟩⟩
      · have o' : isK d = false := o
        have s3 := same_new (o := exV b (CK K) dd) nb
        have ex : ExAt (upd H2 b (exV b (CK K) dd)) b (CK K) [("key", lv)] := ⟨dd, upd_same, s3 _ _ hx⟩
        have ew : wd 1 (isK d) th (okT k) = .key := by rw [o']; rfl
        refine ⟨_, rfl, false, rfl, iteF ?_⟩
        refine ⟨_, rfl, b, _, _, _, _, false, rfl, ex, CG.xc, fun u r => r, noKV, _, rfl, iteF ?_⟩
        refine ⟨_, rfl, b, _, _, _, _, true, rfl, ex, CG.xc, fun u r => r, CG.kit, _, rfl, iteT ?_⟩
        refine ⟨_, rfl, sz 3 (by decide), fun tp ntp => ?_⟩
        have s4 := same_new (o := .tup [.ref (CK K), .ref (CT K), .ref (CE K)]) ntp
        have ex4 : ExAt (upd (upd H2 b (exV b (CK K) dd)) tp (.tup [.ref (CK K), .ref (CT K), .ref (CE K)])) b (CK K) [("key", lv)] := ⟨dd, s4 _ _ upd_same, s4 _ _ (s3 _ _ hx)⟩
        refine ⟨b, _, tp, _, _, _, _, rfl, ex4, CG.xc, upd_same, fun us r => vals3 r, kit3 (b2 := true) (b3 := true) CG.kit (fun z => by cases z) (fun z => by cases z), _, rfl, iteT ?_⟩
        exact ⟨_, rfl, _, rfl, b, _, _, lv, rfl, ex4, CG.xc, CG.no, rfl, sz 2 (by decide), fun p np => k2 (fun z => by rw [ew] at z; cases z) p _ (s0.tr (s2.tr (s3.tr (s4.tr (same_new np))))) (by rw [upd_same, ew]; rfl)⟩
      · have o' : isK d = true := o
        have e1 : th = false := hth' y ey _ (by rw [hn]; rfl)
        have s3 := same_new (o := exV b (CE K) dd) nb
        have ex : ExAt (upd H2 b (exV b (CE K) dd)) b (CE K) [("key", lv)] := ⟨dd, upd_same, s3 _ _ hx⟩
        have ew : wd 1 (isK d) th (okT k) = .none := by rw [o', e1]; rfl
        refine ⟨_, rfl, false, rfl, iteF ?_⟩
        refine ⟨_, rfl, b, _, _, _, _, false, rfl, ex, CH.xc, fun u r => r, noEV, _, rfl, iteF ?_⟩
        refine ⟨_, rfl, b, _, _, _, _, false, rfl, ex, CH.xc, fun u r => r, noEK, _, rfl, iteF ?_⟩
        refine ⟨_, rfl, b, _, _, _, _, false, rfl, ex, CH.xc, fun u r => r, noET, _, rfl, iteF ?_⟩
        refine ⟨_, rfl, sz 3 (by decide), fun tp ntp => ?_⟩
        have s4 := same_new (o := .tup [.ref (CK K), .ref (CT K), .ref (CE K)]) ntp
        have ex4 : ExAt (upd (upd H2 b (exV b (CE K) dd)) tp (.tup [.ref (CK K), .ref (CT K), .ref (CE K)])) b (CE K) [("key", lv)] := ⟨dd, s4 _ _ upd_same, s4 _ _ (s3 _ _ hx)⟩
        refine ⟨b, _, tp, _, _, _, _, rfl, ex4, CH.xc, upd_same, fun us r => vals3 r, kit3 noEK (fun _ => noET) (fun _ _ => CH.kit), _, rfl, iteT ?_⟩
        exact ⟨_, rfl, _, rfl, b, _, _, lv, rfl, ex4, CH.xc, CH.no, rfl, sz 2 (by decide), fun p np => k2 (fun z => by rw [ew] at z; cases z) p _ (s0.tr (s2.tr (s3.tr (s4.tr (same_new np))))) (by rw [upd_same, ew]; rfl)⟩
      · have o' : isK d = true := o
        have e1 : th = true := hth' y ey _ (by rw [hu]; rfl)
        refine ⟨_, rfl, true, rfl, iteT ⟨_, rfl, rfl, false, by rw [decide_eq_false (fun z => by cases z)], iteF ⟨_, rfl, true, rfl, iteT ⟨sz 1 (by decide), fun p np => ?_⟩⟩⟩⟩
        exact k1 y ey (by rw [o', e1, o2]; rfl) (by decide) p _ ((same_upd2 s0).tr (same_new np)) upd_same
      · have o' : isK d = true := o
        have e1 : th = true := hth' y ey _ (by rw [hu]; rfl)
        have s3 := same_new (o := exV b (CV K) dd) nb
        have ex : ExAt (upd H2 b (exV b (CV K) dd)) b (CV K) [("value", v)] := ⟨dd, upd_same, s3 _ _ hx⟩
        have ew : wd 1 (isK d) th (okT k) = .value := by rw [o', e1, o2]; rfl
        refine ⟨_, rfl, false, rfl, iteF ?_⟩
        refine ⟨_, rfl, b, _, _, _, _, true, rfl, ex, CF.xc, fun u r => r, CF.kit, _, rfl, iteT ?_⟩
        exact ⟨_, rfl, b, _, _, v, rfl, ex, CF.xc, CF.no, rfl, sz 2 (by decide), fun p np => k2 (fun z => by rw [ew] at z; cases z) p _ (s0.tr (s2.tr (s3.tr (same_new np)))) (by rw [upd_same, ew]; rfl)⟩
    · refine ⟨_, rfl, rfl, false, by rw [decide_eq_false (fun z => by cases z)], iteF ⟨_, rfl, rfl, false, by rw [decide_eq_false (fun z => by cases z)], iteF ?_⟩⟩
      refine ⟨_, rfl, a, dx, _, rfl, s0 _ _ ha, rfl, _, rfl, rfl, a, q, kvs, lv, .dat d, rfl, ⟨dx, s0 _ _ ha, s0 _ _ hq⟩, tl, hf, fun o => fun dd H2 nd' s2 hx => ⟨true, exm1, fun _ => ⟨_, dd, rfl, rfl, fun b nb => ?_⟩, fun z => by cases z⟩, fun o y ey => ⟨fun u hu => ?_, fun hn => fun dd H2 nd' s2 hx => ⟨true, exm2, fun _ => ⟨_, dd, rfl, rfl, fun b nb => ?_⟩, fun z => by cases z⟩⟩⟩
      · have o' : isK d = false := o
        have s3 := same_new (o := exV b (CK K) dd) nb
        have ex : ExAt (upd H2 b (exV b (CK K) dd)) b (CK K) [("key", lv)] := ⟨dd, upd_same, s3 _ _ hx⟩
        have ew : wd 2 (isK d) th (okT k) = .key := by rw [o']; rfl
        refine ⟨_, rfl, false, rfl, iteF ?_⟩
        refine ⟨_, rfl, b, _, _, _, _, false, rfl, ex, CG.xc, fun u r => r, noKV, _, rfl, iteF ?_⟩
        refine ⟨_, rfl, b, _, _, _, _, true, rfl, ex, CG.xc, fun u r => r, CG.kit, _, rfl, iteT ?_⟩
        refine ⟨_, rfl, sz 3 (by decide), fun tp ntp => ?_⟩
        have s4 := same_new (o := .tup [.ref (CK K), .ref (CT K), .ref (CE K)]) ntp
        have ex4 : ExAt (upd (upd H2 b (exV b (CK K) dd)) tp (.tup [.ref (CK K), .ref (CT K), .ref (CE K)])) b (CK K) [("key", lv)] := ⟨dd, s4 _ _ upd_same, s4 _ _ (s3 _ _ hx)⟩
        refine ⟨b, _, tp, _, _, _, _, rfl, ex4, CG.xc, upd_same, fun us r => vals3 r, kit3 (b2 := true) (b3 := true) CG.kit (fun z => by cases z) (fun z => by cases z), _, rfl, iteT ?_⟩
        exact ⟨_, rfl, _, rfl, b, _, _, lv, rfl, ex4, CG.xc, CG.no, rfl, sz 2 (by decide), fun p np => k2 (fun _ => rfl) p _ (s0.tr (s2.tr (s3.tr (s4.tr (same_new np))))) (by rw [upd_same, ew]; rfl)⟩
      · have o' : isK d = true := o
        have e1 : th = true := hth' y ey _ (by rw [hu]; rfl)
        refine ⟨_, rfl, true, rfl, iteT ⟨_, rfl, rfl, true, by rw [decide_eq_true rfl], iteT (iteT ⟨sz 1 (by decide), fun p np => ?_⟩)⟩⟩
        exact k2 (fun _ => rfl) p _ (s0.tr (same_new np)) (by rw [upd_same, o', e1]; rfl)
      · have o' : isK d = true := o
        have e1 : th = false := hth' y ey _ (by rw [hn]; rfl)
        have s3 := same_new (o := exV b (CE K) dd) nb
        have ex : ExAt (upd H2 b (exV b (CE K) dd)) b (CE K) [("key", lv)] := ⟨dd, upd_same, s3 _ _ hx⟩
        have ew : wd 2 (isK d) th (okT k) = .none := by rw [o', e1]; rfl
        refine ⟨_, rfl, false, rfl, iteF ?_⟩
        refine ⟨_, rfl, b, _, _, _, _, false, rfl, ex, CH.xc, fun u r => r, noEV, _, rfl, iteF ?_⟩
        refine ⟨_, rfl, b, _, _, _, _, false, rfl, ex, CH.xc, fun u r => r, noEK, _, rfl, iteF ?_⟩
        refine ⟨_, rfl, b, _, _, _, _, false, rfl, ex, CH.xc, fun u r => r, noET, _, rfl, iteF ?_⟩
        refine ⟨_, rfl, sz 3 (by decide), fun tp ntp => ?_⟩
        have s4 := same_new (o := .tup [.ref (CK K), .ref (CT K), .ref (CE K)]) ntp
        have ex4 : ExAt (upd (upd H2 b (exV b (CE K) dd)) tp (.tup [.ref (CK K), .ref (CT K), .ref (CE K)])) b (CE K) [("key", lv)] := ⟨dd, s4 _ _ upd_same, s4 _ _ (s3 _ _ hx)⟩
        refine ⟨b, _, tp, _, _, _, _, rfl, ex4, CH.xc, upd_same, fun us r => vals3 r, kit3 noEK (fun _ => noET) (fun _ _ => CH.kit), _, rfl, iteT ?_⟩
        exact ⟨_, rfl, _, rfl, b, _, _, lv, rfl, ex4, CH.xc, CH.no, rfl, sz 2 (by decide), fun p np => k2 (fun _ => rfl) p _ (s0.tr (s2.tr (s3.tr (s4.tr (same_new np))))) (by rw [upd_same, ew]; rfl)⟩
end
end Kb

set_option Elab.async false
set_option linter.all false
set_option maxRecDepth 100000
set_option maxHeartbeats 4000000
namespace Kb
open PySem PySem.Spec PyProof.Rows L2 StX ClX
abbrev sHolds : Stmt := top 39
abbrev NH : List Str := ["book", "rows", "told", "flat", "one", "k"]
theorem scHolds : FnScope NH ["book", "rows"] (defScope sHolds) := ⟨rfl, rfl, rfl, by decide +kernel, rfl, by decide +kernel, by decide +kernel⟩
def spHolds (K : PySem.W.Frag) : Sp := fun vs H Q _ => ∃ (a q l : Addr) (R : List Rw), vs = [.ref a, .ref l] ∧ BkAt K H a q (kvR R) ∧ RowsAt H l R ∧ OkR K H R ∧ R.length ≤ 100 ∧ ∀ H', Same H H' → Q (.bl true) H'
theorem kV_inj {x y : Key} (h : kV x = kV y) : x = y := by
  cases x with
  | inl i =>
    cases y with
    | inl j => injection h with h; rw [h]
    | inr j => cases h
  | inr i =>
    cases y with
    | inl j => cases h
    | inr j => injection h with h; rw [h]
section
variable {P : Program} {w : World} {K : PySem.W.Frag} {mg : Str → Option Value} {base : Heap}
theorem ok_holds {f : Addr} {fd : FuncData} (F : FnP K "_law_holds" sHolds f fd) (N : Nm K mg) (T : Ts K mg) (S : Es P w K mg base) (R : Rq K mg) (SY : SysK K) (B : BkF K mg) (LL : ∃ f fd, FnP K "_law_like" sLike f fd ∧ mg "_law_like" = some (.ref f)) : FnG P w K mg base CX0 9 f fd ["book", "rows"] (spHolds K) := by
  obtain ⟨fL, dL, FL, gL⟩ := LL
  obtain ⟨pF, gF, dF, PF, FF⟩ := B.pairs
  obtain ⟨pH, gH, dH, uH, PH, FH, CH⟩ := B.shape
  obtain ⟨fC, dC, MC, FC⟩ := B.kids
  obtain ⟨f0, d0, M0, F0⟩ := B.cont
  obtain ⟨fM, dM, FM, gM⟩ := B.items
  obtain ⟨fG, dG, MG, FG⟩ := B.get
  obtain ⟨fQ, dQ, MQ, FQ⟩ := B.rqe
  have GL : FnG P w K mg base CX0 2 fL dL ["one", "other"] (spLike K) := ok_like FL N SY
  have GF : FnOk P w K mg base CX0 1 gF dF ["self"] (spPairs K) := ok_pairs B.cls FF N
  have GH : FnOk P w K mg base CX0 1 gH dH ["self"] (spShape (CB K) "book") := ok_shape B.cls.cls CH FH
  have G0 : FnOk P w K mg base CX0 3 f0 d0 ["self"] (spCont K) := ok_cont B.cls PF F0 FF N FM gM
  have GG : FnOk P w K mg base (L2.CX P w) 7 fG dG ["self", "key"] (spGet K) := ok_get B.cls FG MQ FQ N T S R
  have bL : Binds K dL ["one", "other"] [] := FL.bindsN fun _ _ _ _ _ _ us hl => match us, hl with | [_, _], _ => rfl
  have b0 : Binds K d0 ["self"] [] := F0.bindsN fun _ _ _ _ _ _ us hl => match us, hl with | [_], _ => rfl
  have bF : Binds K dF ["self"] [] := FF.bindsN fun _ _ _ _ _ _ us hl => match us, hl with | [_], _ => rfl
  have bH : Binds K dH ["self"] [] := FH.bindsN fun _ _ _ _ _ _ us hl => match us, hl with | [_], _ => rfl
  have bC : Binds K dC ["self"] [] := FC.bindsN fun _ _ _ _ _ _ us hl => match us, hl with | [_], _ => rfl
  have bG : Binds K dG ["self", "key"] [] := FG.bindsN fun _ _ _ _ _ _ us hl => match us, hl with | [_, _], _ => rfl
  have YC : YDef P w K mg base 4 fC dC ["self"] (spKids (CB K) (spCont K)) := ok_kids B.cls.cls M0 FC G0 b0 fun vs H Q Q' E h z => spCont_mono h z
  refine F.okG scHolds (fun vs H Q E h => ?_) (fun cdv A outer s H vs Q E hgu hr h => ?_)
  · obtain ⟨a, q, l, R, rfl, _⟩ := h
    rfl
  · refine ⟨_, PSs.nox (pss_cons (ps_set (i := 2) scHolds.nd rfl (Or.inl rfl) (pe_prop (pv 0) B.cls.cls PF GF (hr.mono (by decide)) bF .nil pass0 (by rfl)))
      (pss_cons (ps_if (PW.pt (pw_or (pt_not (pt_val (pe_callB call_isTup (by rfl) N.isi (by decide +kernel) (pa_cons (pv 2) (pa_cons (pe_bltn (v := .ty "tuple") (by rfl) N.tuple (by decide +kernel) rfl) pa_nil))))) (pw_or (pt_cmpR op_ne (pe_callB call_len (by rfl) N.len PySem.boot_len (pa_cons (pv 2) pa_nil)) (pe_callB call_len (by rfl) N.len PySem.boot_len (pa_cons (pv 1) pa_nil)) (nomark _)) (pw_or1 (pt_cmpR op_ne (pe_prop (pv 0) B.cls.cls PH GH (hr.mono (by decide)) bH .nil pass0 (by rfl)) pe_str (nomark _)))))) (pss_one (ps_ret pe_bl)) pss_nil)
      (pss_cons (ps_setLcY (i := 3) (py_meth0 (pv 0) B.cls.cls MC YC (hr.mono (by decide)) bC) (hr.mono (by decide)) scHolds.nd rfl rfl (sw_true rfl rfl rfl rfl) rfl (by decide +kernel) (by decide +kernel) rfl)
      (pss_cons (ps_for PassesOwn.never rfl (pi_range1 (by rfl) N.rng (pa_cons (pe_callB call_len (by rfl) N.len PySem.boot_len (pa_cons (pv 1) pa_nil)) pa_nil)) (pg_name (i := 5) scHolds.nd rfl (Or.inl rfl))
        (pss_cons (ps_if (PW.pt (pw_or (pt_cmpR op_ne (pe_callB (call_repr hgu hr SY) (by rfl) N.repr boot_repr (pa_cons (pe_ix ix_tup (pe_ix ix_tup (pv 2) (pv 5) (fun _ _ => rfl)) pe_int (fun _ _ => rfl)) pa_nil)) (pe_callB (call_repr hgu hr SY) (by rfl) N.repr boot_repr (pa_cons (pe_ix ix_tup (pe_ix ix_list (pv 1) (pv 5) (fun _ _ => rfl)) pe_int (fun _ _ => rfl)) pa_nil)) (nomark _)) (pw_or1 (pt_not (pt_val (pe_callG hgu GL (hr.mono (by decide)) (by rfl) gL FL.kp bL .nil pass0 (pa_cons (pe_ix ix_tup (pe_ix ix_tup (pv 2) (pv 5) (fun _ _ => rfl)) pe_int (fun _ _ => rfl)) (pa_cons (pe_ix ix_tup (pe_ix ix_list (pv 1) (pv 5) (fun _ _ => rfl)) pe_int (fun _ _ => rfl)) pa_nil)))))))) (pss_one (ps_ret pe_bl)) pss_nil)
        (pss_cons (ps_if (PW.pt (pw_or (pt_cmpR op_ne (pe_callB (call_repr hgu hr SY) (by rfl) N.repr boot_repr (pa_cons (pe_ix ix_list (pv 3) (pe_op op_mul pe_int (pv 5)) (fun _ _ => rfl)) pa_nil)) (pe_callB (call_repr hgu hr SY) (by rfl) N.repr boot_repr (pa_cons (pe_ix ix_tup (pe_ix ix_list (pv 1) (pv 5) (fun _ _ => rfl)) pe_int (fun _ _ => rfl)) pa_nil)) (nomark _)) (pw_or1 (pt_not (pt_val (pe_callG hgu GL (hr.mono (by decide)) (by rfl) gL FL.kp bL .nil pass0 (pa_cons (pe_ix ix_list (pv 3) (pe_op op_add (pe_op op_mul pe_int (pv 5)) pe_int) (fun _ _ => rfl)) (pa_cons (pe_ix ix_tup (pe_ix ix_list (pv 1) (pv 5) (fun _ _ => rfl)) pe_int (fun _ _ => rfl)) pa_nil)))))))) (pss_one (ps_ret pe_bl)) pss_nil)
        (pss_one (ps_if (pt_not (pt_val (pe_callG hgu GL (hr.mono (by decide)) (by rfl) gL FL.kp bL .nil pass0 (pa_cons (pe_meth (E := E0) (pv 0) B.cls.cls MG GG (hr.mono (by decide)) bG .nil (fun _ _ _ _ _ _ _ z => (no_cx z).elim) (pa_cons (pe_ix ix_tup (pe_ix ix_list (pv 1) (pv 5) (fun _ _ => rfl)) pe_int (fun _ _ => rfl)) pa_nil)) (pa_cons (pe_ix ix_tup (pe_ix ix_list (pv 1) (pv 5) (fun _ _ => rfl)) pe_int (fun _ _ => rfl)) pa_nil))))) (pss_one (ps_ret pe_bl)) pss_nil)))))
      (pss_one (ps_ret (pe_cmpR op_eq (pe_callB call_len (by rfl) N.len PySem.boot_len (pa_cons (pv 3) pa_nil)) (pe_op op_mul pe_int (pe_callB call_len (by rfl) N.len PySem.boot_len (pa_cons (pv 1) pa_nil))) (nomark _)))))))), ?_⟩
    obtain ⟨a, q, l, R, rfl, ⟨dx, ha, hq⟩, hR, ok, hl, k⟩ := h
    refine ⟨_, rfl, a, dx, _, rfl, ha, a, q, kvR R, rfl, ⟨dx, ha, hq⟩, fun H1 p s1 hp => ?_⟩
    have ha1 := s1 _ _ ha
    have hq1 := s1 _ _ hq
    have lk : (kvR R).length = R.length := kvR_len R
    obtain ⟨ps, hps, lps⟩ := hp.tup
    obtain ⟨xs, hxs, lxs⟩ := (hR.to s1).list
    refine ⟨_, rfl, .ref p, "tuple", true, rfl, ty_tup (SqT.of hps), rfl, by decide, _, rfl, iteF ?_⟩
    refine ⟨_, rfl, _, R.length, rfl, .inr ⟨ps, SqT.of hps, by omega⟩, _, rfl, _, R.length, rfl, .inl ⟨xs, SqL.of hxs, lxs.symm⟩, rfl, false, by rw [decide_eq_true rfl]; rfl, iteF ?_⟩
    refine ⟨_, rfl, a, dx, _, rfl, ha1, a, dx, _, rfl, ha1, rfl, rfl, false, by rw [decide_eq_true rfl]; rfl, iteF ?_⟩
    refine ⟨flatK (kvR R), sz _ (by rw [flatK_len, lk]; omega), _, rfl, a, dx, _, rfl, ha1, rfl, a, dx, _, rfl, ha1, rfl, a, q, kvR R, rfl, ⟨dx, ha1, hq1⟩, by omega, fun D2 H2 s2 hD2 => ⟨D2, rfl, hD2, fun D nD => ?_⟩⟩
    have s3 := same_new (o := .lst (flatK (kvR R))) nD
    have s23 := s2.tr s3
    have s13 := s1.tr s23
    have hD : (upd H2 D (.lst (flatK (kvR R)))) D = some (.lst (flatK (kvR R))) := upd_same
    have hxs3 := s23 _ _ hxs
    refine ⟨_, rfl, _, R.length, rfl, .inl ⟨xs, SqL.of hxs3, lxs.symm⟩, _, rfl, by omega, by omega, ?_⟩
    have hR3 := hR.to s13
    have hp3 := hp.to s23
    have ok3 := ok.to (.of s13)
    have ha3 := s23 _ _ ha1
    have hq3 := s23 _ _ hq1
    clear hps lps ps
    generalize upd H2 D (.lst (flatK (kvR R))) = H3 at *
    refine for_range (fun i σ H' => ∃ t4 t5 : Option V, σ = [some (.ref a), some (.ref l), some (.ref p), some (.ref D), t4, t5] ∧ Same H3 H') ⟨_, _, rfl, Same.refl'⟩ ?_ ?_
    · rintro i σ H4 hi ⟨t4, t5, rfl, s4⟩
      have hi' : i < R.length := by omega
      obtain ⟨r, hr'⟩ : ∃ r, R[i]? = some r := ⟨_, List.getElem?_eq_getElem hi'⟩
      have hm : r ∈ R := List.mem_of_getElem? hr'
      obtain ⟨x, v, kk⟩ := r
      have ev : Ev K H3 v kk := ok3.ev _ hm
      have kx : KS x := ok3.ks _ hm
      have sx := kx.shw
      have fx : fits (keyD x) := (at_ok kx.at_).1
      obtain ⟨xs, rt, hxs, lxs, hx, hrt⟩ := (hR3.to s4).get hr'
      obtain ⟨ps, tt, hps, lps, hpt, htt⟩ := (hp3.to s4).get (kvR_get hr')
      obtain ⟨f0, f1⟩ := flatK_get (kvR_get hr')
      have hD4 := s4 _ _ hD
      have ei : (0 + (i : Int)) = (i : Int) := Int.zero_add _
      refine ⟨_, rfl, _, rfl, p, ps, _, .ref tt, rfl, rfl, SqT.of hps, at_of (j := i) ei hpt, tt, _, 0, kV x, rfl, rfl, SqT.of htt, at_of (j := 0) rfl rfl, _, keyD x, rfl, sd_key x, sx.show_, sx.fit.1, sx.fit.2, _, rfl, _, rfl, l, xs, _, .ref rt, rfl, rfl, SqL.of hxs, at_of (j := i) ei hx, rt, _, 0, kV x, rfl, rfl, SqT.of hrt, at_of (j := 0) rfl rfl, _, keyD x, rfl, sd_key x, sx.show_, sx.fit.1, sx.fit.2, rfl, false, by rw [decide_eq_true rfl]; rfl, iteF ?_⟩
      refine ⟨_, rfl, _, rfl, p, ps, _, .ref tt, rfl, rfl, SqT.of hps, at_of (j := i) ei hpt, tt, _, 1, v, rfl, rfl, SqT.of htt, at_of (j := 1) rfl rfl, _, rfl, _, rfl, l, xs, _, .ref rt, rfl, rfl, SqL.of hxs, at_of (j := i) ei hx, rt, _, 1, v, rfl, rfl, SqT.of hrt, at_of (j := 1) rfl rfl, v, kk, rfl, (ev.to (.of s4)).tv, ev.fit.2.1, _, rfl, iteF ?_⟩
      refine ⟨_, rfl, _, rfl, _, _, rfl, rfl, .inl ⟨by decide, by decide⟩, D, _, _, kV x, rfl, rfl, SqL.of hD4, at_of (j := 2 * i) (by omega) f0, _, keyD x, rfl, sd_key x, sx.show_, sx.fit.1, sx.fit.2, _, rfl, _, rfl, l, xs, _, .ref rt, rfl, rfl, SqL.of hxs, at_of (j := i) ei hx, rt, _, 0, kV x, rfl, rfl, SqT.of hrt, at_of (j := 0) rfl rfl, _, keyD x, rfl, sd_key x, sx.show_, sx.fit.1, sx.fit.2, rfl, false, by rw [decide_eq_true rfl]; rfl, iteF ?_⟩
      refine ⟨_, rfl, _, rfl, _, _, rfl, rfl, .inl ⟨by decide, by decide⟩, _, _, rfl, rfl, D, _, _, v, rfl, rfl, SqL.of hD4, at_of (j := 2 * i + 1) (by omega) f1, _, rfl, _, rfl, l, xs, _, .ref rt, rfl, rfl, SqL.of hxs, at_of (j := i) ei hx, rt, _, 1, v, rfl, rfl, SqT.of hrt, at_of (j := 1) rfl rfl, v, kk, rfl, (ev.to (.of s4)).tv, ev.fit.2.1, _, rfl, iteF ?_⟩
      refine ⟨_, rfl, a, dx, _, rfl, s4 _ _ ha3, rfl, _, rfl, _, rfl, l, xs, _, .ref rt, rfl, rfl, SqL.of hxs, at_of (j := i) ei hx, rt, _, 0, kV x, rfl, rfl, SqT.of hrt, at_of (j := 0) rfl rfl, a, q, kvR R, kV x, .dat (keyD x), rfl, ⟨dx, s4 _ _ ha3, s4 _ _ hq3⟩, sd_key x, fx, fun z => ?_, fun _ y ey => ⟨fun u hu => ?_, fun hu => ?_⟩⟩
      · have z' : isK (keyD x) = false := z
        rw [kx.ok] at z'
        cases z'
      · obtain rfl : x = y := kV_inj ey
        obtain rfl : v = u := by
          rw [valV_at ok.nod hr'] at hu
          cases hu
          rfl
        refine ⟨_, rfl, _, rfl, l, xs, _, .ref rt, rfl, rfl, SqL.of hxs, at_of (j := i) ei hx, rt, _, 1, v, rfl, rfl, SqT.of hrt, at_of (j := 1) rfl rfl, v, kk, rfl, (ev.to (.of s4)).tv, ev.fit.2.1, _, rfl, iteF ?_⟩
        exact ⟨_, _, rfl, s4⟩
      · obtain rfl : x = y := kV_inj ey
        rw [valV_at ok.nod hr'] at hu
        cases hu
    · rintro σ H4 ⟨t4, t5, rfl, s4⟩
      refine ⟨_, rfl, _, 2 * R.length, rfl, .inl ⟨_, SqL.of (s4 _ _ hD), by rw [flatK_len, lk]⟩, _, rfl, _, R.length, rfl, .inl ⟨xs, SqL.of (s4 _ _ hxs3), lxs.symm⟩, _, _, rfl, rfl, .inl ⟨by decide, by decide⟩, rfl, ?_⟩
      rw [decide_eq_true (by congr 1)]
      exact k _ (s13.tr s4)
end
end Kb

set_option Elab.async false
set_option linter.all false
set_option maxRecDepth 100000
set_option maxHeartbeats 4000000
namespace Kb
open PySem PySem.Spec PyProof.Rows L2 StX ClX
abbrev tys : List String := ["NoneType", "bool", "int", "str", "list", "tuple", "dict"]
abbrev sAre : Stmt := top 25
theorem scAre : FnScope ["pairs", "pair"] ["pairs"] (defScope sAre) := ⟨rfl, rfl, rfl, by decide +kernel, rfl, by decide +kernel, by decide +kernel⟩
/-- an object that is no tuple -/
def NoTup (K : PySem.W.Frag) (H : Hp) (v : V) : Prop := ∃ t, (∀ H', Same H H' → TyX K H' v (.type t)) ∧ t ∈ tys ∧ t ≠ "tuple"
/-- an item that is a pair, or none -/
def Itm (K : PySem.W.Frag) (H : Hp) (v : V) (b : Bool) : Prop := (NoTup K H v ∧ b = false) ∨ ∃ t xs, v = .ref t ∧ SqT K H t xs ∧ b = decide (xs.length = 2)
theorem NoTup.to {K : PySem.W.Frag} {H H' : Hp} {v : V} (s : Same H H') (h : NoTup K H v) : NoTup K H' v := by
  obtain ⟨t, h1, h2, h3⟩ := h
  exact ⟨t, fun H2 s2 => h1 H2 (s.tr s2), h2, h3⟩
def Stab (K : PySem.W.Frag) (H : Hp) (ws : List V) (bs : List Bool) : Prop := ∀ H', Same H H' → Paired (Itm K H') ws bs
def spAre (K : PySem.W.Frag) : Sp := fun vs H Q _ => ∃ v : V, vs = [v] ∧ ((NoTup K H v ∧ ∀ H', Same H H' → Q (.bl false) H') ∨
  (∃ a ws bs, v = .ref a ∧ SqT K H a ws ∧ Stab K H ws bs ∧ ws.length ≤ 100 ∧ ∀ H', Same H H' → Q (.bl (bs.all id)) H'))
def rLenK (K : PySem.W.Frag) : List V → Hp → VK → Prop := fun xs H Q => ∃ (x : V) (n : Nat), xs = [x] ∧ LenV K x H n ∧ Q (V.int (n : Int)) H
section
variable {P : Program} {w : World} {K : PySem.W.Frag} {mg : Str → Option Value} {base : Heap}
theorem ok_are {f : Addr} {fd : FuncData} (F : FnP K "are_pairs" sAre f fd) (N : Nm K mg) : FnOk P w K mg base CX0 1 f fd ["pairs"] (spAre K) := by
  refine F.ok scAre (fun vs H Q E h => ?_) (fun cdv A outer s H vs Q E hr h => ?_)
  · obtain ⟨v, rfl, _⟩ := h
    rfl
  · refine ⟨_, PSs.nox (pss_cons (ps_if (pt_not (pt_val (pe_callB call_isTup (by rfl) N.isi (by decide +kernel) (pa_cons (pv 0) (pa_cons (pe_bltn (v := .ty "tuple") (by rfl) N.tuple (by decide +kernel) rfl) pa_nil))))) (pss_one (ps_ret pe_bl)) pss_nil)
      (pss_one (ps_ret (pe_callB (cr_all rfl) (by rfl) N.all (by decide +kernel) (pa_cons (pe_lc (own := [("pair", 1)]) (g := gName 1) (tt := tYes) rfl scAre.nd (pi_tup (pv 0)) (blkOk_by (own := [("pair", 1)]) (N := ["pairs", "pair"]) (sc := defScope sAre) (by decide +kernel))
          (fun _ _ _ _ _ => pg_name (i := 1) scAre.nd rfl (Or.inl rfl)) (fun _ _ _ _ _ => pts_nil)
          (fun _ _ _ _ _ => pe_and (pe_callB (show CallR _ _ (rIsTup K) from call_isTup) (by rfl) N.isi (by decide +kernel) (pa_cons (pv 1) (pa_cons (pe_bltn (v := .ty "tuple") (by rfl) N.tuple (by decide +kernel) rfl) pa_nil))) (pe_one (pe_cmpR op_eq (pe_callB (show CallR _ _ (rLenK K) from call_len) (by rfl) N.len PySem.boot_len (pa_cons (pv 1) pa_nil)) pe_int (nomark _))))) pa_nil))))), ?_⟩
    obtain ⟨v, rfl, h⟩ := h
    rcases h with ⟨⟨t, ty, mt, nt⟩, k⟩ | ⟨a, ws, bs, rfl, hT, hI, hl, k⟩
    · exact ⟨_, rfl, v, t, false, rfl, ty _ Same.refl', by simp [nt], mt, _, rfl, iteT (k _ Same.refl')⟩
    · have lb : ws.length = bs.length := Paired.length (hI H Same.refl')
      refine ⟨_, rfl, .ref a, "tuple", true, rfl, ty_tup hT, rfl, by decide, _, rfl, iteF ?_⟩
      refine ⟨_, rfl, a, rfl, ⟨ws, hT⟩, fun D nD => lc_it (walk_tup (xs := ws)) (fun i H' => Same H H' ∧ H' D = some (.lst ((bs.take i).map V.bl))) ⟨same_new nD, upd_same⟩ (fun i H' _ z => sqT_to z.1 hT) ?_ ?_⟩
      · rintro i y H' H'' hi ⟨s1, hD⟩ ⟨rfl, hx⟩
        obtain ⟨b, hb, hy⟩ := LiI.paired_get (hI H'' s1) hx
        have fin : ∃ acc, H'' D = some (.lst acc) ∧ acc.length < sizeLine ∧ (Same H (upd H'' D (.lst (acc ++ [.bl b]))) ∧ (upd H'' D (.lst (acc ++ [.bl b]))) D = some (.lst ((bs.take (i + 1)).map V.bl))) := by
          refine ⟨_, hD, ?_, same_updN s1 nD, ?_⟩
          · rw [List.length_map, List.length_take]
            exact Nat.lt_of_le_of_lt (Nat.min_le_right _ _) (Nat.lt_of_le_of_lt (m := 100) (by omega) (by decide))
          · rw [upd_same, List.take_add_one, hb, List.map_append]
            rfl
        refine ⟨rfl, yesT ?_⟩
        rcases hy with ⟨⟨t, ty, mt, nt⟩, rfl⟩ | ⟨t, xs, rfl, ht, rfl⟩
        · exact ⟨_, rfl, y, t, false, rfl, ty _ Same.refl', by simp [nt], mt, _, rfl, iteF fin⟩
        · refine ⟨_, rfl, .ref t, "tuple", true, rfl, ty_tup ht, rfl, by decide, _, rfl, iteT ?_⟩
          refine ⟨_, rfl, _, xs.length, rfl, .inr ⟨xs, ht, rfl⟩, rfl, ?_⟩
          have e : decide (V.int (xs.length : Int) = V.int 2) = decide (xs.length = 2) := by
            rw [Bool.eq_iff_iff, decide_eq_true_iff, decide_eq_true_iff]
            exact ⟨fun z => by injection z with z; omega, fun z => by rw [z]; rfl⟩
          show ∃ acc, H'' D = some (.lst acc) ∧ acc.length < sizeLine ∧ (Same H (upd H'' D (.lst (acc ++ [.bl (decide (V.int (xs.length : Int) = V.int 2))]))) ∧ (upd H'' D (.lst (acc ++ [.bl (decide (V.int (xs.length : Int) = V.int 2))]))) D = some (.lst ((bs.take (i + 1)).map V.bl)))
          rw [e]
          exact fin
      · rintro H' ⟨s1, hD⟩
        rw [lb, List.take_length] at hD
        exact ⟨D, bs, rfl, SqL.of hD, k _ s1⟩
end
end Kb

set_option Elab.async false
set_option linter.all false
set_option maxRecDepth 100000
set_option maxHeartbeats 4000000
namespace Kb
open PySem PySem.Spec PyProof.Rows L2 StX ClX
/-! ### Book.of -/
def keyOf (d : PyData) : Option Key := match d with
  | .int i => if isK (.int i) = true then some (.inl i) else none
  | .str x => if isK (.str x) = true then some (.inr x) else none
  | _ => none
theorem keyOf_some {d : PyData} {k : Key} (h : keyOf d = some k) : d = keyD k ∧ isK d = true := by
  unfold keyOf at h
  split at h
  · split at h
    · cases h
      exact ⟨rfl, by assumption⟩
    · cases h
  · split at h
    · cases h
      exact ⟨rfl, by assumption⟩
    · cases h
  · cases h
theorem keyOf_none {d : PyData} (h : keyOf d = none) : isK d = false := by
  unfold keyOf at h
  split at h
  · split at h
    · cases h
    · rename_i c
      exact Bool.eq_false_iff.mpr c
  · split at h
    · cases h
    · rename_i c
      exact Bool.eq_false_iff.mpr c
  · rename_i a b
    cases d with
    | int i => exact absurd rfl (a i)
    | str i => exact absurd rfl (b i)
    | none => rfl
    | bool _ => rfl
    | list _ => rfl
    | tuple _ => rfl
    | dict _ => rfl
theorem keyOf_key {y : Key} (h : isK (keyD y) = true) : keyOf (keyD y) = some y := by
  cases y with
  | inl i => exact if_pos h
  | inr x => exact if_pos h
theorem sd_keyV {K : PySem.W.Frag} {H : Hp} {x : V} {k : Key} (h : Sd K H x (keyD k)) : x = kV k := by
  cases k with
  | inl i =>
    cases h
    rfl
  | inr z =>
    cases h
    rfl
/-- a pair: the key's value, what it is, the value, what it is -/
structure Pr where
  lv : V
  d : PyData
  v : V
  k : Tk
inductive Oc where
  | made (kvs : List (Key × V))
  | key (v : V)
  | taken (v : V)
  | value (v : V)
def runE : List (Key × V) → List Pr → Oc
  | kvs, [] => .made kvs
  | kvs, p :: r => match keyOf p.d with
    | none => .key p.lv
    | some y => if (valV kvs y).isSome = true then .taken p.lv else if okT p.k = true then runE (putK kvs y p.v) r else .value p.v
structure PrOk (K : PySem.W.Frag) (H : Hp) (p : Pr) : Prop where
  sd : Sd K H p.lv p.d
  fd : fits p.d
  tv : Tv K (CN K) H p.v p.k
  fv : fitsT p.k
theorem PrOk.to {K : PySem.W.Frag} {H H' : Hp} {p : Pr} (h : PrOk K H p) (s : Same H H') : PrOk K H' p := ⟨sd_to h.sd s, h.fd, tv_to h.tv s, h.fv⟩
def PrAt (K : PySem.W.Frag) (H : Hp) (v : V) (p : Pr) : Prop := ∃ t, v = .ref t ∧ SqT K H t [p.lv, p.v] ∧ PrOk K H p
theorem PrAt.to {K : PySem.W.Frag} {H H' : Hp} {v : V} {p : Pr} (h : PrAt K H v p) (s : Same H H') : PrAt K H' v p := by
  obtain ⟨t, e, h1, h2⟩ := h
  exact ⟨t, e, sqT_to s h1, h2.to s⟩
theorem prs_to {K : PySem.W.Frag} {H H' : Hp} (s : Same H H') : ∀ {ws : List V} {ps : List Pr}, Paired (PrAt K H) ws ps → Paired (PrAt K H') ws ps
  | _, _, .nil => .nil
  | _, _, .cons h r => .cons (h.to s) (prs_to s r)
theorem prs_itm {K : PySem.W.Frag} {H : Hp} : ∀ {ws : List V} {ps : List Pr}, Paired (PrAt K H) ws ps → Paired (Itm K H) ws (ps.map fun _ => true)
  | _, _, .nil => .nil
  | _, _, .cons h r => .cons (by
      obtain ⟨t, e, h1, _⟩ := h
      exact .inr ⟨t, _, e, h1, rfl⟩) (prs_itm r)
theorem all_true {α : Type} (l : List α) : (l.map fun _ => true).all id = true := by
  induction l with
  | nil => rfl
  | cons a r ih => exact ih
theorem putK_len (kvs : List (Key × V)) (y : Key) (v : V) : (putK kvs y v).length ≤ kvs.length + 1 := by
  unfold putK
  split
  · rw [List.length_map]
    omega
  · rw [List.length_append]
    exact Nat.le_refl _
/-- what Book.of is given -/
inductive Arg (K : PySem.W.Frag) (H : Hp) (v : V) : Option (List Pr) → Prop
  | no : NoTup K H v → Arg K H v none
  | bad {a : Addr} {ws : List V} {bs : List Bool} : v = .ref a → SqT K H a ws → Stab K H ws bs → ws.length ≤ 100 → bs.all id = false → Arg K H v none
  | prs {a : Addr} {ws : List V} {ps : List Pr} : v = .ref a → SqT K H a ws → Paired (PrAt K H) ws ps → ws.length ≤ 100 → Arg K H v (some ps)
theorem Arg.to {K : PySem.W.Frag} {H H' : Hp} {v : V} {o : Option (List Pr)} (s : Same H H') (h : Arg K H v o) : Arg K H' v o := by
  cases h with
  | no h => exact .no (h.to s)
  | bad e h1 h2 h3 h4 => exact .bad e (sqT_to s h1) (fun H2 s2 => h2 H2 (s.tr s2)) h3 h4
  | prs e h1 h2 h3 => exact .prs e (sqT_to s h1) (prs_to s h2) h3
abbrev sOf : Stmt := sBkO
abbrev NO : List Str := ["cls", "pairs", "book", "key", "value"]
theorem scOf : FnScope NO ["cls", "pairs"] (defScope sOf) := ⟨rfl, rfl, rfl, by decide +kernel, rfl, by decide +kernel, by decide +kernel⟩
def spOf (K : PySem.W.Frag) : Sp := fun vs H Q E => ∃ (v : V) (o : Option (List Pr)), vs = [.ref (CB K), v] ∧ Arg K H v o ∧
  (o = none → Err (gC K "InvalidValue") "value" v H E) ∧
  (∀ ps, o = some ps → (∀ kvs, runE [] ps = .made kvs → ∀ n q H', Same H H' → H n = none → H q = none → BkAt K H' n q kvs → Q (.ref n) H') ∧
    (∀ u, runE [] ps = .key u → Err (gC K "InvalidKey") "key" u H E) ∧ (∀ u, runE [] ps = .taken u → Err (gC K "KeyTaken") "key" u H E) ∧ (∀ u, runE [] ps = .value u → Err (gC K "InvalidValue") "value" u H E))
section
variable {P : Program} {w : World} {K : PySem.W.Frag} {mg : Str → Option Value} {base : Heap}
theorem ok_of {f fi fe : Addr} {fd di de : FuncData} (B : BkC K) (F : FnM K "of" "Book.of" sOf [] f fd) (N : Nm K mg) (T : Ts K mg) (S : Es P w K mg base) (R : Rq K mg) (MI : Mk K (CB K) fi) (FI : FnM K "__init__" "Book.__init__" sBkI [] fi di) (ME : Meth K (CB K) "enter" fe) (FE : FnM K "enter" "Book.enter" sBkE [] fe de)
    (LA : ∃ f fd, FnP K "are_pairs" sAre f fd ∧ mg "are_pairs" = some (.ref f)) : FnOk P w K mg base (L2.CX P w) 7 f fd ["cls", "pairs"] (spOf K) := by
  obtain ⟨fa, da, FA, gA⟩ := LA
  have GA : FnOk P w K mg base CX0 1 fa da ["pairs"] (spAre K) := ok_are FA N
  have GI : FnOk P w K mg base CX0 1 fi di ["self"] (spBkI K) := ok_bkI B FI
  have GE : FnOk P w K mg base (L2.CX P w) 6 fe de ["self", "key", "value"] (spEnt K) := ok_ent B FE N T S R
  have bA : Binds K da ["pairs"] [] := FA.bindsN fun _ _ _ _ _ _ us hl => match us, hl with | [_], _ => rfl
  have bI : Binds K di ["self"] [] := FI.bindsN fun _ _ _ _ _ _ us hl => match us, hl with | [_], _ => rfl
  have bE : Binds K de ["self", "key", "value"] [] := FE.bindsN fun _ _ _ _ _ _ us hl => match us, hl with | [_, _, _], _ => rfl
  refine F.ok scOf (fun vs H Q E h => ?_) (fun cdv A outer s H vs Q E hr h => ?_)
  · obtain ⟨v, o, rfl, _⟩ := h
    rfl
  · refine ⟨_, pss_cons (ps_if (pt_not (pt_val (pe_call GA (hr.mono (by decide)) (by rfl) gA FA.kp bA .nil pass0 (pa_cons (pv 1) pa_nil)))) (pss_one (ps_x1 rfl (takes_of rfl rfl rfl rfl) S.val (hr.mono (by decide)) (by rfl) (pv 1))) pss_nil)
      (pss_cons (ps_set (i := 2) scOf.nd rfl (Or.inl rfl) (pe_makeV0 (i := 0) MI GI (hr.mono (by decide)) rfl (by first | exact .inl rfl | rfl) bI .nil pass0))
      (pss_cons (ps_for (passes_of rfl) rfl (pi_tup (pv 1)) (pg_tup rfl (pgs_cons (pg_name (i := 3) scOf.nd rfl (Or.inl rfl)) (pgs_cons (pg_name (i := 4) scOf.nd rfl (Or.inl rfl)) pgs_nil)))
        (pss_one (ps_expr (pe_methSg (pv 2) B.cls ME GE hr bE (fun σ => passAt (takes_of rfl rfl rfl rfl) σ) (pa_cons (pv 3) (pa_cons (pv 4) pa_nil))))))
      (pss_one (ps_ret (pv 2))))), ?_⟩
    obtain ⟨v, o, rfl, ha, k1, k2⟩ := h
    have bad : o = none → ∀ H1, Same H H1 → Err (gC K "InvalidValue") "value" v H1 E := fun e H1 s1 => err_to s1 (k1 e)
    cases ha with
    | no h => exact ⟨_, rfl, v, rfl, .inl ⟨h, fun H1 s1 => ⟨_, rfl, iteT ⟨_, rfl, v, rfl, fun dd H' n s x => bad rfl H1 s1 dd H' n s x⟩⟩⟩⟩
    | @bad a ws bs e h1 h2 h3 h4 =>
      subst e
      refine ⟨_, rfl, .ref a, rfl, .inr ⟨a, ws, bs, rfl, h1, h2, h3, fun H1 s1 => ⟨_, rfl, ?_⟩⟩⟩
      rw [h4]
      exact iteT ⟨_, rfl, .ref a, rfl, fun dd H' n s x => bad rfl H1 s1 dd H' n s x⟩
    | @prs a ws ps e h1 h2 h3 =>
      subst e
      obtain ⟨g1, g2, g3, g4⟩ := k2 ps rfl
      have lw : ws.length = ps.length := Paired.length h2
      refine ⟨_, rfl, .ref a, rfl, .inr ⟨a, ws, _, rfl, h1, fun H1 s1 => prs_itm (prs_to s1 h2), h3, fun H1 s1 => ⟨_, rfl, ?_⟩⟩⟩
      rw [all_true]
      refine iteF ⟨rfl, fun n dx hn hd ne => ⟨n, dx, H1, rfl, upd_same, hn, fun b o e => by
        rw [upd_ne (ne_of_none e hn), upd_ne (ne_of_none e hd)]
        exact e, fun q H2 s2 nq hb hq => ⟨rfl, ?_⟩⟩⟩
      have s12 := s1.tr s2
      have n0 := none_of s1 hn
      have q0 := none_of s1 nq
      refine ⟨_, rfl, a, rfl, ⟨ws, sqT_to s12 h1⟩, for_it (walk_tup (xs := ws)) (fun i σ H' => ∃ (t3 t4 : Option V) (kvs : List (Key × V)), σ = [some (.ref (CB K)), some (.ref a), some (.ref n), t3, t4] ∧ Same H H' ∧ H' n = some (.ins (CB K) dx (TF q)) ∧ H' q = some (.dK kvs) ∧ kvs.length ≤ i ∧ runE [] ps = runE kvs (ps.drop i)) ⟨none, none, [], rfl, s12, hb, hq, Nat.le_refl _, rfl⟩ (fun i σ H' _ z => ?_) ?_ ?_⟩
      · obtain ⟨_, _, _, rfl, s3, _⟩ := z
        exact sqT_to s3 h1
      · rintro i x σ H' H'' hi ⟨t3, t4, kvs, rfl, s3, hb3, hq3, lk, er⟩ ⟨rfl, hx⟩
        obtain ⟨p, ep, t, rfl, ht, hp⟩ := LiI.paired_get (prs_to s3 h2) hx
        have ed : ps.drop i = p :: ps.drop (i + 1) := by
          obtain ⟨hi', e⟩ := List.getElem?_eq_some_iff.mp ep
          rw [List.drop_eq_getElem_cons hi', e]
        rw [ed] at er
        refine ⟨t, _, rfl, ht, rfl, _, _, rfl, _, _, rfl, rfl, ?_⟩
        refine ⟨_, rfl, n, dx, _, rfl, hb3, rfl, _, rfl, _, rfl, n, q, kvs, p.lv, p.v, .dat p.d, p.k, rfl, ⟨dx, hb3, hq3⟩, by omega, hp.sd, hp.fd, hp.tv, hp.fv, fun o => ?_, fun o y ey => ⟨fun u hu => ?_, fun hn' => ⟨fun o2 => ?_, fun o2 => ?_⟩⟩⟩
        · have o' : isK p.d = false := o
          have ek : keyOf p.d = none := by
            cases z : keyOf p.d with
            | none => rfl
            | some y =>
              rw [(keyOf_some z).2] at o'
              cases o'
          exact err_to s3 (g2 p.lv (by rw [er]; unfold runE; rw [ek]))
        all_goals
          have o' : isK p.d = true := o
          have ek : keyOf p.d = some y := by
            cases z : keyOf p.d with
            | none =>
              rw [keyOf_none z] at o'
              cases o'
            | some y' =>
              have e1 := (keyOf_some z).1
              have e2 := hp.sd
              rw [e1] at e2
              have e3 := sd_keyV e2
              rw [ey] at e3
              rw [kV_inj e3]
        · exact err_to s3 (g3 p.lv (by rw [er]; unfold runE; rw [ek]; show (if (valV kvs y).isSome = true then _ else _) = _; rw [hu]; rfl))
        · refine ⟨some p.lv, some p.v, putK kvs y p.v, rfl, same_updN s3 q0, ?_, upd_same, Nat.le_trans (putK_len _ _ _) (by omega), ?_⟩
          · rw [upd_ne (ne_of hb3 hq3 (by intro z; cases z))]
            exact hb3
          · rw [er]
            conv => lhs; unfold runE
            rw [ek]
            show (if (valV kvs y).isSome = true then _ else _) = _
            rw [hn']
            show (if okT p.k = true then _ else _) = _
            rw [if_pos o2]
        · exact err_to s3 (g4 p.v (by
            rw [er]
            unfold runE
            rw [ek]
            show (if (valV kvs y).isSome = true then _ else _) = _
            rw [hn']
            show (if okT p.k = true then _ else _) = _
            rw [o2]
            rfl))
      · rintro σ H' ⟨t3, t4, kvs, rfl, s3, hb3, hq3, lk, er⟩
        rw [lw, List.drop_length] at er
        exact ⟨_, rfl, g1 kvs er n q H' s3 n0 q0 ⟨dx, hb3, hq3⟩⟩
end
end Kb

set_option Elab.async false
set_option linter.all false
set_option maxRecDepth 100000
set_option maxHeartbeats 4000000
namespace Kb
open PySem PySem.Spec PyProof.Rows L2 StX ClX
abbrev sLOf : Stmt := top 41
abbrev NF : List Str := ["what", "caught", "found", "e"]
theorem scLOf : FnScope NF ["what"] (defScope sLOf) := ⟨rfl, rfl, rfl, by decide +kernel, rfl, by decide +kernel, by decide +kernel⟩
/-- what the law's of answers -/
def spLOf (K : PySem.W.Frag) : Sp := fun vs H Q _ => ∃ (v : V) (o : Option (List Pr)), vs = [v] ∧ Arg K H v o ∧
  (o = none → ∀ p H', Same H H' → H' p = some (.lst [.str "value", v]) → Q (.ref p) H') ∧
  (∀ ps, o = some ps → (∀ kvs, runE [] ps = .made kvs → ∀ n q p H', Same H H' → H n = none → H q = none → BkAt K H' n q kvs → H' p = some (.lst [.str "made", .ref n]) → Q (.ref p) H') ∧
    (∀ u, runE [] ps = .key u → ∀ p H', Same H H' → H' p = some (.lst [.str "key", u]) → Q (.ref p) H') ∧ (∀ u, runE [] ps = .taken u → ∀ p H', Same H H' → H' p = some (.lst [.str "taken", u]) → Q (.ref p) H') ∧ (∀ u, runE [] ps = .value u → ∀ p H', Same H H' → H' p = some (.lst [.str "value", u]) → Q (.ref p) H'))
/-- Book.of and what it needs -/
structure OfF (K : PySem.W.Frag) (mg : Str → Option Value) : Prop where
  of : ∃ mc p g fd, CRead K (CB K) mc ∧ CMet K (CB K) mc "of" p g ∧ FnM K "of" "Book.of" sOf [] g fd
  are : ∃ f fd, FnP K "are_pairs" sAre f fd ∧ mg "are_pairs" = some (.ref f)
section
variable {P : Program} {w : World} {K : PySem.W.Frag} {mg : Str → Option Value} {base : Heap}
theorem ok_lof {f : Addr} {fd : FuncData} (F : FnP K "_law_of" sLOf f fd) (N : Nm K mg) (T : Ts K mg) (S : Es P w K mg base) (R : Rq K mg) (B : BkF K mg) (O : OfF K mg) (EF : ErrF K mg) : FnOk P w K mg base CX0 8 f fd ["what"] (spLOf K) := by
  obtain ⟨CF, CG, CI, CH, noKV, noTV, noEV, noTK, noEK, noET⟩ := EF
  obtain ⟨mc, po, fo, dO, rO, cO, FO⟩ := O.of
  obtain ⟨fi, di, MI, FI⟩ := B.init
  obtain ⟨fe, de, ME, FE⟩ := B.ent
  obtain ⟨CJ, CSt, CM, mJ, mS, mM, exm⟩ := CF.fam
  obtain ⟨CJ1, CSt1, CM1, mJ1, mS1, mM1, exm1⟩ := CG.fam
  obtain rfl : CJ = CJ1 := by rw [mJ] at mJ1; cases mJ1; rfl
  obtain rfl : CSt = CSt1 := by rw [mS] at mS1; cases mS1; rfl
  obtain rfl : CM = CM1 := by rw [mM] at mM1; cases mM1; rfl
  obtain ⟨CJ3, CSt3, CM3, mJ3, mS3, mM3, exm3⟩ := CI.fam
  obtain rfl : CJ = CJ3 := by rw [mJ] at mJ3; cases mJ3; rfl
  obtain rfl : CSt = CSt3 := by rw [mS] at mS3; cases mS3; rfl
  obtain rfl : CM = CM3 := by rw [mM] at mM3; cases mM3; rfl
  have GO : FnOk P w K mg base (L2.CX P w) 7 fo dO ["cls", "pairs"] (spOf K) := ok_of B.cls FO N T S R MI FI ME FE O.are
  have kO : ∀ (s : Shared) (ws : List Value), K.In s.heap → ws.length = 1 → BindsTo s dO ⟨[Value.ref (CB K)], (["pairs"] : List Str).zip ws⟩ ((["cls", "pairs"] : List Str).zip (Value.ref (CB K) :: ws)) := fun s ws hK hl => by
    obtain ⟨oc, od, dV, kV, doc, pm, an, cdv, ct, osl, rfl, lk, hcd, hD, hK'⟩ := FO.ex
    obtain rfl : dV = .none := hD.elim (fun z => z.2) fun z => absurd rfl z.1
    match ws, hl with
    | [_], _ => exact .of_eq rfl
  refine F.ok scLOf (fun vs H Q E h => ?_) (fun cdv A outer s H vs Q E hr h => ?_)
  · obtain ⟨v, o, rfl, _⟩ := h
    rfl
  · refine ⟨_, (pss_cons (ps_asg (pe_tup (pa_cons pe_non (pa_cons pe_non pa_nil))) (pg_tup rfl (pgs_cons (pg_name (i := 1) scLOf.nd rfl (Or.inl rfl)) (pgs_cons (pg_name (i := 2) scLOf.nd rfl (Or.inl rfl)) pgs_nil))))
      (pss_cons (ps_try_kept (i := 3) (j := 1) (Wout := fun _ _ _ _ => False) rfl rfl rfl scLOf.nd rfl rfl rfl rfl (by rfl) mJ (by rfl) mS (by rfl) mM (fun u s' z => by obtain ⟨_, _, _, _, _, _, _, _, _, _, _, _, _, _, _, _, z⟩ := z; exact z.elim)
        (fun W pn xe tk' _ => pss_one (ps_set (i := 2) scLOf.nd rfl (Or.inl rfl) (pe_cmethKSg (E := WE W) (gv := fun ws => ws) (gV := fun zs => zs) (ks := ["pairs"]) (pe_glob (v := .ref (CB K)) (by rfl) B.nm rfl) rO cO GO hr (fun σ => passAt tk' σ) kO (fun r => r) (pk_cons (pv 0) pk_nil)))))
      (pss_cons (ps_if (pt_cmp (pc_isN (pv 1))) (pss_one (ps_ret (pe_lst (pa_cons pe_str (pa_cons (pv 2) pa_nil))))) pss_nil)
      (pss_cons (ps_if (pt_val (pe_callB call_isX (by rfl) N.isi (by decide +kernel) (pa_cons (pv 1) (pa_cons (pe_glob (v := .ref (CV K)) (by rfl) CF.nm rfl) pa_nil)))) (pss_one (ps_ret (pe_lst (pa_cons pe_str (pa_cons (pe_xfd (pv 1)) pa_nil))))) pss_nil)
      (pss_one (ps_ret (pe_lst (pa_cons (pe_ifExp (pt_val (pe_callB call_isX (by rfl) N.isi (by decide +kernel) (pa_cons (pv 1) (pa_cons (pe_glob (v := .ref (CK K)) (by rfl) CG.nm rfl) pa_nil)))) pe_str pe_str) (pa_cons (pe_xfd (pv 1)) pa_nil))))))))), ?_⟩
    obtain ⟨v, o, rfl, ha, k1, k2⟩ := h
    refine ⟨sz 2 (by decide), fun p0 n0 => ⟨p0, _, rfl, SqT.of upd_same, rfl, _, _, rfl, _, _, rfl, rfl, ?_⟩⟩
    have s0 := same_new (o := .tup [V.non, V.non]) n0
    refine ⟨rfl, _, rfl, rfl, v, o, rfl, ha.to s0, fun e => fun dd H2 nd' s2 hx => ⟨true, exm, fun _ => ⟨_, dd, rfl, rfl, fun b nb => ?_⟩, fun z => by cases z⟩, fun ps e => ⟨fun kvs er n q H2 s2 hn hq hb => ?_, fun u er => fun dd H2 nd' s2 hx => ⟨true, exm1, fun _ => ⟨_, dd, rfl, rfl, fun b nb => ?_⟩, fun z => by cases z⟩, fun u er => fun dd H2 nd' s2 hx => ⟨true, exm3, fun _ => ⟨_, dd, rfl, rfl, fun b nb => ?_⟩, fun z => by cases z⟩, fun u er => fun dd H2 nd' s2 hx => ⟨true, exm, fun _ => ⟨_, dd, rfl, rfl, fun b nb => ?_⟩, fun z => by cases z⟩⟩⟩
    · have s3 := same_new (o := exV b (CV K) dd) nb
      have ex : ExAt (upd H2 b (exV b (CV K) dd)) b (CV K) [("value", v)] := ⟨dd, upd_same, s3 _ _ hx⟩
      refine ⟨_, rfl, false, rfl, iteF ?_⟩
      refine ⟨_, rfl, b, _, _, _, _, true, rfl, ex, CF.xc, fun u r => r, CF.kit, _, rfl, iteT ?_⟩
      exact ⟨_, rfl, b, _, _, v, rfl, ex, CF.xc, CF.no, rfl, sz 2 (by decide), fun p np => k1 e p _ (s0.tr (s2.tr (s3.tr (same_new np)))) upd_same⟩
    · refine ⟨_, rfl, true, rfl, iteT ⟨_, rfl, sz 2 (by decide), fun p np => ?_⟩⟩
      exact (k2 ps e).1 kvs er n q p _ (s0.tr (s2.tr (same_new np))) (none_of s0 hn) (none_of s0 hq) (hb.to (same_new np)) upd_same
    · have s3 := same_new (o := exV b (CK K) dd) nb
      have ex : ExAt (upd H2 b (exV b (CK K) dd)) b (CK K) [("key", u)] := ⟨dd, upd_same, s3 _ _ hx⟩
      refine ⟨_, rfl, false, rfl, iteF ?_⟩
      refine ⟨_, rfl, b, _, _, _, _, false, rfl, ex, CG.xc, fun u r => r, noKV, _, rfl, iteF ?_⟩
      refine ⟨_, rfl, b, _, _, _, _, true, rfl, ex, CG.xc, fun u r => r, CG.kit, _, rfl, iteT ?_⟩
      exact ⟨_, rfl, b, _, _, u, rfl, ex, CG.xc, CG.no, rfl, sz 2 (by decide), fun p np => (k2 ps e).2.1 u er p _ (s0.tr (s2.tr (s3.tr (same_new np)))) upd_same⟩
    · have s3 := same_new (o := exV b (CT K) dd) nb
      have ex : ExAt (upd H2 b (exV b (CT K) dd)) b (CT K) [("key", u)] := ⟨dd, upd_same, s3 _ _ hx⟩
      refine ⟨_, rfl, false, rfl, iteF ?_⟩
      refine ⟨_, rfl, b, _, _, _, _, false, rfl, ex, CI.xc, fun u r => r, noTV, _, rfl, iteF ?_⟩
      refine ⟨_, rfl, b, _, _, _, _, false, rfl, ex, CI.xc, fun u r => r, noTK, _, rfl, iteF ?_⟩
      exact ⟨_, rfl, b, _, _, u, rfl, ex, CI.xc, CI.no, rfl, sz 2 (by decide), fun p np => (k2 ps e).2.2.1 u er p _ (s0.tr (s2.tr (s3.tr (same_new np)))) upd_same⟩
    · have s3 := same_new (o := exV b (CV K) dd) nb
      have ex : ExAt (upd H2 b (exV b (CV K) dd)) b (CV K) [("value", u)] := ⟨dd, upd_same, s3 _ _ hx⟩
      refine ⟨_, rfl, false, rfl, iteF ?_⟩
      refine ⟨_, rfl, b, _, _, _, _, true, rfl, ex, CF.xc, fun u r => r, CF.kit, _, rfl, iteT ?_⟩
      exact ⟨_, rfl, b, _, _, u, rfl, ex, CF.xc, CF.no, rfl, sz 2 (by decide), fun p np => (k2 ps e).2.2.2 u er p _ (s0.tr (s2.tr (s3.tr (same_new np)))) upd_same⟩
end
end Kb

set_option Elab.async false
set_option linter.all false
set_option maxRecDepth 100000
set_option maxHeartbeats 4000000
namespace Kb
open PySem PySem.Spec PyProof.Rows L2 StX ClX
abbrev sCalled : Stmt := top 40
abbrev NC : List Str := ["draw", "book", "rows", "one", "way", "base", "what", "due"]
theorem scCalled : FnScope NC ["draw", "book", "rows"] (defScope sCalled) := ⟨rfl, rfl, rfl, by decide +kernel, rfl, by decide +kernel, by decide +kernel⟩
/-- what stands while a Book gets its pairs: T: the Book's, R: the record's -/
structure Gs (K : PySem.W.Frag) (p a q l lc : Addr) (N : Nat) (T R : List Rw) (H : Hp) : Prop where
  drw : DrawAt H p N
  cel : CellsAt H p lc
  thg : BkAt K H a q (kvR T)
  rows : RowsAt H l R
  okT : OkR K H T
  okR : OkR K H R
structure Dq (p q l lc : Addr) : Prop where
  qp : q ≠ p
  lc_ : l ≠ lc
section
variable {K : PySem.W.Frag} {p a q l lc : Addr} {N M : Nat} {T R T' R' : List Rw} {H H' : Hp}
theorem Gs.same (g : Gs K p a q l lc N T R H) (s : Same H H') : Gs K p a q l lc N T R H' :=
  ⟨g.drw.same s, cells_same g.cel s, g.thg.to s, g.rows.to s, g.okT.to (.of s), g.okR.to (.of s)⟩
theorem Gs.np (g : Gs K p a q l lc N T R H) {b : Addr} {o : HO} (h : H b = some o) (ho : ∀ kv, o ≠ .dK kv) : b ≠ p := fun z => by
  obtain ⟨x, y, w, h1⟩ := g.cel
  rw [z, h1] at h
  cases h
  exact ho _ rfl
theorem paired_of {H H' : Hp} (s : ∀ (t : Addr) xs, H t = some (.tup xs) → H' t = some (.tup xs)) : ∀ {rs : List Addr} {R : List Rw}, Paired (fun (t : Addr) (r : Rw) => H t = some (.tup [kV r.1, r.2.1])) rs R → Paired (fun (t : Addr) (r : Rw) => H' t = some (.tup [kV r.1, r.2.1])) rs R
  | _, _, .nil => .nil
  | _, _, .cons h r => .cons (s _ _ h) (paired_of s r)
theorem Gs.keep (g : Gs K p a q l lc N T R H) (d : Dq p q l lc) (k : Keep p H H') (dr : DrawAt H' p M) : Gs K p a q l lc M T R H' := by
  have ki := KI.keep g.cel k
  obtain ⟨dx, ha, hq⟩ := g.thg
  obtain ⟨rs, hl, hrs⟩ := g.rows
  refine ⟨dr, k.cells _ g.cel, ⟨dx, k _ _ ha (g.np ha fun _ z => by cases z), k _ _ hq d.qp⟩, ⟨rs, k _ _ hl (g.np hl fun _ z => by cases z), ?_⟩, g.okT.to ki, g.okR.to ki⟩
  exact paired_of (fun t xs e => k _ _ e (g.np e fun _ z => by cases z)) hrs
theorem Gs.mono (g : Gs K p a q l lc N T R H) (h : N ≤ M) : Gs K p a q l lc M T R H := ⟨g.drw.mono h, g.cel, g.thg, g.rows, g.okT, g.okR⟩
theorem Gs.setT (g : Gs K p a q l lc N T R H) (d : Dq p q l lc) (ok : OkR K H T') : Gs K p a q l lc N T' R (upd H q (.dK (kvR T'))) := by
  obtain ⟨dx, ha, hq⟩ := g.thg
  obtain ⟨rs, hl, hrs⟩ := g.rows
  have naq : a ≠ q := ne_of ha hq (by intro z; cases z)
  have nlq : l ≠ q := ne_of hl hq (by intro z; cases z)
  have ki : KI H (upd H q (.dK (kvR T'))) := fun b C dy fs e => by
    rw [upd_ne (ne_of e hq (by intro z; cases z))]
    exact e
  have nqc : q ≠ lc := fun z => by
    obtain ⟨l', cs, x, y, w, h1, h2, _⟩ := g.drw
    obtain rfl := cells_one ⟨x, y, w, h1⟩ g.cel
    rw [z, h2] at hq
    cases hq
  obtain ⟨d1, c1⟩ := draw_upd (o := .dK (kvR T')) g.drw g.cel d.qp nqc
  refine ⟨d1, c1, ⟨dx, by rw [upd_ne naq]; exact ha, upd_same⟩, ⟨rs, by rw [upd_ne nlq]; exact hl, ?_⟩, ok.to ki, g.okR.to ki⟩
  exact paired_of (fun t xs e => by rw [upd_ne (ne_of e hq (by intro z; cases z))]; exact e) hrs
theorem Gs.setR (g : Gs K p a q l lc N T R H) (d : Dq p q l lc) {xs : List V} (hx : RowsAt (upd H l (.lst xs)) l R') (ok : OkR K H R') : Gs K p a q l lc N T R' (upd H l (.lst xs)) := by
  obtain ⟨dx, ha, hq⟩ := g.thg
  obtain ⟨rs, hl, hrs⟩ := g.rows
  have nal : a ≠ l := ne_of ha hl (by intro z; cases z)
  have nql : q ≠ l := ne_of hq hl (by intro z; cases z)
  have ki : KI H (upd H l (.lst xs)) := KI.lst hl
  obtain ⟨d1, c1⟩ := draw_upd (o := .lst xs) g.drw g.cel (g.np hl fun _ z => by cases z) d.lc_
  exact ⟨d1, c1, ⟨dx, by rw [upd_ne nal]; exact ha, by rw [upd_ne nql]; exact hq⟩, hx, g.okT.to ki, ok.to ki⟩
end
theorem spInit_mono {K : PySem.W.Frag} {C : Addr} {fld : Str} {ho : List V → HO} {CV : Addr} {vs : List V} {H : Hp} {Q Q' : VK} {E : XK} (h : spInit K C fld ho CV vs H Q E) (i : ∀ v H, Q v H → Q' v H) : spInit K C fld ho CV vs H Q' E := by
  obtain ⟨a, dx, ws, ks, H0, e1, e2, e3, e4, e5, e6, e7, q, r⟩ := h
  exact ⟨a, dx, ws, ks, H0, e1, e2, e3, e4, e5, e6, e7, fun b p H' z1 z2 z3 z4 => i _ _ (q b p H' z1 z2 z3 z4), r⟩
theorem pairedR_set {H : Hp} {t : Addr} {r : Rw} (ht : H t = some (.tup [kV r.1, r.2.1])) : ∀ {rs : List Addr} {R : List Rw} (j : Nat), Paired (fun (t : Addr) (r : Rw) => H t = some (.tup [kV r.1, r.2.1])) rs R → Paired (fun (t : Addr) (r : Rw) => H t = some (.tup [kV r.1, r.2.1])) (rs.set j t) (R.set j r)
  | _, _, _, .nil => .nil
  | _, _, 0, .cons h a => .cons ht a
  | _, _, j + 1, .cons h a => .cons h (pairedR_set ht j a)
theorem pairedR_app {H : Hp} {t : Addr} {r : Rw} (ht : H t = some (.tup [kV r.1, r.2.1])) : ∀ {rs : List Addr} {R : List Rw}, Paired (fun (t : Addr) (r : Rw) => H t = some (.tup [kV r.1, r.2.1])) rs R → Paired (fun (t : Addr) (r : Rw) => H t = some (.tup [kV r.1, r.2.1])) (rs ++ [t]) (R ++ [r])
  | _, _, .nil => .cons ht .nil
  | _, _, .cons h a => .cons h (pairedR_app ht a)
theorem lst_off {H : Hp} {l : Addr} {xs ys : List V} (hl : H l = some (.lst xs)) : ∀ (t : Addr) zs, H t = some (.tup zs) → (upd H l (.lst ys)) t = some (.tup zs) := fun t zs e => by
  rw [upd_ne (ne_of e hl (by intro z; cases z))]
  exact e
theorem rows_set {H : Hp} {l t : Addr} {rs : List Addr} {R : List Rw} {r : Rw} (j : Nat) (hl : H l = some (.lst (rs.map V.ref))) (hrs : Paired (fun (t : Addr) (r : Rw) => H t = some (.tup [kV r.1, r.2.1])) rs R) (ht : H t = some (.tup [kV r.1, r.2.1])) : RowsAt (upd H l (.lst ((rs.map V.ref).set j (.ref t)))) l (R.set j r) :=
  ⟨rs.set j t, by rw [upd_same, List.map_set], paired_of (lst_off hl) (pairedR_set ht j hrs)⟩
theorem rows_app {H : Hp} {l t : Addr} {rs : List Addr} {R : List Rw} {r : Rw} (hl : H l = some (.lst (rs.map V.ref))) (hrs : Paired (fun (t : Addr) (r : Rw) => H t = some (.tup [kV r.1, r.2.1])) rs R) (ht : H t = some (.tup [kV r.1, r.2.1])) : RowsAt (upd H l (.lst (rs.map V.ref ++ [.ref t]))) l (R ++ [r]) :=
  ⟨rs ++ [t], by rw [upd_same, List.map_append]; rfl, paired_of (lst_off hl) (pairedR_app ht hrs)⟩
end Kb

set_option Elab.async false
set_option linter.all false
set_option maxRecDepth 100000
set_option maxHeartbeats 4000000
namespace Kb
open PySem PySem.Spec PyProof.Rows L2 StX ClX
def spCalled (K : PySem.W.Frag) : Sp := fun vs H Q _ => ∃ (p a q l lc : Addr) (N : Nat) (R : List Rw), vs = [.ref p, .ref a, .ref l] ∧ Gs K p a q l lc N R R H ∧ Dq p q l lc ∧ R.length ≤ 40 ∧ N < 50000 ∧ ∀ H' R', Gs K p a q l lc (N + 20) R' R' H' → R'.length ≤ R.length + 1 → Q (.bl true) H'
/-- the last value of a call: one of the law's values, or none -/
def One (K : PySem.W.Frag) (H : Hp) (v : V) (k : Tk) : Prop := (Ev K H v k ∧ okT k = true) ∨ ∃ d, k = .dat d ∧ OddD d ∧ Sd K H v d
theorem One.to {K : PySem.W.Frag} {H H' : Hp} {v : V} {k : Tk} (h : One K H v k) (s : Same H H') : One K H' v k := by
  rcases h with ⟨a, b⟩ | ⟨d, a, b, c⟩
  · exact .inl ⟨a.to (.of s), b⟩
  · exact .inr ⟨d, a, b, sd_to c s⟩
theorem One.tv {K : PySem.W.Frag} {H : Hp} {v : V} {k : Tk} (h : One K H v k) : Tv K (CN K) H v k ∧ fitsT k := by
  rcases h with ⟨a, b⟩ | ⟨d, rfl, b, c⟩
  · exact ⟨a.tv, a.fit.1⟩
  · exact ⟨c, b.fit⟩
/-- a key or none -/
structure Wh (K : PySem.W.Frag) (p : Addr) (H : Hp) (v : V) (d : PyData) : Prop where
  fit : fits d
  shw : Shw d
  key : KeyD v d
  sd : ∀ H2, Keep p H H2 → Sd K H2 v d
theorem Wh.to {K : PySem.W.Frag} {p : Addr} {H H' : Hp} {v : V} {d : PyData} (h : Wh K p H v d) (k : Keep p H H') : Wh K p H' v d := ⟨h.fit, h.shw, h.key, fun H2 k2 => h.sd H2 (k.trans k2)⟩
theorem wh_at {K : PySem.W.Frag} {p : Addr} {H : Hp} {v : V} {d : PyData} (h : At v d) : Wh K p H v d :=
  ⟨(at_ok h).1, (at_ok h).2.1, fun e => at_key h e, fun H2 _ => (at_ok h).2.2.2 K H2⟩
theorem wh_odd {K : PySem.W.Frag} {p : Addr} {H : Hp} {v : V} {d : PyData} (h : OddD d) (s : ∀ H2, Keep p H H2 → Sd K H2 v d) : Wh K p H v d :=
  ⟨h.fit, h.shw, fun e => (by
    have z := h.no
    have e2 : isA d = true := by
      cases d with
      | int i => exact e
      | str x => exact e
      | none => rfl
      | bool _ => rfl
      | list _ => cases e
      | tuple _ => cases e
      | dict _ => cases e
    rw [e2] at z
    cases z), s⟩
theorem thr_ex (R : List Rw) (v : V) : ∃ th, thr R v th := by
  by_cases c : ∃ y : Key, v = kV y ∧ y ∈ R.map Prod.fst
  · obtain ⟨y, e, m⟩ := c
    exact ⟨true, fun z e2 => ⟨fun _ => by rw [e] at e2; rw [← kV_inj e2]; exact m, fun _ => rfl⟩⟩
  · exact ⟨false, fun z e2 => ⟨(fun h => by cases h), fun m => (c ⟨z, e2, m⟩).elim⟩⟩
theorem thr_val {R : List Rw} {v : V} {th : Bool} (h : thr R v th) (hn : (R.map Prod.fst).Nodup) (y : Key) (e : v = kV y) : th = (valV (kvR R) y).isSome := by
  have h2 := h y e
  by_cases c : y ∈ R.map Prod.fst
  · rw [h2.mpr c]
    obtain ⟨r, hm, e2⟩ := List.mem_map.mp c
    obtain ⟨i, hi⟩ := List.mem_iff_getElem?.mp hm
    subst e2
    rw [valV_at hn hi]
    rfl
  · rw [valV_none c]
    cases th with
    | false => rfl
    | true => exact (c (h2.mp rfl)).elim
theorem wd_ok {way : Int} {isk th ok : Bool} (h : wd way isk th ok = .done) : isk = true ∧ (way = 0 → th = false) ∧ (way ≠ 0 → th = true) ∧ (way ≠ 2 → ok = true) := by
  unfold wd at h
  split at h
  · cases h
  · rename_i c1
    split at h
    · cases h
    · rename_i c2
      split at h
      · cases h
      · rename_i c3
        split at h
        · cases h
        · rename_i c4
          refine ⟨by simpa using c1, fun e => ?_, fun e => ?_, fun e => ?_⟩
          · cases th with
            | false => rfl
            | true => exact (c2 ⟨e, rfl⟩).elim
          · cases th with
            | true => rfl
            | false => exact (c3 ⟨e, rfl⟩).elim
          · cases ok with
            | true => rfl
            | false => exact (c4 ⟨e, rfl⟩).elim
theorem wd_val {way : Int} {isk th ok : Bool} (h : wd way isk th ok = .value) : ok = false := by
  unfold wd at h
  split at h
  · cases h
  · split at h
    · cases h
    · split at h
      · cases h
      · split at h
        · rename_i c
          exact c.2
        · cases h
theorem done_shw : (PyData.list [.str "done"]).showable = true ∧ (PyData.list [.str "done"]).depth ≤ 40 ∧ (PyData.list [.str "done"]).shown.length ≤ sizeLine := by
  refine ⟨rfl, by decide, ?_⟩
  have z : (PyData.list [.str "done"]).shown.length ≤ 100 := by decide +kernel
  exact Nat.le_trans z (by decide)
/-- the words can be shown -/
theorem word_shw {K : PySem.W.Frag} {p : Addr} {H : Hp} {wv v : V} {d : PyData} {k : Tk} (w : Wh K p H wv d) (o : One K H v k) {way : Int} {th : Bool} {W : Wd} (hW : wd way (isK d) th (okT k) = W) :
    ∃ ds : List PyData, (∀ H2, Same H H2 → SdAll K H2 (wdV wv v W) ds) ∧ (PyData.list ds).showable = true ∧ (PyData.list ds).depth ≤ 40 ∧ (PyData.list ds).shown.length ≤ sizeLine := by
  cases W with
  | key => 
    obtain ⟨a, b, c⟩ := pair_shw (z := "key") (by decide +kernel) w.shw
    exact ⟨[.str "key", d], fun H2 s2 => .cons (.str _) (.cons (w.sd _ (.of s2)) .nil), a, b, c⟩
  | taken => 
    obtain ⟨a, b, c⟩ := pair_shw (z := "taken") (by decide +kernel) w.shw
    exact ⟨[.str "taken", d], fun H2 s2 => .cons (.str _) (.cons (w.sd _ (.of s2)) .nil), a, b, c⟩
  | none => 
    obtain ⟨a, b, c⟩ := pair_shw (z := "none") (by decide +kernel) w.shw
    exact ⟨[.str "none", d], fun H2 s2 => .cons (.str _) (.cons (w.sd _ (.of s2)) .nil), a, b, c⟩
  | value =>
    have no := wd_val hW
    rcases o with ⟨_, o⟩ | ⟨e, rfl, oD, se⟩
    · rw [no] at o
      cases o
    · obtain ⟨a, b, c⟩ := pair_shw (z := "value") (by decide +kernel) oD.shw
      exact ⟨[.str "value", e], fun H2 s2 => .cons (.str _) (.cons (sd_to se s2) .nil), a, b, c⟩
  | done => exact ⟨[.str "done"], fun H2 s2 => .cons (.str _) .nil, done_shw.1, done_shw.2.1, done_shw.2.2⟩
theorem wdV_len {wv v : V} {W : Wd} (h : W ≠ .done) : (wdV wv v W).length ≠ 1 := by
  cases W with
  | done => exact absurd rfl h
  | key =>
    show (2 : Nat) ≠ 1
    decide
  | taken =>
    show (2 : Nat) ≠ 1
    decide
  | none =>
    show (2 : Nat) ≠ 1
    decide
  | value =>
    show (2 : Nat) ≠ 1
    decide
section
variable {P : Program} {w : World} {K : PySem.W.Frag} {mg : Str → Option Value} {base : Heap}
theorem ok_called {f : Addr} {fd : FuncData} (F : FnP K "_law_called_right" sCalled f fd) (N : Nm K mg) (T : Ts K mg) (S : Es P w K mg base) (R : Rq K mg) (SY : SysK K) (B : BkF K mg) (BR : RowF K mg) (EF : ErrF K mg) (D : Dr K mg)
    (LL : ∃ f fd, FnP K "_law_like" sLike f fd ∧ mg "_law_like" = some (.ref f)) (LA : ∃ f fd, FnP K "_law_atom" sAtom f fd ∧ mg "_law_atom" = some (.ref f)) (LO : ∃ f fd, FnP K "_law_odd" sOdd f fd ∧ mg "_law_odd" = some (.ref f)) (LW : ∃ f fd, FnP K "_law_word" sWord f fd ∧ mg "_law_word" = some (.ref f)) (LH : ∃ f fd, FnP K "_law_holds" sHolds f fd ∧ mg "_law_holds" = some (.ref f))
    (LD : ∃ f fd, FnP K "_law_due" sDue f fd ∧ mg "_law_due" = some (.ref f)) (LK : ∃ f fd, FnP K "_law_is_key" sLKey f fd ∧ mg "_law_is_key" = some (.ref f)) (LV : ∃ f fd, FnP K "_law_is_value" sLVal f fd ∧ mg "_law_is_value" = some (.ref f)) (LP : ∃ f fd, FnP K "_law_place" sPlace f fd ∧ mg "_law_place" = some (.ref f)) :
    FnG P w K mg base CX0 10 f fd ["draw", "book", "rows"] (spCalled K) := by
  obtain ⟨fr, dr, MR, FR⟩ := BR.init
  obtain ⟨f2, d2, F2, g2⟩ := D.mixed
  obtain ⟨f3, d3, F3, g3⟩ := D.next
  obtain ⟨f4, d4, F4, g4⟩ := LA
  obtain ⟨f5, d5, F5, g5⟩ := LO
  obtain ⟨fw, dw, FW, gW⟩ := LW
  obtain ⟨fh, dh, FH, gH⟩ := LH
  obtain ⟨fe, de, FE, gE⟩ := LD
  obtain ⟨fp, dp, FP, gP⟩ := LP
  have GR : FnR P w K mg base (L2.CX P w) 7 fr (spInit K (CR K) "_sequence" HO.lst (gC K "InvalidValue")) := ok_rowI BR.cls BR.noS FR N T S R
  have G3 : FnOk P w K mg base CX0 2 f3 d3 ["draw", "bound"] spNext := ok_next F3 F2 g2 N.len
  have G4 : FnOk P w K mg base CX0 3 f4 d4 ["draw"] spAtom := ok_atom F4 N D
  have G5 : FnOk P w K mg base CX0 3 f5 d5 ["draw"] (spOdd K) := ok_odd F5 N D
  have GW : FnOk P w K mg base CX0 8 fw dw ["way", "book", "what", "one"] (spWord K) := ok_word FW N T S R B EF
  have GH : FnG P w K mg base CX0 9 fh dh ["book", "rows"] (spHolds K) := ok_holds FH N T S R SY B LL
  have GE : FnG P w K mg base CX0 3 fe de ["way", "rows", "what", "one"] (spDue K) := ok_due FE N SY LK LV ⟨fp, dp, FP, gP⟩
  have GP : FnG P w K mg base CX0 2 fp dp ["rows", "what"] (spPlace K) := ok_place FP N SY
  have b3 : Binds K d3 ["draw", "bound"] [] := F3.bindsN fun _ _ _ _ _ _ us hl => match us, hl with | [_, _], _ => rfl
  have b4 : Binds K d4 ["draw"] [] := F4.bindsN fun _ _ _ _ _ _ us hl => match us, hl with | [_], _ => rfl
  have b5 : Binds K d5 ["draw"] [] := F5.bindsN fun _ _ _ _ _ _ us hl => match us, hl with | [_], _ => rfl
  have bW : Binds K dw ["way", "book", "what", "one"] [] := FW.bindsN fun _ _ _ _ _ _ us hl => match us, hl with | [_, _, _, _], _ => rfl
  have bE : Binds K de ["way", "rows", "what", "one"] [] := FE.bindsN fun _ _ _ _ _ _ us hl => match us, hl with | [_, _, _, _], _ => rfl
  have bP : Binds K dp ["rows", "what"] [] := FP.bindsN fun _ _ _ _ _ _ us hl => match us, hl with | [_, _], _ => rfl
  have bH : Binds K dh ["book", "rows"] [] := FH.bindsN fun _ _ _ _ _ _ us hl => match us, hl with | [_, _], _ => rfl
  refine F.okG scCalled (fun vs H Q E h => ?_) (fun cdv A outer s H vs Q E hgu hr h => ?_)
  · obtain ⟨p, a, q, l, lc, n, R, rfl, _⟩ := h
    rfl
  · have hu1 := Nat.lt_of_succ_lt (hu_of hr)
    refine ⟨_, PSs.nox (pss_cons (ps_par (i := 4) (j := 5) rfl scCalled.nd rfl rfl (by decide) rfl rfl (pa_cons (pe_call G3 (hr.mono (by decide)) (by rfl) g3 F3.kp b3 .nil pass0 (pa_cons (pv 0) (pa_cons pe_int pa_nil))) (pa_cons (pe_op op_cat (pe_lc (own := [("one", 3)]) (g := gName 3) (tt := tYes) rfl scCalled.nd (pi_list (pv 2)) (blkOk_by (own := [("one", 3)]) (N := NC) (sc := defScope sCalled) (by decide +kernel)) (fun _ _ _ _ _ => pg_name (i := 3) scCalled.nd rfl (Or.inl rfl)) (fun _ _ _ _ _ => pts_nil) (fun _ _ _ _ _ => pe_ix (show IxR _ (rIxT K) from ix_tup) (pv 3) pe_int (fun _ _ => rfl))) (pe_lst (pa_cons (pe_call G4 (hr.mono (by decide)) (by rfl) g4 F4.kp b4 .nil pass0 (pa_cons (pv 0) pa_nil)) (pa_cons pe_int (pa_cons pe_str (pa_cons pe_bl pa_nil)))))) pa_nil)) (by rfl))
      (pss_cons (ps_set (i := 6) scCalled.nd rfl (Or.inl rfl) (pe_ifExp (pt_cmpR op_gt (pe_call G3 (hr.mono (by decide)) (by rfl) g3 F3.kp b3 .nil pass0 (pa_cons (pv 0) (pa_cons pe_int pa_nil))) pe_int (nomark _)) (pe_ix ix_list (pv 5) (pe_call G3 (hr.mono (by decide)) (by rfl) g3 F3.kp b3 .nil pass0 (pa_cons (pv 0) (pa_cons (pe_callB call_len (by rfl) N.len PySem.boot_len (pa_cons (pv 5) pa_nil)) pa_nil))) (fun _ _ => rfl)) (pe_call G5 (hr.mono (by decide)) (by rfl) g5 F5.kp b5 .nil pass0 (pa_cons (pv 0) pa_nil))))
      (pss_cons (ps_set (i := 3) scCalled.nd rfl (Or.inl rfl) (pe_ix ix_list (pe_lst (pa_cons (pe_call G4 (hr.mono (by decide)) (by rfl) g4 F4.kp b4 .nil pass0 (pa_cons (pv 0) pa_nil)) (pa_cons (pv 1) (pa_cons (pe_makeR (E := E0) MR GR (hr.mono (by decide)) (by rfl) BR.nm (fun _ _ _ _ _ _ _ z => (no_cx z).elim) (pa_cons (pv 1) pa_nil)) (pa_cons (pe_call G5 (hr.mono (by decide)) (by rfl) g5 F5.kp b5 .nil pass0 (pa_cons (pv 0) pa_nil)) pa_nil))))) (pe_call G3 (hr.mono (by decide)) (by rfl) g3 F3.kp b3 .nil pass0 (pa_cons (pv 0) (pa_cons pe_int pa_nil))) (fun _ _ => rfl)))
      (pss_cons (ps_set (i := 7) scCalled.nd rfl (Or.inl rfl) (pe_callG hgu GE (hr.mono (by decide)) (by rfl) gE FE.kp bE .nil pass0 (pa_cons (pv 4) (pa_cons (pv 2) (pa_cons (pv 6) (pa_cons (pv 3) pa_nil))))))
      (pss_cons (ps_if (pt_cmpR op_ne (pe_callB (call_repr hgu hr SY) (by rfl) N.repr boot_repr (pa_cons (pe_call GW (hr.mono (by decide)) (by rfl) gW FW.kp bW .nil pass0 (pa_cons (pv 4) (pa_cons (pv 1) (pa_cons (pv 6) (pa_cons (pv 3) pa_nil))))) pa_nil)) (pe_callB (call_repr hgu hr SY) (by rfl) N.repr boot_repr (pa_cons (pv 7) pa_nil)) (nomark _)) (pss_one (ps_ret pe_bl)) pss_nil)
      (pss_cons (ps_if (PW.pt (pw_and (pt_cmpR (op_eqS hr.units) (pv 7) (pe_lst (pa_cons pe_str pa_nil)) (nomark _)) (pw_and1 (pt_cmpR op_eq (pv 4) pe_int (nomark _))))) (pss_one (ps_expr (pe_bm PySem.F.plainAttrs_list PySem.F.slot_list_append PySem.F.type_list_append mt_append (pv 2) (pa_cons (pe_tup (pa_cons (pv 6) (pa_cons (pv 3) pa_nil))) pa_nil)))) pss_nil)
      (pss_cons (ps_if (PW.pt (pw_and (pt_cmpR (op_eqS hr.units) (pv 7) (pe_lst (pa_cons pe_str pa_nil)) (nomark _)) (pw_and1 (pt_cmpR op_eq (pv 4) pe_int (nomark _))))) (pss_one (ps_asg (pe_tup (pa_cons (pv 6) (pa_cons (pv 3) pa_nil))) (pg_sub (pv 2) (pe_callG hgu GP (hr.mono (by decide)) (by rfl) gP FP.kp bP .nil pass0 (pa_cons (pv 2) (pa_cons (pv 6) pa_nil))) set_list))) pss_nil)
      (pss_one (ps_ret (pe_callG hgu GH hr (by rfl) gH FH.kp bH .nil pass0 (pa_cons (pv 1) (pa_cons (pv 2) pa_nil)))))))))))), ?_⟩
    obtain ⟨p, a, q, l, lc, n, R, rfl, g0, dq, hl, hn, k⟩ := h
    -- way, base
    refine ⟨_, rfl, p, 3, n, rfl, g0.drw, by omega, by decide, by decide, fun rw_ H1 aw bw D1' k1 => ?_⟩
    have g := g0.keep dq k1 D1'
    obtain ⟨xs0, hl0, lxs0⟩ := g.rows.list
    refine ⟨_, rfl, l, rfl, ⟨_, SqL.of hl0⟩, fun D1 nD1 => lc_it (walk_list (xs := xs0)) (fun i H' => Same H1 H' ∧ H' D1 = some (.lst ((R.take i).map fun r => kV r.1))) ⟨same_new nD1, upd_same⟩ (fun i H' _ z => SqL.of (z.1 _ _ hl0)) ?_ ?_⟩
    · rintro i y H' H'' hi ⟨s1, hD⟩ ⟨rfl, hy⟩
      rw [lxs0] at hi
      obtain ⟨r, hr'⟩ : ∃ r, R[i]? = some r := ⟨_, List.getElem?_eq_getElem hi⟩
      obtain ⟨xs, rt, hxs, lxs, hx, hrt⟩ := (g.rows.to s1).get hr'
      rw [s1 _ _ hl0] at hxs
      cases hxs
      rw [hy] at hx
      cases hx
      refine ⟨rfl, yesT ⟨_, rfl, rt, _, 0, kV r.1, rfl, rfl, SqT.of hrt, at_of (j := 0) rfl rfl, _, hD, ?_, same_updN s1 nD1, ?_⟩⟩
      · rw [List.length_map, List.length_take]
        exact Nat.lt_of_le_of_lt (Nat.min_le_right _ _) (Nat.lt_of_le_of_lt hl (by decide))
      · rw [upd_same, List.take_add_one, hr', List.map_append]
        rfl
    rintro H2 ⟨s1, hD1⟩
    rw [lxs0, List.take_length] at hD1
    have g1 := g.same s1
    have nD1p := g1.np hD1 fun _ z => by cases z
    refine ⟨_, rfl, p, _, rfl, g1.drw, by omega, fun v3 d3 H3 at3 D3 k3 => ?_⟩
    have g3' := g1.keep dq k3 D3
    have hD3 := k3 _ _ hD1 nD1p
    refine ⟨sz 4 (by decide), fun l5 n5 => ?_⟩
    have s4 := same_new (o := .lst [v3, .int 1, .str "1", .bl true]) n5
    refine ⟨D1, l5, _, _, rfl, rfl, s4 _ _ hD3, upd_same, sz _ (by rw [List.length_map]; show R.length + 4 ≤ 1000; omega), fun NM nNM => ⟨_, _, rfl, ?_⟩⟩
    have s5 := same_new (o := .lst ((R.map fun r => kV r.1) ++ [v3, .int 1, .str "1", .bl true])) nNM
    have g5' := (g3'.same s4).same s5
    have baseOk : ∀ (i : Nat) (v : V), ((R.map fun r => kV r.1) ++ [v3, .int 1, .str "1", .bl true])[i]? = some v → ∃ d, At v d := fun i v h => by
      have m := List.mem_of_getElem? h
      rcases List.mem_append.mp m with m | m
      · obtain ⟨r, hm, e⟩ := List.mem_map.mp m
        rw [← e]
        exact ⟨_, (g.okR.ks r hm).at_⟩
      · simp only [List.mem_cons, List.not_mem_nil, or_false] at m
        rcases m with m | m | m | m
        · rw [m]; exact ⟨_, at3⟩
        · rw [m]; exact ⟨_, .int 1 (by decide +kernel) (by decide +kernel)⟩
        · rw [m]; exact ⟨_, .str "1" (by decide) (by decide +kernel) (.inl (by decide +kernel))⟩
        · rw [m]; exact ⟨_, .bl true⟩
    have lnm : ((R.map fun r => kV r.1) ++ [v3, .int 1, .str "1", .bl true]).length = R.length + 4 := by
      rw [List.length_append, List.length_map]
      rfl
    have hNM : (upd (upd H3 l5 (.lst [v3, .int 1, .str "1", .bl true])) NM (.lst ((R.map fun r => kV r.1) ++ [v3, .int 1, .str "1", .bl true]))) NM = some (.lst ((R.map fun r => kV r.1) ++ [v3, .int 1, .str "1", .bl true])) := upd_same
    clear s4 s5 g1 g3' hD1 hD3 nD1 s1 nNM n5
    generalize (upd (upd H3 l5 (.lst [v3, .int 1, .str "1", .bl true])) NM (.lst ((R.map fun r => kV r.1) ++ [v3, .int 1, .str "1", .bl true]))) = H5 at *
    generalize ((R.map fun r => kV r.1) ++ [v3, .int 1, .str "1", .bl true]) = ns at *
    -- what
    refine ⟨_, rfl, p, 8, _, rfl, g5'.drw, by omega, by decide, by decide, fun r6 H6 a6 b6 D6 k6 => ⟨_, _, rfl, rfl, _, rfl, ?_⟩⟩
    have g6 := g5'.keep dq k6 D6
    have hNM6 := k6 _ _ hNM (g5'.np hNM fun _ z => by cases z)
    by_cases c : 0 < r6
    case' pos =>
      rw [decide_eq_true c]
      refine iteT ⟨_, rfl, _, rfl, _, rfl, _, ns.length, rfl, .inl ⟨_, SqL.of hNM6, rfl⟩, p, _, _, rfl, g6.drw, by omega, by omega, by omega, fun r7 H7 a7 b7 D7 k7 => ?_⟩
      have g7 := (g6.keep dq k7 D7).mono (M := n + 7) (by omega)
      have hNM7 := k7 _ _ hNM6 (g6.np hNM6 fun _ z => by cases z)
      obtain ⟨wv, hwv⟩ : ∃ v, ns[r7.toNat]? = some v := ⟨_, List.getElem?_eq_getElem (by omega)⟩
      obtain ⟨wd', hat⟩ := baseOk _ _ hwv
      have hwh : Wh K p H7 wv wd' := wh_at hat
      refine ⟨NM, _, _, wv, rfl, rfl, SqL.of hNM7, at_of (Int.toNat_of_nonneg a7).symm hwv, ?_⟩
      clear hat hwv hNM7 k7 a7 b7 D7 r7
    case' neg =>
      rw [decide_eq_false c]
      refine iteF ⟨_, rfl, p, _, rfl, g6.drw, by omega, fun wv wd' H7 oD osd D7 k7 => ?_⟩
      have g7 := (g6.keep dq k7 D7).mono (M := n + 7) (by omega)
      have hwh : Wh K p H7 wv wd' := wh_odd oD osd
      clear oD osd k7 D7
    all_goals
      clear c hNM6 g6 k6 D6 hNM g5' lnm baseOk
      -- one
      refine ⟨_, rfl, p, _, rfl, g7.drw, by omega, fun v8 d8 H8 at8 D8 k8 => ?_⟩
      have g8 := g7.keep dq k8 D8
      have w8 := hwh.to k8
      obtain ⟨dx8, ha8, hq8⟩ := g8.thg
      refine ⟨_, rfl, _, rfl, fun y dx9 hy hdy hne => spInit_mono (mkSeq (ws := [V.ref a]) (ks := [.nod (CB K)]) (Q := fun u H3 => ∃ y, u = V.ref y ∧ Same H8 H3 ∧ NodAt (CR K) "_sequence" HO.lst H3 y [V.ref a]) ⟨.cons (show Tv K (CN K) H8 (.ref a) (.nod (CB K)) from ⟨B.nod, a, dx8, _, rfl, ha8⟩) .nil, (by show 1 ≤ 60; decide), (fun k m => by cases List.mem_singleton.mp m; exact True.intro), fun _ y H11 s11 _ ny _ => ⟨y, rfl, s11, ny⟩, fun i v b => by cases b⟩ y dx9 hy hdy hne) fun u H9 z => ?_⟩
      obtain ⟨rfl, y', zz, s9, hny⟩ := z
      cases zz
      clear hy hdy hne
      obtain ⟨dxy, py, hyy, _⟩ := hny
      have g9 := g8.same s9
      have w9 := w8.to (.of s9)
      refine ⟨rfl, _, rfl, p, _, rfl, g9.drw, by omega, fun ov od H10 oD osd D10 k10 => ?_⟩
      have g10 := g9.keep dq k10 D10
      have w10 := w9.to k10
      have hy10 := k10 _ _ hyy (g9.np hyy fun _ z => by cases z)
      refine ⟨sz 4 (by decide), fun L11 n11 => ?_⟩
      have s11 := same_new (o := .lst [v8, .ref a, .ref y, ov]) n11
      have hL11 : (upd H10 L11 (.lst [v8, .ref a, .ref y, ov])) L11 = some (.lst [v8, .ref a, .ref y, ov]) := upd_same
      have hy11 := s11 _ _ hy10
      have g11 := g10.same s11
      have w11 := w10.to (.of s11)
      have o11 : ∀ H2, Keep p (upd H10 L11 (.lst [v8, .ref a, .ref y, ov])) H2 → Sd K H2 ov od := fun H2 k2 => osd _ ((Keep.of s11).trans k2)
      generalize upd H10 L11 (.lst [v8, .ref a, .ref y, ov]) = H11 at *
      refine ⟨_, rfl, p, 4, _, rfl, g11.drw, by omega, by decide, by decide, fun r12 H12 a12 b12 D12 k12 => ?_⟩
      have g12 := g11.keep dq k12 D12
      have w12 := w11.to k12
      have hy12 := k12 _ _ hy11 (g11.np hy11 fun _ z => by cases z)
      have hL12 := k12 _ _ hL11 (g11.np hL11 fun _ z => by cases z)
      obtain ⟨dx12, ha12, hq12⟩ := g12.thg
      obtain ⟨v, kv, hv, hone⟩ : ∃ v kv, ([v8, .ref a, .ref y, ov] : List V)[r12.toNat]? = some v ∧ One K H12 v kv := by
        obtain ⟨j, rfl⟩ := Int.eq_ofNat_of_zero_le a12
        have hj : j < 4 := by omega
        match j, hj with
        | 0, _ => exact ⟨_, .dat d8, rfl, .inl ⟨at8, (Ev.fit (K := K) (H := H12) (k := .dat d8) at8).2.2⟩⟩
        | 1, _ => exact ⟨_, .nod (CB K), rfl, .inl ⟨⟨B.nod, a, _, _, rfl, ha12⟩, rfl⟩⟩
        | 2, _ => exact ⟨_, .nod (CR K), rfl, .inl ⟨⟨BR.nod, y, _, _, rfl, hy12⟩, rfl⟩⟩
        | 3, _ => exact ⟨_, .dat od, rfl, .inr ⟨od, rfl, oD, o11 _ k12⟩⟩
      refine ⟨L11, _, _, v, rfl, rfl, SqL.of hL12, at_of (Int.toNat_of_nonneg a12).symm hv, ?_⟩
      have gA := g12.mono (M := n + 20) (by omega)
      clear hv hL12 hy12 ha12 hq12 k12 D12 g12 o11 hy11 hL11 g11 w11 s11 n11 hy10 g10 w10 k10 D10 osd oD s9 g9 w9 hyy hq8 ha8 k8 D8 g8 w8 at8 hwh g7
      -- due
      have hw : rw_ = 0 ∨ rw_ = 1 ∨ rw_ = 2 := by omega
      obtain ⟨th, hth⟩ := thr_ex R wv
      have sd12 := w12.sd _ Keep.refl
      refine ⟨_, rfl, _, rfl, _, rfl, _, rfl, rw_, l, R, wv, v, wd', kv, th, rfl, hw, gA.rows, gA.okR.ks, gA.okR.nod, by omega, sd12, w12.fit, w12.key, hth, hone.tv.1, hone.tv.2, fun DU H13 s13 hDU => ?_⟩
      have gB := gA.same s13
      have w13 := w12.to (.of s13)
      have one13 := hone.to s13
      have sd13 := w13.sd _ Keep.refl
      clear gA w12 hone sd12 s13
      have fin : ∀ H' R', Gs K p a q l lc (n + 20) R' R' H' → R'.length ≤ R.length + 1 → spHolds K [.ref a, .ref l] H' (fun u H2 => Q u H2) E0 := fun H' R' gg ll => ⟨a, q, l, R', rfl, gg.thg, gg.rows, gg.okR, by omega, fun H2 s2 => k H2 R' (gg.same s2) ll⟩
      -- the word
      refine ⟨_, rfl, _, rfl, _, rfl, _, rfl, rw_, a, q, kvR R, wv, v, wd', kv, th, rfl, hw, gB.thg, by rw [kvR_len]; omega, sd13, w13.fit, one13.tv.1, one13.tv.2, fun y ey => thr_val hth gB.okT.nod y ey, fun y ey hdone hne p2 H14 s14 hp2 => ?_, fun hcase p2 H14 s14 hp2 => ?_⟩
      · obtain ⟨o1, o2, o3, o4⟩ := wd_ok hdone
        have okk := o4 hne
        obtain ⟨y', ey', _, hy⟩ := w13.key o1
        obtain rfl : y' = y := kV_inj (ey'.symm.trans ey)
        subst ey
        have ev13 : Ev K H13 v kv := by
          rcases one13 with ⟨e, _⟩ | ⟨d, rfl, oD, _⟩
          · exact e
          · have z : okT (.dat d) = false := oD.no
            rw [z] at okk
            cases okk
        rw [hdone] at hDU
        have hth' := hth y' rfl
        obtain ⟨dxB, haB, hqB⟩ := gB.thg
        have nDq : DU ≠ q := ne_of hDU hqB (by intro z; cases z)
        have hDU14 := s14 DU _ (by rw [upd_ne nDq]; exact hDU)
        obtain ⟨z1, z2, z3⟩ := done_shw
        refine ⟨.ref p2, .list [.str "done"], rfl, .lst (SqL.of hp2) (.cons (.str _) .nil), z1, z2, z3, _, rfl, .ref DU, .list [.str "done"], rfl, .lst (SqL.of hDU14) (.cons (.str _) .nil), z1, z2, z3, rfl, false, by rw [decide_eq_true rfl]; rfl, iteF ?_⟩
        refine ⟨_, rfl, sz 1 (by decide), fun L15 n15 => .inr ⟨.list [.str "done"], .list [.str "done"], .lst (SqL.of (same_new n15 _ _ hDU14)) (.cons (.str _) .nil), .lst (SqL.of upd_same) (.cons (.str _) .nil), by decide +kernel, by decide +kernel, true, by decide +kernel, iteT ?_⟩⟩
        have s15 := same_new (o := .lst [.str "done"]) n15
        have hDU15 := s15 _ _ hDU14
        rcases hw with rfl | rfl | rfl
        · have nx : y' ∉ R.map Prod.fst := fun m => by
            have := hth'.mpr m
            rw [o2 rfl] at this
            cases this
          have okR' := gB.okT.app nx hy ev13
          rw [kvR_app R y' v kv nx] at s14
          have gC := ((gB.setT dq okR').same s14).same s15
          generalize upd H14 L15 (.lst [.str "done"]) = H15 at *
          obtain ⟨rs, hl15, hrs15⟩ := gC.rows
          have lrs : rs.length = R.length := Paired.length hrs15
          refine ⟨_, rfl, rfl, true, by rw [decide_eq_true rfl], iteT ⟨_, rfl, .inl ⟨rfl, _, SqL.of hl15⟩, _, rfl, _, rfl, sz 2 (by decide), fun t nt => ?_⟩⟩
          have st := same_new (o := .tup [kV y', v]) nt
          refine ⟨l, _, .ref t, rfl, rfl, st _ _ hl15, (by rw [List.length_map]; exact Nat.lt_of_le_of_lt (m := 100) (by omega) (by decide)), ?_⟩
          have hx := rows_app (r := (y', v, kv)) (st _ _ hl15) (pairedR_to st hrs15) (upd_same (H := H15) (a := t) (o := .tup [kV y', v]))
          have gD := (gC.same st).setR dq hx ((gC.same st).okT)
          have nDl : DU ≠ l := fun z => by
            rw [z, hl15] at hDU15
            injection hDU15 with e
            injection e with e
            have e3 : rs.map V.ref = [V.str "done"] := e
            cases rs with
            | nil => cases e3
            | cons x xs => cases e3
          have hDU16 := st _ _ hDU15
          have hDU17 : (upd (upd H15 t (.tup [kV y', v])) l (.lst (rs.map V.ref ++ [.ref t]))) DU = some (.lst [.str "done"]) := by
            rw [upd_ne nDl]
            exact hDU16
          generalize upd (upd H15 t (.tup [kV y', v])) l (.lst (rs.map V.ref ++ [.ref t])) = H17 at *
          refine ⟨_, rfl, sz 1 (by decide), fun L18 n18 => .inr ⟨.list [.str "done"], .list [.str "done"], .lst (SqL.of (same_new n18 _ _ hDU17)) (.cons (.str _) .nil), .lst (SqL.of upd_same) (.cons (.str _) .nil), by decide +kernel, by decide +kernel, true, by decide +kernel, iteT ⟨_, rfl, rfl, false, by rw [decide_eq_false (fun z => by cases z)], iteF ⟨_, rfl, _, rfl, ?_⟩⟩⟩⟩
          exact fin _ _ (gD.same (same_new n18)) (by rw [List.length_append]; exact Nat.le_refl _)
        · have e1 : th = true := o3 (by decide)
          obtain ⟨r, hm, er⟩ := List.mem_map.mp (hth'.mp e1)
          obtain ⟨j, hj⟩ := List.mem_iff_getElem?.mp hm
          subst er
          have okR' := gB.okT.set hj ev13
          rw [kvR_put v kv gB.okT.nod hj] at s14
          have gC := ((gB.setT dq okR').same s14).same s15
          generalize upd H14 L15 (.lst [.str "done"]) = H15 at *
          refine ⟨_, rfl, rfl, false, by rw [decide_eq_false (fun z => by cases z)], iteF ?_⟩
          refine ⟨_, rfl, sz 1 (by decide), fun L18 n18 => .inr ⟨.list [.str "done"], .list [.str "done"], .lst (SqL.of (same_new n18 _ _ hDU15)) (.cons (.str _) .nil), .lst (SqL.of upd_same) (.cons (.str _) .nil), by decide +kernel, by decide +kernel, true, by decide +kernel, iteT ⟨_, rfl, rfl, true, by rw [decide_eq_true rfl], iteT ⟨_, rfl, _, rfl, sz 2 (by decide), fun t nt => ?_⟩⟩⟩⟩
          have gE := (gC.same (same_new (o := .lst [.str "done"]) n18)).same (same_new (o := .tup [kV r.1, v]) nt)
          have ht : (upd (upd H15 L18 (.lst [.str "done"])) t (.tup [kV r.1, v])) t = some (.tup [kV r.1, v]) := upd_same
          generalize upd (upd H15 L18 (.lst [.str "done"])) t (.tup [kV r.1, v]) = H16 at *
          refine ⟨_, rfl, _, rfl, _, rfl, l, R, r.1, rfl, gE.rows, gE.okR.ks, gE.okR.nod, hy, by omega, fun j' r' hj' er' H17 s17 => ?_, fun no => (no (List.mem_map.mpr ⟨r, hm, rfl⟩)).elim⟩
          obtain rfl : j' = j := nod_one gB.okT.nod hj' hj er'
          have gF := gE.same s17
          have ht17 := s17 _ _ ht
          obtain ⟨rs, hl17, hrs17⟩ := gF.rows
          have lrs : rs.length = R.length := Paired.length hrs17
          have hj2 : j' < R.length := (List.getElem?_eq_some_iff.mp hj).1
          refine ⟨l, _, _, j', rfl, rfl, hl17, ?_, ?_⟩
          · rw [List.length_map, lrs]
            show (if 0 ≤ (j' : Int) then (if (j' : Int) < (R.length : Int) then some (j' : Int).toNat else none) else _) = some j'
            rw [if_pos (by omega), if_pos (by omega)]
            rfl
          have hx := rows_set (r := (r.1, v, kv)) j' hl17 hrs17 ht17
          have gG := gF.setR dq hx gF.okT
          exact ⟨_, rfl, _, rfl, fin _ _ gG (by rw [List.length_set]; omega)⟩
        · exact absurd rfl hne
      · generalize hW : wd rw_ (isK wd') th (okT kv) = W at *
        obtain ⟨ds, hs, e1, e2, e3⟩ := word_shw w13 one13 hW
        have hDU14 := s14 _ _ hDU
        refine ⟨.ref p2, .list ds, rfl, .lst (SqL.of hp2) (hs _ s14), e1, e2, e3, _, rfl, .ref DU, .list ds, rfl, .lst (SqL.of hDU14) (hs _ s14), e1, e2, e3, rfl, false, by rw [decide_eq_true rfl]; rfl, iteF ?_⟩
        have gC := gB.same s14
        by_cases cW : W = .done
        · subst cW
          obtain rfl := hcase rfl
          refine ⟨_, rfl, sz 1 (by decide), fun L15 n15 => .inr ⟨.list [.str "done"], .list [.str "done"], .lst (SqL.of (same_new n15 _ _ hDU14)) (.cons (.str _) .nil), .lst (SqL.of upd_same) (.cons (.str _) .nil), by decide +kernel, by decide +kernel, true, by decide +kernel, iteT ⟨_, rfl, rfl, false, by rw [decide_eq_false (fun z => by cases z)], iteF ?_⟩⟩⟩
          have s15 := same_new (o := .lst [.str "done"]) n15
          have hDU15 := s15 _ _ hDU14
          refine ⟨_, rfl, sz 1 (by decide), fun L16 n16 => .inr ⟨.list [.str "done"], .list [.str "done"], .lst (SqL.of (same_new n16 _ _ hDU15)) (.cons (.str _) .nil), .lst (SqL.of upd_same) (.cons (.str _) .nil), by decide +kernel, by decide +kernel, true, by decide +kernel, iteT ⟨_, rfl, rfl, false, by rw [decide_eq_false (fun z => by cases z)], iteF ⟨_, rfl, _, rfl, ?_⟩⟩⟩⟩
          exact fin _ _ ((gC.same s15).same (same_new n16)) (Nat.le_succ _)
        · have ne := wdV_len (wv := wv) (v := v) cW
          refine ⟨_, rfl, sz 1 (by decide), fun L15 n15 => .inl ⟨DU, L15, _, _, rfl, rfl, SqL.of (same_new n15 _ _ hDU14), SqL.of upd_same, ne, false, rfl, iteF ?_⟩⟩
          have s15 := same_new (o := .lst [.str "done"]) n15
          have hDU15 := s15 _ _ hDU14
          refine ⟨_, rfl, sz 1 (by decide), fun L16 n16 => .inl ⟨DU, L16, _, _, rfl, rfl, SqL.of (same_new n16 _ _ hDU15), SqL.of upd_same, ne, false, rfl, iteF ⟨_, rfl, _, rfl, ?_⟩⟩⟩
          exact fin _ _ ((gC.same s15).same (same_new n16)) (Nat.le_succ _)
end
end Kb

set_option Elab.async false
set_option linter.all false
set_option maxRecDepth 100000
set_option maxHeartbeats 4000000
namespace Kb
open PySem PySem.Spec PyProof.Rows L2 StX ClX
def prs (R : List Rw) : List Pr := R.map fun r => ⟨kV r.1, keyD r.1, r.2.1, r.2.2⟩
theorem prs_row {K : PySem.W.Frag} {H : Hp} : ∀ {rs : List Addr} {R : List Rw}, Paired (fun (t : Addr) (r : Rw) => H t = some (.tup [kV r.1, r.2.1])) rs R → (∀ r ∈ R, Ev K H r.2.1 r.2.2) → (∀ r ∈ R, KS r.1) → Paired (PrAt K H) (rs.map V.ref) (prs R)
  | _, _, .nil, _, _ => .nil
  | _, r :: _, .cons h t, e, k => .cons ⟨_, rfl, SqT.of h, sd_key _, (at_ok (k r List.mem_cons_self).at_).1, (e r List.mem_cons_self).tv, (e r List.mem_cons_self).fit.1⟩ (prs_row t (fun r m => e r (List.mem_cons_of_mem _ m)) (fun r m => k r (List.mem_cons_of_mem _ m)))
theorem rows_prs {K : PySem.W.Frag} {H : Hp} {l : Addr} {R : List Rw} (h : RowsAt H l R) (o : OkR K H R) : ∃ ws : List V, H l = some (.lst ws) ∧ Paired (PrAt K H) ws (prs R) := by
  obtain ⟨rs, h1, h2⟩ := h
  exact ⟨_, h1, prs_row h2 o.ev o.ks⟩
theorem run_rows : ∀ (B A : List Rw) (tail : List Pr), ((A ++ B).map Prod.fst).Nodup → (∀ r ∈ B, KS r.1) → (∀ r ∈ B, okT r.2.2 = true) → runE (kvR A) (prs B ++ tail) = runE (kvR (A ++ B)) tail
  | [], A, tail, _, _, _ => by
    rw [List.append_nil]
    rfl
  | r :: B, A, tail, hn, hk, ho => by
    have nx : r.1 ∉ A.map Prod.fst := fun m => by
      rw [List.map_append] at hn
      exact (List.nodup_append.mp hn).2.2 _ m _ (by rw [List.map_cons]; exact List.mem_cons_self) rfl
    have ek : keyOf (keyD r.1) = some r.1 := keyOf_key (hk r List.mem_cons_self).ok
    have e1 : A ++ r :: B = (A ++ [r]) ++ B := by rw [List.append_assoc]; rfl
    rw [e1] at hn ⊢
    rw [← run_rows B (A ++ [r]) tail hn (fun s m => hk s (List.mem_cons_of_mem _ m)) (fun s m => ho s (List.mem_cons_of_mem _ m))]
    show runE (kvR A) (⟨kV r.1, keyD r.1, r.2.1, r.2.2⟩ :: (prs B ++ tail)) = _
    conv => lhs; unfold runE
    rw [ek]
    show (if (valV (kvR A) r.1).isSome = true then _ else _) = _
    rw [valV_none nx]
    show (if okT r.2.2 = true then _ else _) = _
    rw [if_pos (ho r List.mem_cons_self), kvR_app A r.1 r.2.1 r.2.2 nx]
theorem run_all {K : PySem.W.Frag} {H : Hp} {R : List Rw} (o : OkR K H R) (tail : List Pr) : runE [] (prs R ++ tail) = runE (kvR R) tail := run_rows R [] tail o.nod o.ks fun r m => (o.ev r m).fit.2.2
theorem run_made {K : PySem.W.Frag} {H : Hp} {R : List Rw} (o : OkR K H R) : runE [] (prs R) = .made (kvR R) := by
  have z := run_all o []
  rw [List.append_nil] at z
  exact z
theorem paired_app {α β : Type} {r : α → β → Prop} : ∀ {xs ys : List α} {us vs : List β}, Paired r xs us → Paired r ys vs → Paired r (xs ++ ys) (us ++ vs)
  | _, _, _, _, .nil, h => h
  | _, _, _, _, .cons a b, h => .cons a (paired_app b h)
theorem fresh_no {R : List Rw} (h : ∀ r ∈ R, KS r.1) : (Sum.inr "fresh" : Key) ∉ R.map Prod.fst := fun m => by
  obtain ⟨r, hm, e⟩ := List.mem_map.mp m
  have k := h r hm
  rw [e] at k
  rcases k.2.2 with z | z
  · exact absurd z (by decide +kernel)
  · have e1 : ("fresh" : Str).length = 2000 := by
      rw [z]
      show Array.size _ = 2000
      rw [size_rep]
      rfl
    exact absurd e1 (by decide)
theorem put_some (kvs : List (Key × V)) (y : Key) (v : V) (h : valV kvs y = none) : (valV (putK kvs y v) y).isSome = true := by
  have e : (kvs.any fun kv => decide (kv.1 = y)) = false := by
    rw [valV_any, h]
    rfl
  unfold putK
  rw [e, if_neg Bool.false_ne_true, ← valV_any, List.any_append]
  simp
abbrev frP : Pr := ⟨.str "fresh", .str "fresh", .non, .dat .none⟩
abbrev foP (ov : V) (od : PyData) : Pr := ⟨.str "fresh", .str "fresh", ov, .dat od⟩
abbrev ooP (ov : V) (od : PyData) : Pr := ⟨ov, od, ov, .dat od⟩
theorem keyF : keyOf (.str "fresh") = some (.inr "fresh") := keyOf_key (y := .inr "fresh") (by decide +kernel)
theorem run_v {K : PySem.W.Frag} {H : Hp} {R : List Rw} (o : OkR K H R) {ov : V} {od : PyData} (h : isA od = false) : runE [] (prs R ++ [foP ov od, ooP ov od]) = .value ov := by
  rw [run_all o]
  unfold runE
  rw [keyF]
  show (if (valV (kvR R) (.inr "fresh")).isSome = true then _ else _) = _
  rw [valV_none (fresh_no o.ks)]
  show (if okT (.dat od) = true then _ else _) = _
  rw [show okT (.dat od) = false from h]
  rfl
theorem key_noA {d : PyData} (h : isA d = false) : keyOf d = none := by
  cases e : keyOf d with
  | none => rfl
  | some y =>
    have z := (keyOf_some e).2
    cases d with
    | int i => rw [show isA (.int i) = isK (.int i) from rfl, z] at h; cases h
    | str i => rw [show isA (.str i) = isK (.str i) from rfl, z] at h; cases h
    | none => cases h
    | bool _ => cases h
    | list _ => cases z
    | tuple _ => cases z
    | dict _ => cases z
theorem run_k {K : PySem.W.Frag} {H : Hp} {R : List Rw} (o : OkR K H R) {ov : V} {od : PyData} (h : isA od = false) : runE [] (prs R ++ [ooP ov od, frP, frP]) = .key ov := by
  rw [run_all o]
  unfold runE
  rw [key_noA h]
theorem run_t {K : PySem.W.Frag} {H : Hp} {R : List Rw} (o : OkR K H R) {ov : V} {od : PyData} : runE [] (prs R ++ [frP, foP ov od]) = .taken (.str "fresh") := by
  rw [run_all o]
  have n := valV_none (fresh_no o.ks)
  unfold runE
  rw [keyF]
  show (if (valV (kvR R) (.inr "fresh")).isSome = true then _ else _) = _
  rw [n, if_neg (show ¬ ((none : Option V).isSome = true) from Bool.false_ne_true), if_pos (show okT frP.k = true from rfl)]
  unfold runE
  rw [keyF]
  show (if (valV (putK (kvR R) (.inr "fresh") .non) (.inr "fresh")).isSome = true then _ else _) = _
  rw [if_pos (put_some _ _ _ n)]
abbrev sOfR : Stmt := top 42
abbrev NR : List Str := ["draw", "rows", "found", "odd", "fresh", "what"]
theorem scOfR : FnScope NR ["draw", "rows"] (defScope sOfR) := ⟨rfl, rfl, rfl, by decide +kernel, rfl, by decide +kernel, by decide +kernel⟩
def spOfR (K : PySem.W.Frag) : Sp := fun vs H Q _ => ∃ (p a q l lc : Addr) (N : Nat) (R : List Rw), vs = [.ref p, .ref l] ∧ Gs K p a q l lc N R R H ∧ Dq p q l lc ∧ R.length ≤ 40 ∧ N < 50000 ∧ ∀ H', Gs K p a q l lc (N + 1) R R H' → Q (.bl true) H'
def rTupOf (K : PySem.W.Frag) : List V → Hp → VK → Prop := fun xs H Q => ∃ p ys, xs = [V.ref p] ∧ ((SqL K H p ys ∧ ∀ (l : Addr), H l = none → Q (V.ref l) (upd H l (HO.tup ys))) ∨ SqT K H p ys ∧ Q (V.ref p) H)
section
variable {P : Program} {w : World} {K : PySem.W.Frag} {mg : Str → Option Value} {base : Heap}
theorem ok_ofR {f : Addr} {fd : FuncData} (F : FnP K "_law_of_right" sOfR f fd) (N : Nm K mg) (T : Ts K mg) (S : Es P w K mg base) (R : Rq K mg) (SY : SysK K) (B : BkF K mg) (O : OfF K mg) (EF : ErrF K mg) (D : Dr K mg)
    (LL : ∃ f fd, FnP K "_law_like" sLike f fd ∧ mg "_law_like" = some (.ref f)) (LO : ∃ f fd, FnP K "_law_odd" sOdd f fd ∧ mg "_law_odd" = some (.ref f)) (LH : ∃ f fd, FnP K "_law_holds" sHolds f fd ∧ mg "_law_holds" = some (.ref f)) (LF' : ∃ f fd, FnP K "_law_of" sLOf f fd ∧ mg "_law_of" = some (.ref f)) :
    FnG P w K mg base CX0 10 f fd ["draw", "rows"] (spOfR K) := by
  obtain ⟨f5, d5, F5, g5⟩ := LO
  obtain ⟨fh, dh, FH, gH⟩ := LH
  obtain ⟨fo, dO, FO, gO⟩ := LF'
  have G5 : FnOk P w K mg base CX0 3 f5 d5 ["draw"] (spOdd K) := ok_odd F5 N D
  have GH : FnG P w K mg base CX0 9 fh dh ["book", "rows"] (spHolds K) := ok_holds FH N T S R SY B LL
  have GO : FnOk P w K mg base CX0 8 fo dO ["what"] (spLOf K) := ok_lof FO N T S R B O EF
  have b5 : Binds K d5 ["draw"] [] := F5.bindsN fun _ _ _ _ _ _ us hl => match us, hl with | [_], _ => rfl
  have bH : Binds K dh ["book", "rows"] [] := FH.bindsN fun _ _ _ _ _ _ us hl => match us, hl with | [_, _], _ => rfl
  have bO : Binds K dO ["what"] [] := FO.bindsN fun _ _ _ _ _ _ us hl => match us, hl with | [_], _ => rfl
  refine F.okG scOfR (fun vs H Q E h => ?_) (fun cdv A outer s H vs Q E hgu hr h => ?_)
  · obtain ⟨p, a, q, l, lc, n, R, rfl, _⟩ := h
    rfl
  · have hu1 := Nat.lt_of_succ_lt (hu_of hr)
    refine ⟨_, PSs.nox (pss_cons (ps_set (i := 2) scOfR.nd rfl (Or.inl rfl) (pe_call GO (hr.mono (by decide)) (by rfl) gO FO.kp bO .nil pass0 (pa_cons (pe_callTy (show CallR _ (.type "tuple") (rTupOf K) from call_tuple_of) (by rfl) N.tuple (by decide +kernel) (pa_cons (pv 1) pa_nil)) pa_nil)))
      (pss_cons (ps_if (PW.pt (pw_or (pt_cmpR op_ne (pe_ix ix_list (pv 2) pe_int (fun _ _ => rfl)) pe_str (nomark _)) (pw_or1 (pt_not (pt_val (pe_callG hgu GH hr (by rfl) gH FH.kp bH .nil pass0 (pa_cons (pe_ix ix_list (pv 2) pe_int (fun _ _ => rfl)) (pa_cons (pv 1) pa_nil)))))))) (pss_one (ps_ret pe_bl)) pss_nil)
      (pss_cons (ps_par (i := 3) (j := 4) rfl scOfR.nd rfl rfl (by decide) rfl rfl (pa_cons (pe_call G5 (hr.mono (by decide)) (by rfl) g5 F5.kp b5 .nil pass0 (pa_cons (pv 0) pa_nil)) (pa_cons (pe_tup (pa_cons pe_str (pa_cons pe_non pa_nil))) pa_nil)) (by rfl))
      (pss_cons (ps_for PassesOwn.never rfl (pi_list (pe_lst (pa_cons (pe_callTy call_list_of (by rfl) N.list (by decide +kernel) (pa_cons (pv 1) pa_nil)) (pa_cons pe_non (pa_cons pe_int (pa_cons pe_str (pa_cons pe_dnewK
          (pa_cons (pe_op op_catU (pe_callTy (show CallR _ (.type "tuple") (rTupOf K) from call_tuple_of) (by rfl) N.tuple (by decide +kernel) (pa_cons (pv 1) pa_nil)) (pe_tup (pa_cons pe_int pa_nil)))
          (pa_cons (pe_op op_catU (pe_callTy (show CallR _ (.type "tuple") (rTupOf K) from call_tuple_of) (by rfl) N.tuple (by decide +kernel) (pa_cons (pv 1) pa_nil)) (pe_tup (pa_cons (pe_tup (pa_cons pe_int (pa_cons pe_int (pa_cons pe_int pa_nil)))) pa_nil)))
          (pa_cons (pe_tup (pa_cons (pe_lst (pa_cons pe_str (pa_cons pe_int pa_nil))) pa_nil)) pa_nil)))))))))) (pg_name (i := 5) scOfR.nd rfl (Or.inl rfl))
        (pss_one (ps_if (pt_cmpR (op_neP hu1) (pe_call GO (hr.mono (by decide)) (by rfl) gO FO.kp bO .nil pass0 (pa_cons (pv 5) pa_nil)) (pe_lst (pa_cons pe_str (pa_cons (pv 5) pa_nil))) (nomark _)) (pss_one (ps_ret pe_bl)) pss_nil)))
      (pss_cons (ps_if (pt_cmpR op_ne (pe_callB (call_repr hgu hr SY) (by rfl) N.repr boot_repr (pa_cons (pe_call GO (hr.mono (by decide)) (by rfl) gO FO.kp bO .nil pass0 (pa_cons (pe_op op_catU (pe_callTy (show CallR _ (.type "tuple") (rTupOf K) from call_tuple_of) (by rfl) N.tuple (by decide +kernel) (pa_cons (pv 1) pa_nil)) (pe_tup (pa_cons (pe_tup (pa_cons pe_str (pa_cons (pv 3) pa_nil))) (pa_cons (pe_tup (pa_cons (pv 3) (pa_cons (pv 3) pa_nil))) pa_nil)))) pa_nil)) pa_nil)) (pe_callB (call_repr hgu hr SY) (by rfl) N.repr boot_repr (pa_cons (pe_lst (pa_cons pe_str (pa_cons (pv 3) pa_nil))) pa_nil)) (nomark _)) (pss_one (ps_ret pe_bl)) pss_nil)
      (pss_cons (ps_if (pt_cmpR op_ne (pe_callB (call_repr hgu hr SY) (by rfl) N.repr boot_repr (pa_cons (pe_call GO (hr.mono (by decide)) (by rfl) gO FO.kp bO .nil pass0 (pa_cons (pe_op op_catU (pe_callTy (show CallR _ (.type "tuple") (rTupOf K) from call_tuple_of) (by rfl) N.tuple (by decide +kernel) (pa_cons (pv 1) pa_nil)) (pe_tup (pa_cons (pe_tup (pa_cons (pv 3) (pa_cons (pv 3) pa_nil))) (pa_cons (pv 4) (pa_cons (pv 4) pa_nil))))) pa_nil)) pa_nil)) (pe_callB (call_repr hgu hr SY) (by rfl) N.repr boot_repr (pa_cons (pe_lst (pa_cons pe_str (pa_cons (pv 3) pa_nil))) pa_nil)) (nomark _)) (pss_one (ps_ret pe_bl)) pss_nil)
      (pss_one (ps_ret (pe_cmpR op_eq (pe_callB (call_repr hgu hr SY) (by rfl) N.repr boot_repr (pa_cons (pe_call GO (hr.mono (by decide)) (by rfl) gO FO.kp bO .nil pass0 (pa_cons (pe_op op_catU (pe_callTy (show CallR _ (.type "tuple") (rTupOf K) from call_tuple_of) (by rfl) N.tuple (by decide +kernel) (pa_cons (pv 1) pa_nil)) (pe_tup (pa_cons (pv 4) (pa_cons (pe_tup (pa_cons pe_str (pa_cons (pv 3) pa_nil))) pa_nil)))) pa_nil)) pa_nil)) (pe_callB (call_repr hgu hr SY) (by rfl) N.repr boot_repr (pa_cons (pe_lst (pa_cons pe_str (pa_cons pe_str pa_nil))) pa_nil)) (nomark _)))))))))), ?_⟩
    obtain ⟨p, a, q, l, lc, n, R, rfl, g, dq, hl, hn, k⟩ := h
    obtain ⟨ws0, hl0, hp0⟩ := rows_prs g.rows g.okR
    have lw0 : ws0.length = R.length := by
      rw [Paired.length hp0]
      unfold prs
      rw [List.length_map]
    -- made
    refine ⟨_, rfl, l, ws0, rfl, .inl ⟨SqL.of hl0, fun t0 m0 => ⟨.ref t0, some (prs R), rfl, .prs rfl (SqT.of upd_same) (prs_to (same_new m0) hp0) (by omega), fun e => (by cases e), fun ps e => ?_⟩⟩⟩
    have s0 := same_new (o := .tup ws0) m0
    have g0 := g.same s0
    generalize upd H t0 (.tup ws0) = H0 at *
    obtain rfl : prs R = ps := by injection e
    have er := run_made g0.okR
    refine ⟨fun kvs er2 nb q2 p2 H2 s2 nn nq hb hp2 => ?_, fun u e2 => (by rw [er] at e2; cases e2), fun u e2 => (by rw [er] at e2; cases e2), fun u e2 => (by rw [er] at e2; cases e2)⟩
    rw [er] at er2
    obtain rfl : kvR R = kvs := by injection er2
    have g2 := g0.same s2
    refine ⟨_, rfl, p2, _, 0, .str "made", rfl, rfl, SqL.of hp2, at_of (j := 0) rfl rfl, rfl, false, by rw [decide_eq_true rfl]; rfl, iteF ?_⟩
    refine ⟨_, rfl, p2, _, 1, .ref nb, rfl, rfl, SqL.of hp2, at_of (j := 1) rfl rfl, _, rfl, nb, q2, l, R, rfl, hb, g2.rows, g2.okR, by omega, fun H3 s3 => ⟨_, rfl, iteF ?_⟩⟩
    have g3 := g2.same s3
    clear er er2 hb hp2 nn nq s3 s2 g0 g2 s0 m0 hp0 hl0 e
    -- odd, fresh
    refine ⟨_, rfl, p, _, rfl, g3.drw, by omega, fun ov od H4 oD osd D4 k4 => ⟨sz 2 (by decide), fun FR nFR => ⟨_, _, rfl, ?_⟩⟩⟩
    have g4 := g3.keep dq k4 D4
    have s5 := same_new (o := .tup [.str "fresh", .non]) nFR
    have g5' := g4.same s5
    have osd5 := sd_to (osd _ Keep.refl) s5
    have hFR : (upd H4 FR (.tup [.str "fresh", .non])) FR = some (.tup [.str "fresh", .non]) := upd_same
    generalize upd H4 FR (.tup [.str "fresh", .non]) = H5 at *
    clear s5 nFR osd D4 k4 g4 g3
    obtain ⟨ws, hl5, hp5⟩ := rows_prs g5'.rows g5'.okR
    have lw : ws.length = R.length := by
      rw [Paired.length hp5]
      unfold prs
      rw [List.length_map]
    have v100 : (reprText "value").length ≤ 100 := by decide +kernel
    have c100 : (reprText "key").length ≤ 100 := by decide +kernel
    have t100 : (reprText "taken").length ≤ 100 := by decide +kernel
    have ftF : fits (.str "fresh") := fun x e => by cases e; decide
    have prF : ∀ H', Same H5 H' → PrAt K H' (.ref FR) frP := fun H' s' => ⟨FR, rfl, SqT.of (s' _ _ hFR), ⟨.str _, ftF, show Sd K H' .non .none from .non, (fun x e => by cases e)⟩⟩
    -- wrong ones
    refine ⟨_, rfl, l, ws, rfl, .inl (SqL.of hl5), fun LC nLC => fun D0 nD0 => ?_⟩
    have u1 := same_new (o := .lst ws) nLC
    have u2 := same_new (o := .dK []) nD0
    have u12 := u1.tr u2
    refine ⟨_, rfl, l, ws, rfl, .inl ⟨SqL.of (u12 _ _ hl5), fun T1 nT1 => ⟨sz 1 (by decide), fun T2 nT2 => ?_⟩⟩⟩
    have u3 := same_new (o := .tup ws) nT1
    have u4 := same_new (o := .tup [.int 5]) nT2
    refine ⟨T1, T2, ws, [.int 5], rfl, rfl, SqT.of (u4 _ _ upd_same), SqT.of upd_same, (by intro z; cases z), sz _ (by show ws.length + 1 ≤ 1000; omega), fun T3 H6 s6 h6 => ?_⟩
    have w6 := u12.tr (u3.tr (u4.tr s6))
    have hLC6 := (u2.tr (u3.tr (u4.tr s6))) _ _ (upd_same (H := H5) (a := LC) (o := .lst ws))
    have hD06 := (u3.tr (u4.tr s6)) _ _ (upd_same (H := upd H5 LC (.lst ws)) (a := D0) (o := .dK []))
    refine ⟨_, rfl, l, ws, rfl, .inl ⟨SqL.of (w6 _ _ hl5), fun T4 nT4 => ⟨sz 3 (by decide), fun T5 nT5 => ⟨sz 1 (by decide), fun T6 nT6 => ?_⟩⟩⟩⟩
    have u5 := same_new (o := .tup ws) nT4
    have u6 := same_new (o := .tup [.int 1, .int 2, .int 3]) nT5
    have u7 := same_new (o := .tup [.ref T5]) nT6
    refine ⟨T4, T6, ws, [.ref T5], rfl, rfl, SqT.of (u7 _ _ (u6 _ _ upd_same)), SqT.of upd_same, (by intro z; cases z), sz _ (by show ws.length + 1 ≤ 1000; omega), fun T7 H7 s7 h7 => ?_⟩
    have w7 := u5.tr (u6.tr (u7.tr s7))
    have hT57 := (u7.tr s7) _ _ (upd_same (H := upd H6 T4 (.tup ws)) (a := T5) (o := .tup [.int 1, .int 2, .int 3]))
    refine ⟨sz 2 (by decide), fun LA nLA => ⟨sz 1 (by decide), fun T9 nT9 => ⟨sz 8 (by decide), fun LL8 nLL => ?_⟩⟩⟩
    have u8 := same_new (o := .lst [.str "a", .int 1]) nLA
    have u9 := same_new (o := .tup [.ref LA]) nT9
    have u10 := same_new (o := .lst [.ref LC, .non, .int 5, .str "pairs", .ref D0, .ref T3, .ref T7, .ref T9]) nLL
    have w9 := u8.tr (u9.tr u10)
    have hLC9 := (w7.tr w9) _ _ hLC6
    have hD09 := (w7.tr w9) _ _ hD06
    have h39 := sqT_to (w7.tr w9) h6
    have h79 := sqT_to w9 h7
    have hT59 := w9 _ _ hT57
    have hLA9 := (u9.tr u10) _ _ (upd_same (H := H7) (a := LA) (o := .lst [.str "a", .int 1]))
    have hT99 := u10 _ _ (upd_same (H := upd H7 LA (.lst [.str "a", .int 1])) (a := T9) (o := .tup [.ref LA]))
    have hLL : (upd (upd (upd H7 LA (.lst [.str "a", .int 1])) T9 (.tup [.ref LA])) LL8 (.lst [.ref LC, .non, .int 5, .str "pairs", .ref D0, .ref T3, .ref T7, .ref T9])) LL8 = some (.lst [.ref LC, .non, .int 5, .str "pairs", .ref D0, .ref T3, .ref T7, .ref T9]) := upd_same
    have w59 := w6.tr (w7.tr w9)
    generalize upd (upd (upd H7 LA (.lst [.str "a", .int 1])) T9 (.tup [.ref LA])) LL8 (.lst [.ref LC, .non, .int 5, .str "pairs", .ref D0, .ref T3, .ref T7, .ref T9]) = H9 at *
    have g9 := g5'.same w59
    have osd9 := sd_to osd5 w59
    have hp9 := prs_to w59 hp5
    have hl9 := w59 _ _ hl5
    have prF9 : ∀ H', Same H9 H' → PrAt K H' (.ref FR) frP := fun H' s' => prF H' (w59.tr s')
    clear u1 u2 u12 u3 u4 u5 u6 u7 u8 u9 u10 w6 w7 w9 nLC nD0 nT1 nT2 nT4 nT5 nT6 nLA nT9 nLL hLC6 hD06 h6 h7 hT57 s6 s7
    have lb : ∀ (x : V) (b : Bool), (∀ H', Same H9 H' → Itm K H' x b) → Stab K H9 (ws ++ [x]) (((prs R).map fun _ => true) ++ [b]) := fun x b h H' s' => paired_app (prs_itm (prs_to s' hp9)) (.cons (h H' s') .nil)
    have af : ∀ (m : List Bool), (m ++ [false]).all id = false := fun m => by rw [List.all_append]; simp
    have args : ∀ (i : Nat) x, ([.ref LC, .non, .int 5, .str "pairs", .ref D0, .ref T3, .ref T7, .ref T9] : List V)[i]? = some x → (∀ H', Same H9 H' → Arg K H' x none) ∧ eqOk x = true := fun i x hx => by
      match i, hx with
      | 0, hx =>
        cases hx
        exact ⟨fun H' s' => .no ⟨"list", fun H2 s2 => ty_lst (SqL.of (s2 _ _ (s' _ _ hLC9))), by decide, by decide⟩, rfl⟩
      | 1, hx =>
        cases hx
        exact ⟨fun H' s' => .no ⟨"NoneType", fun H2 s2 => .base .non, by decide, by decide⟩, rfl⟩
      | 2, hx =>
        cases hx
        exact ⟨fun H' s' => .no ⟨"int", fun H2 s2 => .base (.int 5), by decide, by decide⟩, rfl⟩
      | 3, hx =>
        cases hx
        exact ⟨fun H' s' => .no ⟨"str", fun H2 s2 => .base (.str _), by decide, by decide⟩, rfl⟩
      | 4, hx =>
        cases hx
        exact ⟨fun H' s' => .no ⟨"dict", fun H2 s2 => .base (.dK (s2 _ _ (s' _ _ hD09))), by decide, by decide⟩, rfl⟩
      | 5, hx =>
        cases hx
        exact ⟨fun H' s' => .bad rfl (sqT_to s' h39) (fun H2 s2 => lb (.int 5) false (fun H3 s3 => .inl ⟨⟨"int", fun H2 s2 => .base (.int 5), by decide, by decide⟩, rfl⟩) H2 (s'.tr s2)) (by rw [List.length_append]; show ws.length + 1 ≤ 100; omega) (af _), rfl⟩
      | 6, hx =>
        cases hx
        exact ⟨fun H' s' => .bad rfl (sqT_to s' h79) (fun H2 s2 => lb (.ref T5) false (fun H3 s3 => .inr ⟨T5, _, rfl, SqT.of (s3 _ _ hT59), rfl⟩) H2 (s'.tr s2)) (by rw [List.length_append]; show ws.length + 1 ≤ 100; omega) (af _), rfl⟩
      | 7, hx =>
        cases hx
        exact ⟨fun H' s' => .bad (bs := [false]) rfl (SqT.of (s' _ _ hT99)) (fun H2 s2 => .cons (.inl ⟨⟨"list", fun H3 s3 => ty_lst (SqL.of (s3 _ _ ((s'.tr s2) _ _ hLA9))), by decide, by decide⟩, rfl⟩) .nil) (by show 1 ≤ 100; decide) rfl, rfl⟩
      | i + 8, hx => cases hx
    refine ⟨LL8, rfl, ⟨_, SqL.of hLL⟩, for_it (walk_list (xs := [.ref LC, .non, .int 5, .str "pairs", .ref D0, .ref T3, .ref T7, .ref T9])) (fun i σ H' => ∃ t2 t5 : Option V, σ = [some (.ref p), some (.ref l), t2, some ov, some (.ref FR), t5] ∧ Same H9 H') ⟨_, _, rfl, Same.refl'⟩ (fun i σ H' _ z => ?_) ?_ ?_⟩
    · obtain ⟨_, _, _, s'⟩ := z
      exact SqL.of (s' _ _ hLL)
    · rintro i x σ H' H'' hi ⟨t2, t5, rfl, s'⟩ ⟨rfl, hx⟩
      obtain ⟨ha, he⟩ := args i x hx
      refine ⟨_, rfl, x, none, rfl, ha _ s', fun _ p2 H2 s2 hp2 => ?_, fun ps e => (by cases e)⟩
      refine ⟨_, rfl, sz 2 (by decide), fun L2 nL2 => ⟨p2, L2, "value", x, rfl, rfl, SqL.of (same_new nL2 _ _ hp2), SqL.of upd_same, he, false, rfl, iteF ?_⟩⟩
      exact ⟨_, _, rfl, s'.tr (s2.tr (same_new nL2))⟩
    rintro σ H10 ⟨t2, t5, rfl, s10⟩
    clear args lb af hLL hT99 hLA9 hT59 h79 h39 hD09 hLC9
    have lt2 : ws.length + 2 ≤ 1000 := by omega
    have lt3 : ws.length + 3 ≤ 1000 := by omega
    -- a wrong value
    refine ⟨_, rfl, l, ws, rfl, .inl ⟨SqL.of (s10 _ _ hl9), fun A1 m1 => ⟨_, rfl, sz 2 (by decide), fun A2 m2 => ⟨_, rfl, _, rfl, sz 2 (by decide), fun A3 m3 => ⟨sz 2 (by decide), fun A4 m4 => ?_⟩⟩⟩⟩⟩
    have x1 := same_new (o := .tup ws) m1
    have x2 := same_new (o := .tup [.str "fresh", ov]) m2
    have x3 := same_new (o := .tup [ov, ov]) m3
    have x4 := same_new (o := .tup [.ref A2, .ref A3]) m4
    have y4 := s10.tr (x1.tr (x2.tr (x3.tr x4)))
    have hA1 := (x2.tr (x3.tr x4)) _ _ (upd_same (H := H10) (a := A1) (o := .tup ws))
    have hA2 := (x3.tr x4) _ _ (upd_same (H := upd H10 A1 (.tup ws)) (a := A2) (o := .tup [.str "fresh", ov]))
    have hA3 := x4 _ _ (upd_same (H := upd (upd H10 A1 (.tup ws)) A2 (.tup [.str "fresh", ov])) (a := A3) (o := .tup [ov, ov]))
    refine ⟨A1, A4, ws, [.ref A2, .ref A3], rfl, rfl, SqT.of hA1, SqT.of upd_same, (by intro z; cases z), sz _ lt2, fun A5 H11 s11 h11 => ?_⟩
    have y11 := y4.tr s11
    have osd11 := sd_to osd9 y11
    refine ⟨.ref A5, some (prs R ++ [foP ov od, ooP ov od]), rfl, .prs rfl h11 (paired_app (prs_to y11 hp9) (.cons ⟨A2, rfl, SqT.of (s11 _ _ hA2), ⟨.str _, ftF, osd11, oD.fit⟩⟩ (.cons ⟨A3, rfl, SqT.of (s11 _ _ hA3), ⟨osd11, oD.fit, osd11, oD.fit⟩⟩ .nil))) (by rw [List.length_append]; show ws.length + 2 ≤ 100; omega), fun e => (by cases e), fun ps e => ?_⟩
    obtain rfl : prs R ++ [foP ov od, ooP ov od] = ps := by injection e
    have er := run_v (g9.same y11).okR (ov := ov) oD.no
    refine ⟨fun kvs e2 => (by rw [er] at e2; cases e2), fun u e2 => (by rw [er] at e2; cases e2), fun u e2 => (by rw [er] at e2; cases e2), fun u e2 p2 H12 s12 hp2 => ?_⟩
    rw [er] at e2
    obtain rfl : ov = u := by injection e2
    obtain ⟨o1, o2, o3⟩ := pair_shw v100 oD.shw
    refine ⟨.ref p2, .list [.str "value", od], rfl, .lst (SqL.of hp2) (.cons (.str _) (.cons (sd_to osd11 s12) .nil)), o1, o2, o3, _, rfl, sz 2 (by decide), fun L13 n13 => ?_⟩
    have x13 := same_new (o := .lst [.str "value", ov]) n13
    refine ⟨.ref L13, .list [.str "value", od], rfl, .lst (SqL.of upd_same) (.cons (.str _) (.cons (sd_to osd11 (s12.tr x13)) .nil)), o1, o2, o3, rfl, false, by rw [decide_eq_true rfl]; rfl, iteF ?_⟩
    have y13 := y11.tr (s12.tr x13)
    generalize upd H12 L13 (.lst [.str "value", ov]) = H13 at *
    clear o1 o2 o3 er e2 e hp2 x13 n13 s12 osd11 y11 h11 s11 hA1 hA2 hA3 y4 x1 x2 x3 x4 m1 m2 m3 m4 s10
    -- a wrong key
    refine ⟨_, rfl, l, ws, rfl, .inl ⟨SqL.of (y13 _ _ hl9), fun A1 m1 => ⟨_, rfl, _, rfl, sz 2 (by decide), fun A2 m2 => ⟨_, rfl, _, rfl, sz 3 (by decide), fun A4 m4 => ?_⟩⟩⟩⟩
    have x1 := same_new (o := .tup ws) m1
    have x2 := same_new (o := .tup [ov, ov]) m2
    have x4 := same_new (o := .tup [.ref A2, .ref FR, .ref FR]) m4
    have y4 := y13.tr (x1.tr (x2.tr x4))
    have hA1 := (x2.tr x4) _ _ (upd_same (H := H13) (a := A1) (o := .tup ws))
    have hA2 := x4 _ _ (upd_same (H := upd H13 A1 (.tup ws)) (a := A2) (o := .tup [ov, ov]))
    refine ⟨A1, A4, ws, [.ref A2, .ref FR, .ref FR], rfl, rfl, SqT.of hA1, SqT.of upd_same, (by intro z; cases z), sz _ lt3, fun A5 H11' s11 h11 => ?_⟩
    have y11 := y4.tr s11
    have osd11 := sd_to osd9 y11
    refine ⟨.ref A5, some (prs R ++ [ooP ov od, frP, frP]), rfl, .prs rfl h11 (paired_app (prs_to y11 hp9) (.cons ⟨A2, rfl, SqT.of (s11 _ _ hA2), ⟨osd11, oD.fit, osd11, oD.fit⟩⟩ (.cons (prF9 _ y11) (.cons (prF9 _ y11) .nil)))) (by rw [List.length_append]; show ws.length + 3 ≤ 100; omega), fun e => (by cases e), fun ps e => ?_⟩
    obtain rfl : prs R ++ [ooP ov od, frP, frP] = ps := by injection e
    have er := run_k (g9.same y11).okR (ov := ov) oD.no
    refine ⟨fun kvs e2 => (by rw [er] at e2; cases e2), fun u e2 p2 H12 s12 hp2 => ?_, fun u e2 => (by rw [er] at e2; cases e2), fun u e2 => (by rw [er] at e2; cases e2)⟩
    rw [er] at e2
    obtain rfl : ov = u := by injection e2
    obtain ⟨o1, o2, o3⟩ := pair_shw c100 oD.shw
    refine ⟨.ref p2, .list [.str "key", od], rfl, .lst (SqL.of hp2) (.cons (.str _) (.cons (sd_to osd11 s12) .nil)), o1, o2, o3, _, rfl, sz 2 (by decide), fun L14 n14 => ?_⟩
    have x14 := same_new (o := .lst [.str "key", ov]) n14
    refine ⟨.ref L14, .list [.str "key", od], rfl, .lst (SqL.of upd_same) (.cons (.str _) (.cons (sd_to osd11 (s12.tr x14)) .nil)), o1, o2, o3, rfl, false, by rw [decide_eq_true rfl]; rfl, iteF ?_⟩
    have y14 := y11.tr (s12.tr x14)
    generalize upd H12 L14 (.lst [.str "key", ov]) = H14 at *
    clear o1 o2 o3 er e2 e hp2 x14 n14 s12 osd11 y11 h11 s11 hA1 hA2 y4 x1 x2 x4 m1 m2 m4 y13
    -- taken
    refine ⟨_, rfl, l, ws, rfl, .inl ⟨SqL.of (y14 _ _ hl9), fun A1 m1 => ⟨_, rfl, _, rfl, sz 2 (by decide), fun A2 m2 => ⟨sz 2 (by decide), fun A4 m4 => ?_⟩⟩⟩⟩
    have x1 := same_new (o := .tup ws) m1
    have x2 := same_new (o := .tup [.str "fresh", ov]) m2
    have x4 := same_new (o := .tup [.ref FR, .ref A2]) m4
    have y4 := y14.tr (x1.tr (x2.tr x4))
    have hA1 := (x2.tr x4) _ _ (upd_same (H := H14) (a := A1) (o := .tup ws))
    have hA2 := x4 _ _ (upd_same (H := upd H14 A1 (.tup ws)) (a := A2) (o := .tup [.str "fresh", ov]))
    refine ⟨A1, A4, ws, [.ref FR, .ref A2], rfl, rfl, SqT.of hA1, SqT.of upd_same, (by intro z; cases z), sz _ lt2, fun A5 H11'' s11 h11 => ?_⟩
    have y11 := y4.tr s11
    have osd11 := sd_to osd9 y11
    refine ⟨.ref A5, some (prs R ++ [frP, foP ov od]), rfl, .prs rfl h11 (paired_app (prs_to y11 hp9) (.cons (prF9 _ y11) (.cons ⟨A2, rfl, SqT.of (s11 _ _ hA2), ⟨.str _, ftF, osd11, oD.fit⟩⟩ .nil))) (by rw [List.length_append]; show ws.length + 2 ≤ 100; omega), fun e => (by cases e), fun ps e => ?_⟩
    obtain rfl : prs R ++ [frP, foP ov od] = ps := by injection e
    have er := run_t (g9.same y11).okR (ov := ov) (od := od)
    refine ⟨fun kvs e2 => (by rw [er] at e2; cases e2), fun u e2 => (by rw [er] at e2; cases e2), fun u e2 p2 H12 s12 hp2 => ?_, fun u e2 => (by rw [er] at e2; cases e2)⟩
    rw [er] at e2
    obtain rfl : V.str "fresh" = u := by injection e2
    have fsh : Shw (.str "fresh") := ⟨rfl, by decide +kernel, Nat.zero_le _⟩
    obtain ⟨o1, o2, o3⟩ := pair_shw t100 fsh
    refine ⟨.ref p2, .list [.str "taken", .str "fresh"], rfl, .lst (SqL.of hp2) (.cons (.str _) (.cons (.str _) .nil)), o1, o2, o3, sz 2 (by decide), fun L15 n15 => ?_⟩
    have x15 := same_new (o := .lst [.str "taken", .str "fresh"]) n15
    refine ⟨.ref L15, .list [.str "taken", .str "fresh"], rfl, .lst (SqL.of upd_same) (.cons (.str _) (.cons (.str _) .nil)), o1, o2, o3, rfl, ?_⟩
    rw [decide_eq_true rfl]
    exact k _ (g9.same (y11.tr (s12.tr x15)))
end
end Kb

set_option Elab.async false
set_option linter.all false
set_option maxRecDepth 100000
set_option maxHeartbeats 4000000
namespace Kb
open PySem PySem.Spec PyProof.Rows L2 StX ClX
abbrev sLaw : Stmt := top 43
abbrev NL : List Str := ["script", "draw", "turn", "book", "rows", "k"]
theorem scLaw : FnScope NL ["script"] (defScope sLaw) := ⟨rfl, rfl, rfl, by decide +kernel, rfl, by decide +kernel, by decide +kernel⟩
def spLaw (K : PySem.W.Frag) : Sp := fun vs H Q _ => ∃ (a : Addr) (ns : List Int), vs = [.ref a] ∧ SqL K H a (ns.map V.int) ∧ ns.length ≤ 63 ∧ ∀ H', Q (.bl true) H'
structure LF (K : PySem.W.Frag) (mg : Str → Option Value) : Prop where
  dr : Dr K mg
  like : ∃ f fd, FnP K "_law_like" sLike f fd ∧ mg "_law_like" = some (.ref f)
  atom : ∃ f fd, FnP K "_law_atom" sAtom f fd ∧ mg "_law_atom" = some (.ref f)
  odd : ∃ f fd, FnP K "_law_odd" sOdd f fd ∧ mg "_law_odd" = some (.ref f)
  isk : ∃ f fd, FnP K "_law_is_key" sLKey f fd ∧ mg "_law_is_key" = some (.ref f)
  isv : ∃ f fd, FnP K "_law_is_value" sLVal f fd ∧ mg "_law_is_value" = some (.ref f)
  place : ∃ f fd, FnP K "_law_place" sPlace f fd ∧ mg "_law_place" = some (.ref f)
  due : ∃ f fd, FnP K "_law_due" sDue f fd ∧ mg "_law_due" = some (.ref f)
  word : ∃ f fd, FnP K "_law_word" sWord f fd ∧ mg "_law_word" = some (.ref f)
  holds : ∃ f fd, FnP K "_law_holds" sHolds f fd ∧ mg "_law_holds" = some (.ref f)
  called : ∃ f fd, FnP K "_law_called_right" sCalled f fd ∧ mg "_law_called_right" = some (.ref f)
  lof : ∃ f fd, FnP K "_law_of" sLOf f fd ∧ mg "_law_of" = some (.ref f)
  ofR : ∃ f fd, FnP K "_law_of_right" sOfR f fd ∧ mg "_law_of_right" = some (.ref f)
theorem kv_pair {H : Hp} : ∀ {ts : List Addr} {R : List Rw}, Paired (fun (t : Addr) (q : Key × V) => H t = some (.tup [kV q.1, q.2])) ts (kvR R) → Paired (fun (t : Addr) (r : Rw) => H t = some (.tup [kV r.1, r.2.1])) ts R
  | _, [], h => by
    cases h
    exact .nil
  | _, r :: R, h => by
    cases h with
    | cons a b => exact .cons a (kv_pair b)
section
variable {P : Program} {w : World} {K : PySem.W.Frag} {mg : Str → Option Value} {base : Heap}
theorem ok_law {f : Addr} {fd : FuncData} (F : FnP K "law" sLaw f fd) (N : Nm K mg) (T : Ts K mg) (S : Es P w K mg base) (R : Rq K mg) (SY : SysK K) (L : LF K mg) (B : BkF K mg) (O : OfF K mg) (BR : RowF K mg) (EF : ErrF K mg) :
    FnG P w K mg base CX0 11 f fd ["script"] (spLaw K) := by
  obtain ⟨fi, di, MI, FI⟩ := B.init
  obtain ⟨fe, de, ME, FE⟩ := B.ent
  obtain ⟨pF, gF, dF, PF, FF⟩ := B.pairs
  obtain ⟨mc, po, fo, dO, rO, cO, FO⟩ := O.of
  obtain ⟨f1, d1, F1, g1⟩ := L.dr.begin_
  obtain ⟨f2, d2, F2, g2⟩ := L.dr.mixed
  obtain ⟨f3, d3, F3, g3⟩ := L.dr.next
  obtain ⟨fC, dC, FC, gC⟩ := L.called
  obtain ⟨fH, dH, FH, gH⟩ := L.holds
  obtain ⟨fR, dR, FR, gR⟩ := L.ofR
  have GI : FnOk P w K mg base CX0 1 fi di ["self"] (spBkI K) := ok_bkI B.cls FI
  have GF : FnOk P w K mg base CX0 1 gF dF ["self"] (spPairs K) := ok_pairs B.cls FF N
  have GO : FnOk P w K mg base (L2.CX P w) 7 fo dO ["cls", "pairs"] (spOf K) := ok_of B.cls FO N T S R MI FI ME FE O.are
  have G1 : FnOk P w K mg base CX0 1 f1 d1 ["script"] (spBegin K) := ok_begin F1
  have G3 : FnOk P w K mg base CX0 2 f3 d3 ["draw", "bound"] spNext := ok_next F3 F2 g2 N.len
  have GC : FnG P w K mg base CX0 10 fC dC ["draw", "book", "rows"] (spCalled K) := ok_called FC N T S R SY B BR EF L.dr L.like L.atom L.odd L.word L.holds L.due L.isk L.isv L.place
  have GH : FnG P w K mg base CX0 9 fH dH ["book", "rows"] (spHolds K) := ok_holds FH N T S R SY B L.like
  have GR : FnG P w K mg base CX0 10 fR dR ["draw", "rows"] (spOfR K) := ok_ofR FR N T S R SY B O EF L.dr L.like L.odd L.holds L.lof
  have b1 : Binds K d1 ["script"] [] := F1.bindsN fun _ _ _ _ _ _ us hl => match us, hl with | [_], _ => rfl
  have b3 : Binds K d3 ["draw", "bound"] [] := F3.bindsN fun _ _ _ _ _ _ us hl => match us, hl with | [_, _], _ => rfl
  have bC : Binds K dC ["draw", "book", "rows"] [] := FC.bindsN fun _ _ _ _ _ _ us hl => match us, hl with | [_, _, _], _ => rfl
  have bH : Binds K dH ["book", "rows"] [] := FH.bindsN fun _ _ _ _ _ _ us hl => match us, hl with | [_, _], _ => rfl
  have bR : Binds K dR ["draw", "rows"] [] := FR.bindsN fun _ _ _ _ _ _ us hl => match us, hl with | [_, _], _ => rfl
  have bI : Binds K di ["self"] [] := FI.bindsN fun _ _ _ _ _ _ us hl => match us, hl with | [_], _ => rfl
  have bF : Binds K dF ["self"] [] := FF.bindsN fun _ _ _ _ _ _ us hl => match us, hl with | [_], _ => rfl
  have bO : Binds K dO ["cls", "pairs"] [] := FO.bindsN fun _ _ _ _ _ _ us hl => match us, hl with | [_, _], _ => rfl
  refine F.okG scLaw (fun vs H Q E h => ?_) (fun cdv A outer s H vs Q E hgu hr h => ?_)
  · obtain ⟨a, ns, rfl, _⟩ := h
    rfl
  · have hu1 := Nat.lt_of_succ_lt (hu_of hr)
    refine ⟨_, PSs.nox (pss_cons (ps_set (i := 1) scLaw.nd rfl (Or.inl rfl) (pe_call G1 (hr.mono (by decide)) (by rfl) g1 F1.kp b1 .nil pass0 (pa_cons (pv 0) pa_nil)))
      (pss_cons (ps_for PassesOwn.never rfl (pi_range1 (by rfl) N.rng (pa_cons (pe_callB (call_min2 rfl) (by rfl) N.min boot_min (pa_cons pe_int (pa_cons (pe_op op_add pe_int (pe_callB call_len (by rfl) N.len PySem.boot_len (pa_cons (pv 0) pa_nil))) pa_nil))) pa_nil)) (pg_name (i := 2) scLaw.nd rfl (Or.inl rfl))
        (pss_cons (ps_par (i := 3) (j := 4) rfl scLaw.nd rfl rfl (by decide) rfl rfl (pa_cons (pe_make0 MI GI (hr.mono (by decide)) (by rfl) B.nm bI .nil pass0) (pa_cons (pe_lst pa_nil) pa_nil)) (by rfl))
        (pss_cons (ps_for PassesOwn.never rfl (pi_range1 (by rfl) N.rng (pa_cons (pe_call G3 (hr.mono (by decide)) (by rfl) g3 F3.kp b3 .nil pass0 (pa_cons (pv 1) (pa_cons pe_int pa_nil))) pa_nil)) (pg_name (i := 5) scLaw.nd rfl (Or.inl rfl))
          (pss_one (ps_if (pt_not (pt_val (pe_callG hgu GC hr (by rfl) gC FC.kp bC .nil pass0 (pa_cons (pv 1) (pa_cons (pv 3) (pa_cons (pv 4) pa_nil)))))) (pss_one (ps_ret pe_bl)) pss_nil)))
        (pss_cons (ps_if (PW.pt (pw_or (pt_not (pt_val (pe_callG hgu GH (hr.mono (by decide)) (by rfl) gH FH.kp bH .nil pass0 (pa_cons (pv 3) (pa_cons (pv 4) pa_nil))))) (pw_or1 (pt_not (pt_val (pe_callG hgu GR hr (by rfl) gR FR.kp bR .nil pass0 (pa_cons (pv 1) (pa_cons (pv 4) pa_nil)))))))) (pss_one (ps_ret pe_bl)) pss_nil)
        (pss_one (ps_if (PW.pt (pw_or (pt_cmpR (op_eqO hu1) (pv 3) (pe_cmethSg (E := fun _ => E0) (pe_glob (v := .ref (CB K)) (by rfl) B.nm rfl) rO cO GO (hr.mono (by decide)) bO (fun σ _ _ _ _ _ _ z => (no_cx z).elim) (pa_cons (pe_prop (pv 3) B.cls.cls PF GF (hr.mono (by decide)) bF .nil pass0 (by rfl)) pa_nil)) (nomark _))
          (pw_or1 (pt_not (pt_cmpR (op_eqO hu1) (pv 3) (pv 3) (nomark _)))))) (pss_one (ps_ret pe_bl)) pss_nil))))))
      (pss_one (ps_ret pe_bl)))), ?_⟩
    obtain ⟨a, ns, rfl, hS, hl, k⟩ := h
    refine ⟨_, rfl, a, ns, rfl, hS, hl, fun p H1 hp s1 D1 => ?_⟩
    refine ⟨_, rfl, _, _, rfl, .inl ⟨_, s1.seq hS, rfl⟩, _, _, rfl, rfl, _, _, rfl, _, rfl, ?_, ?_, ?_⟩
    · rw [List.length_map]
      split <;> omega
    · rw [List.length_map]
      split <;> omega
    rw [List.length_map]
    refine for_range (fun i σ H' => ∃ t0 t2 t3 t4 t5 : Option V, σ = [t0, some (.ref p), t2, t3, t4, t5] ∧ DrawAt H' p (700 * i)) ⟨_, _, _, _, _, rfl, D1⟩ ?_ ?_
    rotate_left
    · rintro σ H4 ⟨t0, t2, t3, t4, t5, rfl, D2⟩
      exact k _
    rintro i σ H5 hi ⟨t0, t2, t3, t4, t5, rfl, D5⟩
    have hi2 : i < 17 := by
      revert hi
      split <;> omega
    -- the Book
    refine fun n dx hn hd ne => ⟨n, dx, H5, rfl, upd_same, hn, fun b o e => by
        rw [upd_ne (ne_of_none e hn), upd_ne (ne_of_none e hd)]
        exact e, fun q H9 s9 nq hb hq => ⟨rfl, Nat.zero_le _, fun l nl => ⟨_, _, rfl, ?_⟩⟩⟩
    have s10 := same_new (o := .lst []) nl
    obtain ⟨lc, hc, oc, hoc⟩ := draw_cells D5
    have dq : Dq p q l lc := by
      refine ⟨fun z => ?_, fun z => ?_⟩
      · obtain ⟨_, _, _, hpp⟩ := hc
        rw [z, hpp] at nq
        cases nq
      · rw [z, s9 _ _ hoc] at nl
        cases nl
    have th : BkAt K H9 n q [] := ⟨dx, hb, hq⟩
    have ok0 : ∀ H', OkR K H' [] := fun H' => ⟨(fun r m => (List.not_mem_nil m).elim), (fun r m => (List.not_mem_nil m).elim), List.nodup_nil⟩
    have g0 : Gs K p n q l lc (700 * i) [] [] (upd H9 l (.lst [])) :=
      ⟨(D5.same s9).same s10, cells_same (cells_same hc s9) s10, th.to s10, ⟨[], upd_same, .nil⟩, ok0 _, ok0 _⟩
    generalize upd H9 l (.lst []) = H10 at *
    refine ⟨_, rfl, p, 31, _, rfl, g0.drw, by omega, by decide, by decide, fun r11 H11 a11 b11 D11 k11 => ?_⟩
    have g11 := g0.keep dq k11 D11
    refine ⟨r11, rfl, by omega, by omega, for_range (fun j σ H' => ∃ t0 t2 t5 : Option V, σ = [t0, some (.ref p), t2, some (.ref n), some (.ref l), t5] ∧ ∃ R, Gs K p n q l lc (700 * i + 1 + 20 * j) R R H' ∧ R.length ≤ j) ⟨_, _, _, rfl, [], g11, Nat.zero_le _⟩ ?_ ?_⟩
    · rintro j σ H12 hj ⟨t0, t2, t5, rfl, R', g, lR⟩
      have hj2 : j < 31 := by omega
      refine ⟨_, rfl, _, rfl, _, rfl, p, n, q, l, lc, _, R', rfl, g, dq, by omega, by omega, fun H13 R2 g2 l2 => ⟨_, rfl, iteF ?_⟩⟩
      exact ⟨_, _, _, rfl, R2, g2.mono (by omega), by omega⟩
    · rintro σ H12 ⟨t0, t2, t5, rfl, R', g, lR⟩
      have lR2 : R'.length ≤ 31 := by omega
      refine ⟨_, rfl, _, rfl, n, q, l, R', rfl, g.thg, g.rows, g.okR, by omega, fun H13 s13 => ⟨_, rfl, iteF ?_⟩⟩
      have g13 := g.same s13
      refine ⟨_, rfl, _, rfl, p, n, q, l, lc, _, R', rfl, g13, dq, by omega, by omega, fun H14 g14 => ⟨_, rfl, iteF ?_⟩⟩
      obtain ⟨dx14, ha14, hq14⟩ := g14.thg
      refine ⟨_, rfl, rfl, _, rfl, n, dx14, _, rfl, ha14, n, q, kvR R', rfl, g14.thg, fun H15 pp s15 hpp => ?_⟩
      have g15 := g14.same s15
      obtain ⟨ts, hts, hpr⟩ := hpp
      have hprs : Paired (PrAt K H15) (ts.map V.ref) (prs R') := prs_row (kv_pair hpr) g15.okR.ev g15.okR.ks
      have lts : (ts.map V.ref).length = R'.length := by
        rw [Paired.length hprs]
        unfold prs
        rw [List.length_map]
      have er := run_made g15.okR
      refine ⟨.ref pp, some (prs R'), rfl, .prs rfl (SqT.of hts) hprs (by omega), fun e => (by cases e), fun ps e => ?_⟩
      obtain rfl : prs R' = ps := by injection e
      refine ⟨fun kvs er2 nb q2 H16 s16 nn nq2 hb2 => ?_, fun u e2 => (by rw [er] at e2; cases e2), fun u e2 => (by rw [er] at e2; cases e2), fun u e2 => (by rw [er] at e2; cases e2)⟩
      obtain ⟨dxb, hb2', _⟩ := hb2
      have ha15 := s15 _ _ ha14
      have ha16 := s16 _ _ ha15
      have nne : n ≠ nb := fun z => by
        rw [← z, ha15] at nn
        cases nn
      have g16 := g15.same s16
      refine ⟨n, nb, CB K, CB K, dx14, dxb, _, _, true, rfl, rfl, ha16, hb2', B.nod.eqc, B.nod.eqc, B.nod.mro, false, ?_, iteF ?_⟩
      · rw [decide_eq_false nne]
      refine ⟨_, rfl, _, rfl, n, n, CB K, CB K, dx14, dx14, _, _, true, rfl, rfl, ha16, ha16, B.nod.eqc, B.nod.eqc, B.nod.mro, true, ?_, iteF ?_⟩
      · rw [decide_eq_true rfl]
      exact ⟨_, _, _, _, _, rfl, g16.drw.mono (by omega)⟩
end
end Kb

set_option Elab.async false
set_option linter.all false
set_option maxRecDepth 100000
set_option maxHeartbeats 4000000
namespace Kb
open PySem PySem.Spec PyProof.Rows L2 StX ClX
/-! ### where the defs stand -/
def gAt (x : Str) : PySem.W.Frag → Addr := fun K => He.ga K x
def mAt (C m : Str) : PySem.W.Frag → Addr := fun K => He.ma K (He.ga K C) m
def wAt (C : Str) (T : String) (m : Str) : PySem.W.Frag → Addr := fun K => He5.wf K (He.ga K C) T m
def dF (x : Str) (i : Nat) : He5.DefA := ⟨gAt x, x, x, defArgs (top i), defBody (top i), defScope (top i), [], []⟩
def dM (a : PySem.W.Frag → Addr) (x qual : Str) (st : Stmt) (ds : List He.Dv) : He5.DefA := ⟨a, x, qual, defArgs st, defBody st, defScope st, ds, []⟩
def fn : List He5.DefA := [dF "is_integer" 4, dF "is_text" 5, dF "is_key" 6, dF "is_atom" 7, dF "is_atom_or_node" 20, dF "require_value" 21, dF "require_values" 22, dF "require_key" 24, dF "are_pairs" 25, dF "items_of_pairs" 26, dF "_law_begin" 28, dF "_law_mixed" 29, dF "_law_next" 30, dF "_law_atom" 31, dF "_law_odd" 32, dF "_law_like" 33, dF "_law_is_key" 34, dF "_law_is_value" 35, dF "_law_place" 36, dF "_law_due" 37, dF "_law_word" 38, dF "_law_holds" 39, dF "_law_called_right" 40, dF "_law_of" 41, dF "_law_of_right" 42, dF "law" 43,
  dM (mAt "InvalidValue" "__init__") "__init__" "InvalidValue.__init__" (inClass (top 12) 0) [], dM (mAt "InvalidKey" "__init__") "__init__" "InvalidKey.__init__" (inClass (top 13) 0) [], dM (mAt "KeyTaken" "__init__") "__init__" "KeyTaken.__init__" (inClass (top 14) 0) [], dM (mAt "NoEntry" "__init__") "__init__" "NoEntry.__init__" (inClass (top 15) 0) [],
  dM (mAt "Row" "__init__") "__init__" "Row.__init__" sRowI [], dM (mAt "Book" "__init__") "__init__" "Book.__init__" sBkI [], dM (wAt "Book" "property" "pairs") "pairs" "Book.pairs" sBkP [], dM (wAt "Book" "property" "shape") "shape" "Node.shape" sShape [],
  dM (mAt "Book" "children") "children" "Node.children" sChildren [], dM (mAt "Book" "_contents") "_contents" "Book._contents" sBkC [], dM (mAt "Book" "enter") "enter" "Book.enter" sBkE [], dM (mAt "Book" "change") "change" "Book.change" sBkCh [], dM (mAt "Book" "value_of") "value_of" "Book.value_of" sBkV [], dM (mAt "Book" "_require_entry") "_require_entry" "Book._require_entry" sBkR [], dM (wAt "Book" "classmethod" "of") "of" "Book.of" sOf []]
def fa : List He.Fa := [.glo "is_integer", .glo "is_text", .glo "is_key", .glo "is_atom", .glo "is_atom_or_node", .glo "require_value", .glo "require_values", .glo "require_key", .glo "are_pairs", .glo "items_of_pairs", .glo "_law_begin", .glo "_law_mixed", .glo "_law_next", .glo "_law_atom", .glo "_law_odd", .glo "_law_like", .glo "_law_is_key", .glo "_law_is_value", .glo "_law_place", .glo "_law_due", .glo "_law_word", .glo "_law_holds", .glo "_law_called_right", .glo "_law_of", .glo "_law_of_right", .glo "law", .glo "InvalidValue", .glo "InvalidKey", .glo "KeyTaken", .glo "NoEntry", .glo "JarError", .glo "StateError", .glo "MissingError", .glo "Row", .glo "Book", .glo "Node", .free "isinstance", .free "int", .free "bool", .free "str", .free "tuple", .free "len", .free "all", .free "list", .free "repr", .free "range", .free "min", .int "ATOM_LIMIT" big, .int "TEXT_LIMIT" 2000, .cls "Row", .noat "Row" "_sequence", .mkr "Row", .cls "Book", .noat "Book" "_entries", .mkr "Book", .meth "Book" "children", .meth "Book" "_contents", .meth "Book" "enter", .meth "Book" "change", .meth "Book" "value_of", .meth "Book" "_require_entry"]
/-! ### the rest, as one Bool -/
def errB (K : PySem.W.Frag) (x fld : Str) : Bool :=
  decide (PySem.W.findIn K (.ref (gC K x)) "__init__" = some (some (.ref (mAt x "__init__" K)))) && (decide (PySem.W.typeIn K (.ref (mAt x "__init__" K)) = some (.type "function")) && (decide (PySem.W.findIn K (.ref (gC K x)) fld = some none) &&
  (decide (PySem.W.kitOne K (.ref (gC K x)) (.ref (gC K x)) = some true) && decide (PySem.W.exmAny K (.ref (gC K x)) [.ref (gC K "JarError"), .ref (gC K "StateError"), .ref (gC K "MissingError")] = some true))))
def propB (K : PySem.W.Frag) (C m : Str) : Bool :=
  He.eqO (PySem.W.findIn K (.ref (gC K C)) m) (some (some (.ref (mAt C m K)))) && (He.eqO (PySem.W.specialIn K (.ref (mAt C m K)) "__get__") (some (some (.builtin "property.__get__"))) && (decide (PySem.W.takesIn K (.ref (mAt C m K)) = some true) &&
  (match PySem.W.recIn K (mAt C m K) "property" with
    | some (.ref _ :: _) => true
    | _ => false)))
def eqB (K : PySem.W.Frag) (C : Str) : Bool :=
  He.eqO (PySem.W.findIn K (.ref (gC K C)) "__eq__") (some (some (.builtin "object.__eq__"))) && (decide (PySem.W.mroIn K (gC K C) (.type "object") = some true) && decide (PySem.W.mroIn K (gC K C) (.ref (gC K C)) = some true))
def nodB (K : PySem.W.Frag) (C : Str) : Bool :=
  He.eqO (PySem.W.findIn K (.ref (gC K C)) "__class__") (some (some (.builtin "object.__class__"))) && (He.eqO (PySem.W.specialIn K (.builtin "object.__class__") "__get__") (some (some (.builtin "getset_descriptor.__get__"))) && (decide (PySem.W.takesIn K (.builtin "object.__class__") = some true) &&
  ((["int", "bool", "str", "tuple", "list", "dict"] : List String).all (fun t => decide (PySem.W.kitOne K (.ref (gC K C)) (.type t) = some false)) && (decide (PySem.W.kitOne K (.ref (gC K C)) (.ref (CN K)) = some true) && eqB K C))))
def datB (K : PySem.W.Frag) : Bool := (["NoneType", "bool", "int", "str", "list", "tuple", "dict"] : List String).all (fun t => decide (PySem.W.kitOne K (.type t) (.ref (CN K)) = some false))
def cmB (K : PySem.W.Frag) (C : Str) : Bool := PySem.W.readsIn K (gC K C) (.type "type") && (He5.wrapB K (gC K C) "classmethod" "classmethod.__get__" "of" && PySem.W.fnIn K (wAt C "classmethod" "of" K))
def chk (K : PySem.W.Frag) : Bool :=
  sysB K && (xcB K (gC K "InvalidValue") bmVE "ValueError.__new__" && (xcB K (gC K "InvalidKey") bmVE "ValueError.__new__" && (xcB K (gC K "KeyTaken") bmRE "RuntimeError.__new__" && (xcB K (gC K "NoEntry") bmLE "LookupError.__new__" && (errB K "InvalidValue" "value" && (errB K "InvalidKey" "key" && (errB K "KeyTaken" "key" && (errB K "NoEntry" "key" && (decide (PySem.W.kitOne K (.ref (gC K "InvalidKey")) (.ref (gC K "InvalidValue")) = some false) && (decide (PySem.W.kitOne K (.ref (gC K "KeyTaken")) (.ref (gC K "InvalidValue")) = some false) && (decide (PySem.W.kitOne K (.ref (gC K "NoEntry")) (.ref (gC K "InvalidValue")) = some false) && (decide (PySem.W.kitOne K (.ref (gC K "KeyTaken")) (.ref (gC K "InvalidKey")) = some false) && (decide (PySem.W.kitOne K (.ref (gC K "NoEntry")) (.ref (gC K "InvalidKey")) = some false) && (decide (PySem.W.kitOne K (.ref (gC K "NoEntry")) (.ref (gC K "KeyTaken")) = some false) && (propB K "Book" "pairs" && (propB K "Book" "shape" && (He.conB K "Book" "SHAPE" (.str "book") && (nodB K "Row" && (nodB K "Book" && (datB K && (cmB K "Book")))))))))))))))))))))
section
variable {P : Program} {w : World} {K : PySem.W.Frag} {mg : Str → Option Value} {base : Heap}
structure ErrI (K : PySem.W.Frag) (x fld : Str) : Prop where
  ini : PySem.W.findIn K (.ref (gC K x)) "__init__" = some (some (.ref (mAt x "__init__" K)))
  fn : PySem.W.typeIn K (.ref (mAt x "__init__" K)) = some (.type "function")
  no : PySem.W.findIn K (.ref (gC K x)) fld = some none
  kit : PySem.W.kitOne K (.ref (gC K x)) (.ref (gC K x)) = some true
  exm : PySem.W.exmAny K (.ref (gC K x)) [.ref (gC K "JarError"), .ref (gC K "StateError"), .ref (gC K "MissingError")] = some true
theorem err_ok {x fld : Str} (h : errB K x fld = true) : ErrI K x fld := by
  obtain ⟨h1, h⟩ := band h
  obtain ⟨h2, h⟩ := band h
  obtain ⟨h3, h⟩ := band h
  obtain ⟨h4, h5⟩ := band h
  exact ⟨of_decide_eq_true h1, of_decide_eq_true h2, of_decide_eq_true h3, of_decide_eq_true h4, of_decide_eq_true h5⟩
theorem prop_ok {C m : Str} (h : propB K C m = true) : PropOf K (gC K C) m (mAt C m K) (wAt C "property" m K) := by
  obtain ⟨h1, h⟩ := band h
  obtain ⟨h2, h⟩ := band h
  obtain ⟨h3, h4⟩ := band h
  refine ⟨He.eqO_ok h1, He.eqO_ok h2, of_decide_eq_true h3, ?_⟩
  show ∃ rest, PySem.W.recIn K (mAt C m K) "property" = some (.ref (match PySem.W.recIn K (mAt C m K) "property" with
    | some (.ref f :: _) => f
    | _ => 0) :: rest)
  split at h4
  · rename_i f r e
    exact ⟨r, by rw [e]⟩
  · cases h4
theorem eq_ok {C : Str} (h : eqB K C = true) : VxS.EqC K (gC K C) ∧ PySem.W.mroIn K (gC K C) (.ref (gC K C)) = some true := by
  obtain ⟨h1, h⟩ := band h
  obtain ⟨h2, h3⟩ := band h
  exact ⟨⟨He.eqO_ok h1, of_decide_eq_true h2⟩, of_decide_eq_true h3⟩
theorem read_ok {C : Addr} (h : PySem.W.readsIn K C (.type "type") = true) : ClX.CRead K C (.type "type") := by
  refine ⟨h, ?_⟩
  unfold PySem.W.readsIn at h
  obtain ⟨h, _⟩ := band h
  obtain ⟨h, _⟩ := band h
  obtain ⟨h, h3⟩ := band h
  obtain ⟨_, h2⟩ := band h
  unfold PySem.W.specialIn
  rw [beq_iff_eq.mp h2, Option.bind_some]
  exact beq_iff_eq.mp h3
abbrev FnI (K : PySem.W.Frag) (x : Str) (i : Nat) (fd : FuncData) : Prop := FunD K "__init__" (x ++ ".__init__") (defArgs (inClass (top i) 0)) (defBody (inClass (top i) 0)) (defScope (inClass (top i) 0)) [] [] (mAt x "__init__" K) fd
theorem xk_v (T : Xc K (gC K "InvalidValue")) (c : ErrI K "InvalidValue" "value") (F : ∃ fd, FnI K "InvalidValue" 12 fd) (hm : mg "InvalidValue" = some (.ref (gC K "InvalidValue"))) : XK1 P w K mg base "InvalidValue" "value" (gC K "InvalidValue") := by
  obtain ⟨fd, F⟩ := F
  have sc : FnScope ["self", "value"] ["self", "value"] (defScope (inClass (top 12) 0)) := ⟨rfl, rfl, rfl, by decide +kernel, rfl, by decide +kernel, by decide +kernel⟩
  refine ⟨T, hm, c.no, _, fd, c.ini, c.fn, F.ok sc (fun vs H Q E h => ?_) (fun cdv A outer s H vs Q E hr h => ⟨_, PSs.nox (pss_one (ps_xst (pv 0) (pv 1))), ?_⟩), F.bindsN (fun _ _ _ _ _ _ us hl => match us, hl with | [_, _], _ => rfl), fun s a ws kin hl => ?_⟩
  · obtain ⟨a, v, rfl, _⟩ := h
    rfl
  · obtain ⟨a, v, rfl, ha, k⟩ := h
    exact ⟨_, rfl, _, rfl, a, _, rfl, T, c.no, .inl ⟨ha, fun dx n ne => k dx n ne⟩⟩
  · obtain ⟨oc, od, dV, kV, doc, pm, an, cdv, ct, osl, rfl, lk, hcd, hD, hK⟩ := F.ex
    rcases hD with ⟨_, rfl⟩ | ⟨e, _⟩
    · match ws, hl with
      | [r], _ => exact .of_eq rfl
    · exact absurd rfl e
theorem xk_k (T : Xc K (gC K "InvalidKey")) (c : ErrI K "InvalidKey" "key") (F : ∃ fd, FnI K "InvalidKey" 13 fd) (hm : mg "InvalidKey" = some (.ref (gC K "InvalidKey"))) : XK1 P w K mg base "InvalidKey" "key" (gC K "InvalidKey") := by
  obtain ⟨fd, F⟩ := F
  have sc : FnScope ["self", "key"] ["self", "key"] (defScope (inClass (top 13) 0)) := ⟨rfl, rfl, rfl, by decide +kernel, rfl, by decide +kernel, by decide +kernel⟩
  refine ⟨T, hm, c.no, _, fd, c.ini, c.fn, F.ok sc (fun vs H Q E h => ?_) (fun cdv A outer s H vs Q E hr h => ⟨_, PSs.nox (pss_one (ps_xst (pv 0) (pv 1))), ?_⟩), F.bindsN (fun _ _ _ _ _ _ us hl => match us, hl with | [_, _], _ => rfl), fun s a ws kin hl => ?_⟩
  · obtain ⟨a, v, rfl, _⟩ := h
    rfl
  · obtain ⟨a, v, rfl, ha, k⟩ := h
    exact ⟨_, rfl, _, rfl, a, _, rfl, T, c.no, .inl ⟨ha, fun dx n ne => k dx n ne⟩⟩
  · obtain ⟨oc, od, dV, kV, doc, pm, an, cdv, ct, osl, rfl, lk, hcd, hD, hK⟩ := F.ex
    rcases hD with ⟨_, rfl⟩ | ⟨e, _⟩
    · match ws, hl with
      | [r], _ => exact .of_eq rfl
    · exact absurd rfl e
theorem xk_t (T : Xc K (gC K "KeyTaken")) (c : ErrI K "KeyTaken" "key") (F : ∃ fd, FnI K "KeyTaken" 14 fd) (hm : mg "KeyTaken" = some (.ref (gC K "KeyTaken"))) : XK1 P w K mg base "KeyTaken" "key" (gC K "KeyTaken") := by
  obtain ⟨fd, F⟩ := F
  have sc : FnScope ["self", "key"] ["self", "key"] (defScope (inClass (top 14) 0)) := ⟨rfl, rfl, rfl, by decide +kernel, rfl, by decide +kernel, by decide +kernel⟩
  refine ⟨T, hm, c.no, _, fd, c.ini, c.fn, F.ok sc (fun vs H Q E h => ?_) (fun cdv A outer s H vs Q E hr h => ⟨_, PSs.nox (pss_one (ps_xst (pv 0) (pv 1))), ?_⟩), F.bindsN (fun _ _ _ _ _ _ us hl => match us, hl with | [_, _], _ => rfl), fun s a ws kin hl => ?_⟩
  · obtain ⟨a, v, rfl, _⟩ := h
    rfl
  · obtain ⟨a, v, rfl, ha, k⟩ := h
    exact ⟨_, rfl, _, rfl, a, _, rfl, T, c.no, .inl ⟨ha, fun dx n ne => k dx n ne⟩⟩
  · obtain ⟨oc, od, dV, kV, doc, pm, an, cdv, ct, osl, rfl, lk, hcd, hD, hK⟩ := F.ex
    rcases hD with ⟨_, rfl⟩ | ⟨e, _⟩
    · match ws, hl with
      | [r], _ => exact .of_eq rfl
    · exact absurd rfl e
theorem xk_e (T : Xc K (gC K "NoEntry")) (c : ErrI K "NoEntry" "key") (F : ∃ fd, FnI K "NoEntry" 15 fd) (hm : mg "NoEntry" = some (.ref (gC K "NoEntry"))) : XK1 P w K mg base "NoEntry" "key" (gC K "NoEntry") := by
  obtain ⟨fd, F⟩ := F
  have sc : FnScope ["self", "key"] ["self", "key"] (defScope (inClass (top 15) 0)) := ⟨rfl, rfl, rfl, by decide +kernel, rfl, by decide +kernel, by decide +kernel⟩
  refine ⟨T, hm, c.no, _, fd, c.ini, c.fn, F.ok sc (fun vs H Q E h => ?_) (fun cdv A outer s H vs Q E hr h => ⟨_, PSs.nox (pss_one (ps_xst (pv 0) (pv 1))), ?_⟩), F.bindsN (fun _ _ _ _ _ _ us hl => match us, hl with | [_, _], _ => rfl), fun s a ws kin hl => ?_⟩
  · obtain ⟨a, v, rfl, _⟩ := h
    rfl
  · obtain ⟨a, v, rfl, ha, k⟩ := h
    exact ⟨_, rfl, _, rfl, a, _, rfl, T, c.no, .inl ⟨ha, fun dx n ne => k dx n ne⟩⟩
  · obtain ⟨oc, od, dV, kV, doc, pm, an, cdv, ct, osl, rfl, lk, hcd, hD, hK⟩ := F.ex
    rcases hD with ⟨_, rfl⟩ | ⟨e, _⟩
    · match ws, hl with
      | [r], _ => exact .of_eq rfl
    · exact absurd rfl e
theorem nod_ok {C : Str} (hc : Cls K (gC K C)) (h : nodB K C = true) : NodC K (CN K) (gC K C) := by
  obtain ⟨h1, h⟩ := band h
  obtain ⟨h2, h⟩ := band h
  obtain ⟨h3, h⟩ := band h
  obtain ⟨h4, h⟩ := band h
  obtain ⟨h5, h6⟩ := band h
  obtain ⟨e1, e2⟩ := eq_ok h6
  exact ⟨hc, He.eqO_ok h1, He.eqO_ok h2, of_decide_eq_true h3, e1, fun t m => of_decide_eq_true (List.all_eq_true.mp h4 t m), of_decide_eq_true h5, e2⟩
theorem dat_ok (h : datB K = true) : DatN K (CN K) := fun t m => of_decide_eq_true (List.all_eq_true.mp h t m)
theorem cm_ok {C : Str} (h : cmB K C = true) : ClX.CRead K (gC K C) (.type "type") ∧ ClX.CMet K (gC K C) (.type "type") "of" (He.ma K (gC K C) "of") (wAt C "classmethod" "of" K) := by
  obtain ⟨h1, h⟩ := band h
  obtain ⟨h2, h3⟩ := band h
  exact ⟨read_ok h1, He5.cmet_of h2 h3⟩
end
end Kb
namespace He
open PySem PySem.Spec PyProof.Rows L2
/-- sys.modules beside the module's names, defs at any address, one Bool more -/
def obsSA (n : Nat) (fa : List Fa) (fn : List He5.DefA) (chk : PySem.W.Frag → Bool) (g : Addr → Option Obj) : AlD × Bool := (He5.obsA fa fn (frG g (sysModules :: He5.asA g n)), chk (frG g (sysModules :: He5.asA g n)))
def hookSA (n : Nat) (fa : List Fa) (fn : List He5.DefA) (chk : PySem.W.Frag → Bool) : PySem.W.Hook where
  α := AlD × Bool
  obs := fun s => obsSA n fa fn chk s.heap.get?
  val := fun _ => (He5.valA fn, true)
  says := fun _ h => ∃ K : PySem.W.Frag, K.In h ∧ He5.SaysA fa fn K ∧ chk K = true
  of := fun _ _ e => ⟨_, frG_in, congrArg Prod.fst e, congrArg Prod.snd e⟩
  keeps := fun _ _ _ ⟨K, hK, c⟩ k => ⟨K, PySem.W.Frag.In.keeps hK k, c⟩
theorem obsSA_eq {n : Nat} {fa : List Fa} {fn : List He5.DefA} {chk : PySem.W.Frag → Bool} {g : Addr → Option Obj} {s : Shared} (h : ∀ a, g a = s.heap.get? a) : obsSA n fa fn chk g = (hookSA n fa fn chk).obs s := by
  have e : g = s.heap.get? := funext h
  rw [e] <;> rfl
end He

set_option Elab.async false
set_option linter.all false
set_option maxRecDepth 100000
set_option maxHeartbeats 0
namespace Kb
open PySem PySem.Spec PyProof.Rows L2
abbrev R : PySem.W.OpenRow := PySem.W.OpenLaw.row PySem.Challenge.rw_brinejar_k04_books
abbrev hk : PySem.W.Hook := He.hookSA 6 fa fn chk
def ob (s : PySem.W.SharedT) : He.AlD × Bool := He.obsSA 6 fa fn chk (HandSHeadRun.getT s)
theorem ob_eq (s : PySem.W.SharedT) : ob s = hk.obs s.abs := He.obsSA_eq (HandSHeadRun.getT_eq s)
def loose : List Str := (["_wall", "__name__", "ATOM_LIMIT", "TEXT_LIMIT", "is_integer", "is_text", "is_key", "is_atom", "JarError", "StateError", "MissingError", "InvalidValue", "InvalidKey", "KeyTaken", "NoEntry"] : List Str) ++ (["Node", "Row", "Book", "is_atom_or_node", "require_value", "require_values", "require_tuple", "require_key", "are_pairs", "items_of_pairs", "_law_begin", "_law_mixed", "_law_next", "_law_atom", "_law_odd", "_law_like", "_law_is_key", "_law_is_value", "_law_place", "_law_due", "_law_word", "_law_holds", "_law_called_right", "_law_of", "_law_of_right"] : List Str)
theorem run (w : World) : HandSHeadRun.RunEq R (PySem.W.view R.prog [43]) hk ob 8000 loose w := by
  intro os
  kernel_rfl
end Kb

set_option Elab.async false
set_option linter.all false
set_option maxRecDepth 100000
set_option maxHeartbeats 4000000
namespace Kb
open PySem PySem.Spec PyProof.Rows L2 StX ClX
section
variable {P : Program} {w : World} {K : PySem.W.Frag} {mg : Str → Option Value} {h : Heap}
theorem fn_glo (c : He5.SaysA fa fn K) (X : K.In h) (G : h.Ns mainGlobals mg) (i : Nat) {x : Str} {n : Nat} (e1 : fn[i]? = some (dF x n)) (e2 : fa[i]? = some (.glo x)) : ∃ f fd, FnP K x (top n) f fd ∧ mg x = some (.ref f) := by
  obtain ⟨fd, F⟩ := c.def_ i e1
  exact ⟨He.ga K x, fd, F, He.glo_ok X G (c.fact i e2)⟩
theorem fn_m (c : He5.SaysA fa fn K) (i : Nat) {a : PySem.W.Frag → Addr} {x q : Str} {st : Stmt} (e1 : fn[i]? = some (dM a x q st [])) : ∃ fd, FnM K x q st [] (a K) fd := c.def_ i e1
theorem nm_of (c : He5.SaysA fa fn K) (X : K.In h) (G : h.Ns mainGlobals mg) (d : DatN K (CN K)) : Nm K mg where
  isi := He.free_ok X G (c.fact 36 (f := .free "isinstance") rfl)
  int := He.free_ok X G (c.fact 37 (f := .free "int") rfl)
  bool := He.free_ok X G (c.fact 38 (f := .free "bool") rfl)
  str := He.free_ok X G (c.fact 39 (f := .free "str") rfl)
  tuple := He.free_ok X G (c.fact 40 (f := .free "tuple") rfl)
  len := He.free_ok X G (c.fact 41 (f := .free "len") rfl)
  all := He.free_ok X G (c.fact 42 (f := .free "all") rfl)
  list := He.free_ok X G (c.fact 43 (f := .free "list") rfl)
  repr := He.free_ok X G (c.fact 44 (f := .free "repr") rfl)
  rng := He.free_ok X G (c.fact 45 (f := .free "range") rfl)
  min := He.free_ok X G (c.fact 46 (f := .free "min") rfl)
  atom := He.int_ok X G (c.fact 47 (f := .int "ATOM_LIMIT" big) rfl)
  text := He.int_ok X G (c.fact 48 (f := .int "TEXT_LIMIT" 2000) rfl)
  node := He.glo_ok X G (c.fact 35 (f := .glo "Node") rfl)
  dat := d
theorem ts_of (c : He5.SaysA fa fn K) (X : K.In h) (G : h.Ns mainGlobals mg) : Ts K mg :=
  ⟨fn_glo c X G 0 rfl rfl, fn_glo c X G 1 rfl rfl, fn_glo c X G 2 rfl rfl, fn_glo c X G 3 rfl rfl, fn_glo c X G 4 rfl rfl⟩
theorem rq_of (c : He5.SaysA fa fn K) (X : K.In h) (G : h.Ns mainGlobals mg) : Rq K mg :=
  ⟨fn_glo c X G 5 rfl rfl, fn_glo c X G 6 rfl rfl, fn_glo c X G 7 rfl rfl⟩
theorem lf_of (c : He5.SaysA fa fn K) (X : K.In h) (G : h.Ns mainGlobals mg) : LF K mg where
  dr := ⟨fn_glo c X G 10 rfl rfl, fn_glo c X G 11 rfl rfl, fn_glo c X G 12 rfl rfl⟩
  like := fn_glo c X G 15 rfl rfl
  atom := fn_glo c X G 13 rfl rfl
  odd := fn_glo c X G 14 rfl rfl
  isk := fn_glo c X G 16 rfl rfl
  isv := fn_glo c X G 17 rfl rfl
  place := fn_glo c X G 18 rfl rfl
  due := fn_glo c X G 19 rfl rfl
  word := fn_glo c X G 20 rfl rfl
  holds := fn_glo c X G 21 rfl rfl
  called := fn_glo c X G 22 rfl rfl
  lof := fn_glo c X G 23 rfl rfl
  ofR := fn_glo c X G 24 rfl rfl
structure Ck (K : PySem.W.Frag) : Prop where
  sys : SysK K
  tv : Xc K (gC K "InvalidValue")
  tk : Xc K (gC K "InvalidKey")
  tt : Xc K (gC K "KeyTaken")
  te : Xc K (gC K "NoEntry")
  ev : ErrI K "InvalidValue" "value"
  ek : ErrI K "InvalidKey" "key"
  et : ErrI K "KeyTaken" "key"
  ee : ErrI K "NoEntry" "key"
  n0 : PySem.W.kitOne K (.ref (gC K "InvalidKey")) (.ref (gC K "InvalidValue")) = some false
  n1 : PySem.W.kitOne K (.ref (gC K "KeyTaken")) (.ref (gC K "InvalidValue")) = some false
  n2 : PySem.W.kitOne K (.ref (gC K "NoEntry")) (.ref (gC K "InvalidValue")) = some false
  n3 : PySem.W.kitOne K (.ref (gC K "KeyTaken")) (.ref (gC K "InvalidKey")) = some false
  n4 : PySem.W.kitOne K (.ref (gC K "NoEntry")) (.ref (gC K "InvalidKey")) = some false
  n5 : PySem.W.kitOne K (.ref (gC K "NoEntry")) (.ref (gC K "KeyTaken")) = some false
  pp : PropOf K (gC K "Book") "pairs" (mAt "Book" "pairs" K) (wAt "Book" "property" "pairs" K)
  ps : PropOf K (gC K "Book") "shape" (mAt "Book" "shape" K) (wAt "Book" "property" "shape" K)
  ct : ∃ u, Con K (gC K "Book") "SHAPE" (.str "book") u
  nr_ : nodB K "Row" = true
  nb_ : nodB K "Book" = true
  dat : DatN K (CN K)
  cm : ClX.CRead K (gC K "Book") (.type "type") ∧ ClX.CMet K (gC K "Book") (.type "type") "of" (He.ma K (gC K "Book") "of") (wAt "Book" "classmethod" "of" K)
theorem ck_of (k : chk K = true) : Ck K := by
  obtain ⟨h1, k⟩ := band k
  obtain ⟨h2, k⟩ := band k
  obtain ⟨h3, k⟩ := band k
  obtain ⟨h4, k⟩ := band k
  obtain ⟨h5, k⟩ := band k
  obtain ⟨h6, k⟩ := band k
  obtain ⟨h7, k⟩ := band k
  obtain ⟨h8, k⟩ := band k
  obtain ⟨h9, k⟩ := band k
  obtain ⟨h10, k⟩ := band k
  obtain ⟨h11, k⟩ := band k
  obtain ⟨h12, k⟩ := band k
  obtain ⟨h13, k⟩ := band k
  obtain ⟨h14, k⟩ := band k
  obtain ⟨h15, k⟩ := band k
  obtain ⟨h16, k⟩ := band k
  obtain ⟨h17, k⟩ := band k
  obtain ⟨h18, k⟩ := band k
  obtain ⟨h19, k⟩ := band k
  obtain ⟨h20, k⟩ := band k
  obtain ⟨h21, h22⟩ := band k
  exact ⟨sys_of h1, xc_VE h2, xc_VE h3, xc_RE h4, xc_LE h5, err_ok h6, err_ok h7, err_ok h8, err_ok h9, of_decide_eq_true h10, of_decide_eq_true h11, of_decide_eq_true h12, of_decide_eq_true h13, of_decide_eq_true h14, of_decide_eq_true h15, prop_ok h16, prop_ok h17, He.conB_ok h18, h19, h20, dat_ok h21, cm_ok h22⟩
theorem es_of (c : He5.SaysA fa fn K) (X : K.In h) (G : h.Ns mainGlobals mg) (k : Ck K) (base : Heap) : Es P w K mg base :=
  ⟨xk_v k.tv k.ev (c.def_ 26 rfl) (He.glo_ok X G (c.fact 26 (f := .glo "InvalidValue") rfl)), xk_k k.tk k.ek (c.def_ 27 rfl) (He.glo_ok X G (c.fact 27 (f := .glo "InvalidKey") rfl)), xk_t k.tt k.et (c.def_ 28 rfl) (He.glo_ok X G (c.fact 28 (f := .glo "KeyTaken") rfl)), xk_e k.te k.ee (c.def_ 29 rfl) (He.glo_ok X G (c.fact 29 (f := .glo "NoEntry") rfl))⟩
theorem catch_of (c : He5.SaysA fa fn K) (X : K.In h) (G : h.Ns mainGlobals mg) {x fld : Str} (T : Xc K (gC K x)) (e : ErrI K x fld) (g : mg x = some (.ref (gC K x))) : CatchF K mg (gC K x) x fld :=
  ⟨⟨_, _, _, He.glo_ok X G (c.fact 30 (f := .glo "JarError") rfl), He.glo_ok X G (c.fact 31 (f := .glo "StateError") rfl), He.glo_ok X G (c.fact 32 (f := .glo "MissingError") rfl), e.exm⟩, T, e.no, g, e.kit⟩
theorem row_of (c : He5.SaysA fa fn K) (X : K.In h) (G : h.Ns mainGlobals mg) (k : Ck K) : RowF K mg where
  cls := He.cls_ok (c.fact 49 (f := .cls "Row") rfl)
  noS := He.noat_ok (c.fact 50 (f := .noat "Row" "_sequence") rfl)
  nm := He.glo_ok X G (c.fact 33 (f := .glo "Row") rfl)
  nod := nod_ok (He.cls_ok (c.fact 49 (f := .cls "Row") rfl)) k.nr_
  init := by
    obtain ⟨fd, F⟩ := fn_m c 30 rfl
    exact ⟨_, fd, He.mkr_ok (c.fact 51 (f := .mkr "Row") rfl), F⟩
theorem bk_of (c : He5.SaysA fa fn K) (X : K.In h) (G : h.Ns mainGlobals mg) (k : Ck K) : BkF K mg where
  cls := ⟨He.cls_ok (c.fact 52 (f := .cls "Book") rfl), He.noat_ok (c.fact 53 (f := .noat "Book" "_entries") rfl)⟩
  nm := He.glo_ok X G (c.fact 34 (f := .glo "Book") rfl)
  nod := nod_ok (He.cls_ok (c.fact 52 (f := .cls "Book") rfl)) k.nb_
  init := by
    obtain ⟨fd, F⟩ := fn_m c 31 rfl
    exact ⟨_, fd, He.mkr_ok (c.fact 54 (f := .mkr "Book") rfl), F⟩
  pairs := by
    obtain ⟨fd, F⟩ := fn_m c 32 rfl
    exact ⟨_, _, fd, k.pp, F⟩
  shape := by
    obtain ⟨fd, F⟩ := fn_m c 33 rfl
    obtain ⟨u, hu⟩ := k.ct
    exact ⟨_, _, fd, u, k.ps, F, hu⟩
  kids := by
    obtain ⟨fd, F⟩ := fn_m c 34 rfl
    exact ⟨_, fd, He.meth_ok (c.fact 55 (f := .meth "Book" "children") rfl), F⟩
  cont := by
    obtain ⟨fd, F⟩ := fn_m c 35 rfl
    exact ⟨_, fd, He.meth_ok (c.fact 56 (f := .meth "Book" "_contents") rfl), F⟩
  ent := by
    obtain ⟨fd, F⟩ := fn_m c 36 rfl
    exact ⟨_, fd, He.meth_ok (c.fact 57 (f := .meth "Book" "enter") rfl), F⟩
  chg := by
    obtain ⟨fd, F⟩ := fn_m c 37 rfl
    exact ⟨_, fd, He.meth_ok (c.fact 58 (f := .meth "Book" "change") rfl), F⟩
  get := by
    obtain ⟨fd, F⟩ := fn_m c 38 rfl
    exact ⟨_, fd, He.meth_ok (c.fact 59 (f := .meth "Book" "value_of") rfl), F⟩
  rqe := by
    obtain ⟨fd, F⟩ := fn_m c 39 rfl
    exact ⟨_, fd, He.meth_ok (c.fact 60 (f := .meth "Book" "_require_entry") rfl), F⟩
  items := fn_glo c X G 9 rfl rfl
theorem of_of (c : He5.SaysA fa fn K) (X : K.In h) (G : h.Ns mainGlobals mg) (k : Ck K) : OfF K mg where
  of := by
    obtain ⟨fd, F⟩ := fn_m c 40 rfl
    exact ⟨_, _, _, fd, k.cm.1, k.cm.2, F⟩
  are := fn_glo c X G 8 rfl rfl
theorem facts {f : Addr} (X : K.In h) (G : h.Ns mainGlobals mg) (hfa : mg ("law" : Str) = some (.ref f)) (c : He5.SaysA fa fn K) (k : chk K = true) :
    ∃ fd : FuncData, (∀ (s : Shared) (v : Value), BindsTo s fd ⟨[v], []⟩ [("script", v)]) ∧ ∀ base : Heap, K.In base → base.Ns mainGlobals mg → FnG P w K mg base CX0 11 f fd ["script"] (spLaw K) := by
  have k := ck_of k
  obtain ⟨fL, fd, F, g⟩ := fn_glo c X G 25 (x := "law") (n := 43) rfl rfl
  have e := hfa.symm.trans g
  cases e
  have b := FunD.bindsA (ps := ["script"]) F fun _ _ _ _ _ _ us hl => match us, hl with | [_], _ => rfl
  have cv := catch_of c X G k.tv k.ev (He.glo_ok X G (c.fact 26 (f := .glo "InvalidValue") rfl))
  have ck := catch_of c X G k.tk k.ek (He.glo_ok X G (c.fact 27 (f := .glo "InvalidKey") rfl))
  have ct := catch_of c X G k.tt k.et (He.glo_ok X G (c.fact 28 (f := .glo "KeyTaken") rfl))
  have ce := catch_of c X G k.te k.ee (He.glo_ok X G (c.fact 29 (f := .glo "NoEntry") rfl))
  exact ⟨fd, fun s v => b s [v] rfl, fun base _ _ => ok_law F (nm_of c X G k.dat) (ts_of c X G) (es_of c X G k base) (rq_of c X G) k.sys (lf_of c X G) (bk_of c X G k) (of_of c X G k) (row_of c X G k) ⟨cv, ck, ct, ce, k.n0, k.n1, k.n2, k.n3, k.n4, k.n5⟩⟩
end
end Kb
open PySem PySem.W PySem.Calls PyProof.Rows
theorem PySem.Challenge.cw_brinejar_k04_books_holds : PySem.Challenge.rw_brinejar_k04_books.Holds := by
  w_on
  o_law
  refine HandSHeadRun.head_any (r := OpenLaw.row PySem.Challenge.rw_brinejar_k04_books) (q := view (OpenLaw.row PySem.Challenge.rw_brinejar_k04_books).prog [43]) (H := Kb.hk) (ob := Kb.ob) (M := 8000) (loose := Kb.loose) (d := HandSHeadRun.topDef (OpenLaw.row PySem.Challenge.rw_brinejar_k04_books).prog 43) (kwd := []) Kb.ob_eq
    (by kernel_rfl) (fun s => by kernel_rfl) Kb.run (by kernel_rfl) (by kernel_rfl) (by kernel_rfl) (by rfl) (by first | assumption | decide +kernel) (by decide +kernel) ⟨rfl, rfl, rfl, rfl, rfl, by decide +kernel⟩ ?hw ?hc
  case hw => w_witness2
  case hc =>
    refine L2.walk_ofG (l := PySem.Challenge.rw_brinejar_k04_books) (n := 63) (k := 11) (x := "script") rfl (by decide) (by kernel_rfl) ⟨rfl, by decide, by decide⟩ ?F
    intro w mg fa h Y G hmg0
    obtain ⟨K, KX, c, k⟩ := Y
    have hmg : mg ("law" : PySem.Str) = some (.ref fa) := by
      have e : (HandSHeadRun.topDef (OpenLaw.row PySem.Challenge.rw_brinejar_k04_books).prog 43).name = ("law" : PySem.Str) := by kernel_rfl
      rw [← e]
      exact hmg0
    obtain ⟨fd, hb, hF⟩ := Kb.facts (P := (PySem.Challenge.rw_brinejar_k04_books).prog) (w := w) KX G hmg c k
    exact ⟨K, fd, Kb.spLaw K, KX, hb, fun H a ns hl _ hS => ⟨a, ns, rfl, hS, hl, fun _ => rfl⟩, hF⟩
