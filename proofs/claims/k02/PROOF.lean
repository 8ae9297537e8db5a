import PyProof.Rows.All
import Wide.All
import OpenK.AllK
import Wide.FinOn
import KE.KExcInit
import KE.KExcIs
import HandS.ForExc
import HandS.ExcInit
import HandS.ExcField
import HandS.MakeKwOnly
import HandS.Codes
import HandS.ForMost
import HandS.Style
import HandS.HeadEnd
import HandS.HeadHook2
import HandS.Head2
import PyProof.ReprRoads
import HandS.Walk
import HandS.SetFor
import KE.KTryMore
import HandS.GenCall
import PyProof.Rows.ListAppend
import HandS.GenList
import HandS.IsInst
import PyProof.TypeEq
import PyProof.InstEq
import PyProof.TypeOfCall
import HandS.SortInts
import HandS.Strs
import HandS.Star
import HandS.Property
import HandS.ClsMeth
import PyProof.Rows.RuleB_pow
import PyProof.StrOps2
import HandS.ExcOwn
import PyProof.EqAt
import PyProof.NeKinds
import HandS.Conv
import HandS.TupAny
import HandS.MakeKw
import PyProof.StrLawsRepr
import HandS.HeadHook3
import HandS.HeadNt
import PySem.Challenge.RW_brinejar_k02_octets_and_bags
set_option Elab.async false
set_option linter.all false
set_option maxRecDepth 100000
set_option maxHeartbeats 4000000
/-! VxA: exceptions of own classes over any of the built-in bases, with an own __init__, held as values: made, told apart, read. -/
namespace PySem
namespace VxS
open PySem.W PySem.Calls PyProof.Rows PySem.HandSPX
section
open Builtin Builtin.ObjectAttr
variable {prog : Program} {w : World} {A : Around} {E : Value → Shared → Prop} {R : Result → Shared → Prop} {hp : Heap} {g : Array GenState} {d : Drawn} {t : Nat} {os : OsState}
/-- a class chain over a built-in base: own classes, then the base's chain, stores by object.__setattr__ -/
structure Tail (bmB : List Value) (mro : List Value) : Prop where
  tail : excTail bmB mro = true
  pass : ∀ self, refuseLoop self "__setattr__" bmB = pure ()
  obj : bmB.contains (.type "object") = true
theorem Tail.has {bmB mro : List Value} (T : Tail bmB mro) : mro.contains (.type "object") = true := (excTail_contains "object" mro T.tail).trans T.obj
theorem Tail.ne {bmB mro : List Value} (T : Tail bmB mro) : mro.isEmpty = false := by
  cases mro with
  | nil => exact absurd T.has (by decide)
  | cons _ _ => rfl
/-- the first field -/
theorem osa_new {K : W.Frag} {name : Str} {tk : Tok} {v : Value} {x C : Addr} {fv : Array Value} {cd : ClassData} {bmB : List Value}
    (X : K.In hp) (hx : hp.get? x = some { cls := .ref C, data := .fields fv }) (hcd : W.clsIn K C = some cd) (T : Tail bmB cd.mro) (hh : cd.hasDict = true) (ha : W.findIn K (.ref C) name = some none)
    (hq : ∀ h' tk' dx, (∀ b o, b ≠ x → hp.get? b = some o → h'.get? b = some o) → hp.objs.size ≤ dx → dx ≠ x → h'.get? x = some { cls := .ref C, dict := some dx, data := .fields fv } →
      h'.Ns1 dx (fun y => if y = name then some v else none) → R (.ok (.ret .none)) ⟨h', g, d, tk', os⟩) :
    codeAny (model prog w) A (.call (.builtin "object.__setattr__") ⟨[.ref x, .str name tk, v], []⟩) R ⟨hp, g, d, t, os⟩ := by
  have I : W.InstAt hp x { cls := .ref C, data := .fields fv } C none := ⟨hx, rfl, rfl, trivial⟩
  have SF := F.store_object
  have hxs : x ≠ hp.objs.size := Nat.ne_of_lt (Heap.lt_size hx)
  have sub : W.Looks (model prog w) hp (isInstance (.ref x) (.type "object")) true := I.type.andThen (W.looks_mroIn X (by unfold W.mroIn; rw [hcd, Option.bind_some, if_neg (by rw [T.ne]; decide), T.has]))
  refine codeAny_call_builtin SF.slot.plain SF.entry (@W.check_slot (model prog w) _ _ ⟨hp, g, d, t, os⟩ "object.__setattr__" "object" "__setattr__" (.ref x) [.str name tk, v] [] _ SF.kind SF.split sub (SF.args (.ref x) (.str name tk) v) ?_)
  have hmr : W.Looks (model prog w) hp (mroOf (.ref C)) cd.mro := (W.looks_clsIn X hcd).andThen .now
  have L3 : W.Looks (model prog w) hp (storeTaker? none) none := .now
  have hcls : W.Looks (model prog w) hp (classData C) cd := W.looks_clsIn X hcd
  rw [W.osa_eq, refuse_eq]
  refine wpAny_bind (wpAny_bind (I.type.at (wpAny_bind (hmr.at ?_))))
  rw [excTail_pass _ (T.pass _) _ T.tail]
  refine wpAny_pure (wpAny_bind (I.type.at (wpAny_bind ((W.looks_findIn X ha).at (wpAny_bind (L3.at ?_))))))
  show wpAny _ _ (storeInOwnDict (.ref x) (.ref C) (.str name tk) name v false) _ _ _
  obtain ⟨nm, bs, mro, ns, qn, hd, sn, sb, ab, col, del⟩ := cd
  dsimp only at hh
  subst hh
  unfold storeInOwnDict ownDictForStores
  repeat (first | with_reducible refine store_in_new ?_ ?_ | with_reducible refine wpAny_loadPart_at hx ?_ | with_reducible refine hcls.at ?_ | wp_step)
  · exact ⟨_, #[], _, (Heap.get?_update_ne _ _ _ _ hxs.symm).trans (Heap.get?_push_at rfl rfl), rfl, fun e he => absurd he (by simp), fun _ => rfl⟩
  · intro h' tk' hn' hs
    have hx₁ : (hp.push { cls := .type "dict", data := .dict #[] }).get? x = some { cls := .ref C, data := .fields fv } := Heap.get?_push_of_some _ hx
    refine hq h' tk' hp.objs.size (fun b o hb ho => ?_) (Nat.le_refl _) hxs.symm ?_ hn'
    · exact (hs.2 b (Nat.ne_of_lt (Heap.lt_size ho))).trans ((Heap.get?_update_ne _ _ _ _ hb).trans (Heap.get?_push_of_some _ ho))
    · exact (hs.2 x hxs).trans (Heap.get?_update_self _ hx₁ rfl)
/-- a further field -/
theorem osa_old {K : W.Frag} {name : Str} {tk : Tok} {v : Value} {x C dx : Addr} {fv : Array Value} {cd : ClassData} {m0 : Str → Option Value} {nl : List Str} {bmB : List Value}
    (X : K.In hp) (hx : hp.get? x = some { cls := .ref C, dict := some dx, data := .fields fv }) (hns : hp.Ns1 dx m0) (hw : Within m0 nl) (hz : nl.length ≤ 1000) (hcd : W.clsIn K C = some cd) (T : Tail bmB cd.mro) (hh : cd.hasDict = true)
    (ha : W.findIn K (.ref C) name = some none)
    (hq : ∀ h' tk', (∀ b o, b ≠ dx → hp.get? b = some o → h'.get? b = some o) → h'.Ns1 dx (fun y => if y = name then some v else m0 y) → R (.ok (.ret .none)) ⟨h', g, d, tk', os⟩) :
    codeAny (model prog w) A (.call (.builtin "object.__setattr__") ⟨[.ref x, .str name tk, v], []⟩) R ⟨hp, g, d, t, os⟩ := by
  obtain ⟨oD, esD, epD, hoD, hdD, _⟩ := hns.count hw
  have I : W.InstAt hp x { cls := .ref C, dict := some dx, data := .fields fv } C (some oD) := ⟨hx, rfl, rfl, hoD⟩
  have SF := F.store_object
  have sub : W.Looks (model prog w) hp (isInstance (.ref x) (.type "object")) true := I.type.andThen (W.looks_mroIn X (by unfold W.mroIn; rw [hcd, Option.bind_some, if_neg (by rw [T.ne]; decide), T.has]))
  refine codeAny_call_builtin SF.slot.plain SF.entry (@W.check_slot (model prog w) _ _ ⟨hp, g, d, t, os⟩ "object.__setattr__" "object" "__setattr__" (.ref x) [.str name tk, v] [] _ SF.kind SF.split sub (SF.args (.ref x) (.str name tk) v) ?_)
  have hmr : W.Looks (model prog w) hp (mroOf (.ref C)) cd.mro := (W.looks_clsIn X hcd).andThen .now
  have L3 : W.Looks (model prog w) hp (storeTaker? none) none := .now
  have hcls : W.Looks (model prog w) hp (classData C) cd := W.looks_clsIn X hcd
  rw [W.osa_eq, refuse_eq]
  refine wpAny_bind (wpAny_bind (I.type.at (wpAny_bind (hmr.at ?_))))
  rw [excTail_pass _ (T.pass _) _ T.tail]
  refine wpAny_pure (wpAny_bind (I.type.at (wpAny_bind ((W.looks_findIn X ha).at (wpAny_bind (L3.at ?_))))))
  show wpAny _ _ (storeInOwnDict (.ref x) (.ref C) (.str name tk) name v false) _ _ _
  obtain ⟨nm, bs, mro, ns, qn, hd, sn, sb, ab, col, del⟩ := cd
  dsimp only at hh
  subst hh
  unfold storeInOwnDict ownDictForStores
  repeat (first | with_reducible refine OEX.store_in_old hns hw hz ?_ | with_reducible refine wpAny_loadPart_at hx ?_ | with_reducible refine hcls.at ?_ | wp_step)
  intro h' tk' hn' hs
  exact hq h' tk' (fun b o hb ho => (hs.2 b hb).trans ho) hn'
end
end VxS
end PySem

set_option Elab.async false
set_option linter.all false
set_option maxRecDepth 100000
set_option maxHeartbeats 4000000
namespace L2
open PySem PySem.Spec PyProof.Rows

/-- what the written part says of an exception class of the program -/
structure Xc (K : PySem.W.Frag) (C : Addr) : Prop where
  cls : ∃ (nm q : Str) (N : Addr) (bs bm : List Value) (sn : List Str) (sub : List Value) (ab : Bool) (col : Option Bool) (dd : Option Addr) (k0 k1 k2 k3 k5 : Option Value) (B newId initId : String) (bmB : List Value),
    K.lookup C = some (excClassObj nm q C N bs bm true sn sub ab col dd k0 k1 k2 k3 k5 newId) ∧ ExcBaseFacts B newId initId bmB ∧ VxS.Tail bmB (.ref C :: bm)
  sa : PySem.W.findIn K (.ref C) "__setattr__" = some (some (.builtin "object.__setattr__"))
  ga : PySem.W.findIn K (.ref C) "__getattribute__" = some (some (.builtin "BaseException.__getattribute__"))
  gg : PySem.W.findIn K (.ref C) "__getattr__" = some none
  exC : PySem.W.subIn K (.ref C) (.type "BaseException") = some true
  tyC : PySem.W.typeIn K (.ref C) = some (.type "type")
  kC : PySem.W.keepIn K (.ref C) = true
  hdC : PySem.W.hasDictIn K C = true
  ca : PySem.W.findIn K (.ref C) "__class__" = some (some (.builtin "object.__class__"))
  cn : PySem.W.specialIn K (.builtin "object.__class__") "__get__" = some (some (.builtin "getset_descriptor.__get__"))
  ct : PySem.W.takesIn K (.builtin "object.__class__") = some true
  cm : PySem.W.mroIn K C (.type "object") = some true

/-- an exception of the class at C, its own dict at d -/
def exV (e C d : Addr) : HO := .ext fun h => ∃ (oe : Obj) (vs : Array Value), h.get? e = some oe ∧ oe.cls = .ref C ∧ oe.dict = some d ∧ oe.data = .fields vs
theorem exV_ok {P : Program} {w : World} {H : Hp} {h : Heap} {e C d : Addr} {oe : Obj} {vs : Array Value} (he : h.get? e = some oe) (hc : oe.cls = .ref C) (hd : oe.dict = some d) (hv : oe.data = .fields vs) : ObjOk P w H h e (exV e C d) :=
  ⟨⟨oe, vs, he, hc, hd, hv⟩, ⟨_, he⟩, fun h1 h2 z k => by
    obtain ⟨o, v, q, r⟩ := z
    exact ⟨o, v, k _ q, r⟩⟩
theorem exV_at {P : Program} {w : World} {H : Hp} {h : Heap} {e C d : Addr} (hok : HOk P w H h) (he : H e = some (exV e C d)) : ∃ (oe : Obj) (vs : Array Value), h.get? e = some oe ∧ oe.cls = .ref C ∧ oe.dict = some d ∧ oe.data = .fields vs := by
  have x : ObjOk P w H h e (.ext fun h => ∃ (oe : Obj) (vs : Array Value), h.get? e = some oe ∧ oe.cls = .ref C ∧ oe.dict = some d ∧ oe.data = .fields vs) := hok e _ he
  exact x.1
/-- at e: an exception of the class at C with these fields -/
def ExAt (H : Hp) (e C : Addr) (fs : List (Str × V)) : Prop := ∃ d, H e = some (exV e C d) ∧ H d = some (.xd fs)
theorem ExAt.mono {H H' : Hp} {e C : Addr} {fs : List (Str × V)} (x : ExAt H e C fs) (s : Same H H') : ExAt H' e C fs := by
  obtain ⟨d, h1, h2⟩ := x
  exact ⟨d, s _ _ h1, s _ _ h2⟩

section
variable {X : Cx} {pins : List (Addr × Obj)} {σ : St} {H : Hp} {s : Shared} {a C dx : Addr} {f : Str} {y : V} {u : Value} {fs : List (Str × V)} {Q : Unit → Shared → Prop} {E : Value → Shared → Prop} {A : Around}
theorem xst_new (T : Xc X.K C) (I : Inv X pins σ H s) (e : H a = some (exo a C none)) (hno : PySem.W.findIn X.K (.ref C) f = some none) (ry : RelV y u)
    (h : ∀ dx s', H dx = none → dx ≠ a → Inv X pins σ (upd (upd H dx (exd dx [(f, y)])) a (exo a C (some dx))) s' → Q () s') : wpAny (model X.prog X.w) A (setAttr (.ref a) f u) Q E s := by
  obtain ⟨nm, q, N, bs, bm, sn, sub, ab, col, dd, k0, k1, k2, k3, k5, B, newId, initId, bmB, hC, FB, hbm⟩ := T.cls
  have hcl : PySem.W.clsIn X.K C = some { name := nm, bases := bs, mro := .ref C :: bm, ns := N, qualname := q, hasDict := true, slotNames := sn, subclasses := sub, abstract := ab, collection := col, hasDel := false } := by unfold PySem.W.clsIn; rw [hC] <;> rfl
  obtain ⟨t1, ho⟩ := exo_at I.hok e
  obtain ⟨hp, g, d, t, os⟩ := s
  refine PySem.W.set_plain I.kIn (ox := { cls := .ref C, dict := none, data := .fields #[.ref t1, .none, .none, .none, .bool false, .none] }) (od := none) ⟨ho, rfl, rfl, trivial⟩ T.sa ?_
  refine VxS.osa_new I.kIn ho hcl hbm rfl hno (fun h' tk' dx k dn dne hx hn => ?_)
  have hnd : H dx = none := I.hok.fresh dn
  have nd : ∀ {b : Addr} {o : Obj}, hp.get? b = some o → b ≠ dx := fun {b o} q => Nat.ne_of_lt (Nat.lt_of_lt_of_le (Heap.lt_size q) dn)
  have na : ∀ {b : Addr}, H b = none → b ≠ a := fun {b} n z => by
    rw [z, e] at n
    cases n
  have Un1 : Un X.fs [] H (upd (upd H dx (exd dx [(f, y)])) a (exo a C (some dx))) hp h' := {
    keep := fun b o q n _ _ => k b o (na n) q
    slot := fun b o q n _ _ => ⟨o.slots, k b o (na n) q⟩
    free := fun b o q n _ => by rw [upd_ne (na n), upd_ne (nd q)]; exact n
    there := fun b o q _ => by
      by_cases hb : b = a
      · exact ⟨_, by rw [hb]; exact hx⟩
      · exact ⟨o, k b o hb q⟩
    tups := fun b xs q => by rw [upd_ne (at_ne e q exo_tup), upd_ne (ne_of_none q hnd)]; exact q
    frzs := fun b o v q => by rw [upd_ne (at_ne e q exo_frz), upd_ne (ne_of_none q hnd)]; exact q
    tbls := fun b ps q => ⟨#[], by rw [upd_ne (at_ne e q exo_tbl), upd_ne (ne_of_none q hnd), q]; simp⟩ }
  refine h dx _ hnd dne (I.un (t' := tk') Un1 fun b o q => ?_)
  by_cases hb : b = a
  · subst hb
    rw [upd_same] at q
    cases q
    exact exo_ok hx
  · rw [upd_ne hb] at q
    by_cases hd : b = dx
    · subst hd
      rw [upd_same] at q
      cases q
      exact exd_ok hn (relO_put (fs := []) ry fun g => True.intro)
    · rw [upd_ne hd] at q
      exact (I.hok b o q).stay (fun c v hc z => k c v (by
          rcases hc with hc | hc
          · rw [hc]
            exact hb
          · exact at_ne e hc exo_own) z)
        (fun c hc => by rw [upd_ne (at_ne e hc exo_own), upd_ne (ne_of_none hc hnd)]; exact hc) (fun c xs hc => by rw [upd_ne (at_ne e hc exo_tup), upd_ne (ne_of_none hc hnd)]; exact hc)
theorem xst_old (T : Xc X.K C) (I : Inv X pins σ H s) (e : H a = some (exo a C (some dx))) (ed : H dx = some (exd dx fs)) (hl : fs.length ≤ 900) (hno : PySem.W.findIn X.K (.ref C) f = some none) (ry : RelV y u)
    (h : ∀ s', Inv X pins σ (upd H dx (exd dx ((f, y) :: fs))) s' → Q () s') : wpAny (model X.prog X.w) A (setAttr (.ref a) f u) Q E s := by
  obtain ⟨nm, q, N, bs, bm, sn, sub, ab, col, dd, k0, k1, k2, k3, k5, B, newId, initId, bmB, hC, FB, hbm⟩ := T.cls
  have hcl : PySem.W.clsIn X.K C = some { name := nm, bases := bs, mro := .ref C :: bm, ns := N, qualname := q, hasDict := true, slotNames := sn, subclasses := sub, abstract := ab, collection := col, hasDel := false } := by unfold PySem.W.clsIn; rw [hC] <;> rfl
  obtain ⟨t1, ho⟩ := exo_at I.hok e
  obtain ⟨mA, hns, rel⟩ := exd_at I.hok ed
  have hw := within_of rel
  obtain ⟨hp, g, d, t, os⟩ := s
  obtain ⟨oD, _, _, hoD, _, _⟩ := hns.count hw
  refine PySem.W.set_plain I.kIn (ox := { cls := .ref C, dict := some dx, data := .fields #[.ref t1, .none, .none, .none, .bool false, .none] }) (od := some oD) ⟨ho, rfl, rfl, hoD⟩ T.sa ?_
  refine VxS.osa_old I.kIn ho hns hw (by rw [List.length_map]; omega) hcl hbm rfl hno (fun h' tk' k hn => ?_)
  have hd : ∃ o, h'.get? dx = some o := by
    obtain ⟨o, _, _, e', _⟩ := hn
    exact ⟨o, e'⟩
  exact h _ (I.write (t' := tk') (x := dx) (e := dx) (o := exd dx ((f, y) :: fs)) (by rw [ed]; exact True.intro) (.inl rfl) k hd (exd_ok hn (relO_put ry rel)))
end
/-- self.f = e in an exception's __init__ -/
def tXst (K : PySem.W.Frag) (f : Str) (to te : TE) : TS := fun D σ H => te σ H fun y H1 => to σ H1 fun x H2 => ∃ a C : Addr, x = .ref a ∧ Xc K C ∧ PySem.W.findIn K (.ref C) f = some none ∧
  ((H2 a = some (exo a C none) ∧ ∀ dx, H2 dx = none → dx ≠ a → D.nx σ (upd (upd H2 dx (exd dx [(f, y)])) a (exo a C (some dx)))) ∨
    ∃ (dx : Addr) (fs : List (Str × V)), H2 a = some (exo a C (some dx)) ∧ H2 dx = some (exd dx fs) ∧ fs.length ≤ 900 ∧ D.nx σ (upd H2 dx (exd dx ((f, y) :: fs))))
section
variable {X : Cx} {o e : Expr} {es : List Expr} {to te : TE} {ta : TA} {f : Str} {p p' p1 p2 pos : Pos}
theorem ps_xst (ho : PE X o to) (he : PE X e te) (hs : swapsWith e (some (.Attribute o f p')) pos.line X.env = pure false := by rfl) : PS X (.Assign [.Attribute o f p'] e pos) (tXst X.K f to te) := by
  refine ⟨fun pins s σ H D I h => ?_⟩
  refine plainObj_wpAny_Assign_Attribute (thn (he.run pins s σ H _ I h) fun v s1 ⟨y, H1, I1, r1, q1⟩ => thn (ho.run pins s1 σ H1 _ I1 q1) fun u s2 ⟨x, H2, I2, r2, a, C, ex, T, hno, q⟩ => ?_) hs
  subst ex
  obtain rfl : u = Value.ref a := r2
  rcases q with ⟨ea, q⟩ | ⟨dx, fs, ea, ed, hl, q⟩
  · exact xst_new T I2 ea hno r1 fun dx s' n ne J => ⟨σ, _, J, q dx n ne⟩
  · exact xst_old T I2 ea ed hl hno r1 fun s' J => ⟨σ, _, J, q⟩
end
/-- isinstance(e, c), e an exception of the program -/
def rIsX (K : PySem.W.Frag) : List V → Hp → VK → Prop := fun xs H Q => ∃ (a C : Addr) (fs : List (Str × V)) (c : V) (cv : Value) (b : Bool), xs = [.ref a, c] ∧ ExAt H a C fs ∧ Xc K C ∧ (∀ u, RelV c u → u = cv) ∧ PySem.W.kitOne K (.ref C) cv = some b ∧ Q (.bl b) H
theorem exV_inst {X : Cx} {pins : List (Addr × Obj)} {σ : St} {H : Hp} {s : Shared} {a C : Addr} {fs : List (Str × V)} (I : Inv X pins σ H s) (x : ExAt H a C fs) :
    ∃ (oe od : Obj) (mA : Str → Option Value), PySem.W.InstAt s.heap a oe C (some od) ∧ (∀ name, PySem.W.lookIn name od = some (mA name)) ∧ ∀ f, RelO (fs.lookup f) (mA f) := by
  obtain ⟨d, h1, h2⟩ := x
  obtain ⟨oe, vs, he, hc, hd, hv⟩ := exV_at I.hok h1
  have hx : ObjOk X.prog X.w H s.heap d (.xd fs) := I.hok d _ h2
  obtain ⟨mA, hns, hr⟩ := hx
  obtain ⟨od, ho, hl⟩ := lookIn_ns hns
  exact ⟨oe, od, mA, ⟨he, hc, by unfold PySem.W.notCls; rw [hv] <;> rfl, by rw [hd]; exact ho⟩, hl, hr⟩
theorem Xc.kit {K : PySem.W.Frag} {C x : Addr} {ox : Obj} {od : Option Obj} (T : Xc K C) : PySem.W.KitX K (.ref x) (.ref C) (fun h => PySem.W.InstAt h x ox C od) :=
  PySem.W.kitx_exc (by
    obtain ⟨cd, hc, _⟩ := PySem.W.any_some T.hdC
    rw [hc] <;> rfl) T.ga T.gg T.exC T.ca T.cn T.ct T.cm
theorem call_isX {X : Cx} : CallR X (.builtin "isinstance") (rIsX X.K) := by
  intro pins s σ H xs us Q I r h
  obtain ⟨a, C, fs, c, cv, b, rfl, x, T, hcv, e, q⟩ := h
  cases r with
  | cons rx rr =>
    cases rr with
    | cons rt rr =>
      cases rr
      cases rx
      have ec := hcv _ rt
      subst ec
      obtain ⟨oe, od, mA, J, _, _⟩ := exV_inst I x
      exact PySem.W.kia_one T.kit I.kIn J e (fun z => nomatch z) fun tk => ⟨.bl b, H, I.kept (t' := tk) fun _ _ z => z, rfl, q⟩
/-- isinstance(e, (c1, c2, ..)), e an exception of the program -/
def rIsXT (K : PySem.W.Frag) : List V → Hp → VK → Prop := fun xs H Q => ∃ (a C tp : Addr) (fs : List (Str × V)) (ts : List V) (cvs : List Value) (b : Bool), xs = [.ref a, .ref tp] ∧ ExAt H a C fs ∧ Xc K C ∧ H tp = some (.tup ts) ∧
  (∀ us, Vals ts us → us = cvs) ∧ PySem.W.kitAny K (.ref C) cvs = some b ∧ Q (.bl b) H
theorem call_isXT {X : Cx} : CallR X (.builtin "isinstance") (rIsXT X.K) := by
  intro pins s σ H xs us Q I r h
  obtain ⟨a, C, tp, fs, ts, cvs, b, rfl, x, T, ht, hcv, e, q⟩ := h
  cases r with
  | cons rx rr =>
    cases rr with
    | cons rt rr =>
      cases rr
      cases rx
      cases rt
      obtain ⟨oe, od, mA, J, _, _⟩ := exV_inst I x
      obtain ⟨_, its, rv, o, ho, hcl, n, hdt⟩ := I.hok tp _ ht
      have ev := hcv _ rv
      subst ev
      obtain ⟨oc, odd, oda, osl⟩ := o
      dsimp only at hcl hdt
      subst hcl hdt
      exact PySem.W.kia_tup T.kit I.kIn J ho e (fun z => nomatch z) fun tk => ⟨.bl b, H, I.kept (t' := tk) fun _ _ z => z, rfl, q⟩
/-- e.f of an exception of the program -/
def tXfd (K : PySem.W.Frag) (f : Str) (te : TE) : TE := fun σ H Q => te σ H fun x H1 => ∃ (a C : Addr) (fs : List (Str × V)) (v : V), x = .ref a ∧ ExAt H1 a C fs ∧ Xc K C ∧ PySem.W.findIn K (.ref C) f = some none ∧ fs.lookup f = some v ∧ Q v H1
theorem pe_xfd {X : Cx} {e : Expr} {te : TE} {pos : Pos} {n : Str} (he : PE X e te) (hb : attributeBase e n X.env (eval e X.env) = eval e X.env := by rfl) : PE X (.Attribute e n pos) (tXfd X.K n te) := by
  refine ⟨fun pins s σ H Q I h => ?_⟩
  refine attr_of hb (thn (he.run pins s σ H _ I h) fun u s1 hh => ?_)
  obtain ⟨x, H1, I1, rx, a, C, fs, v, ex, xa, T, hno, l, q⟩ := hh
  subst ex
  obtain rfl : u = Value.ref a := rx
  obtain ⟨oe, od, mA, J, hl, hr⟩ := exV_inst I1 xa
  obtain ⟨u, hu, ru⟩ := RelO.some_of (v := v) (o := mA n) (by rw [← l]; exact hr n)
  exact HandSPX.exc_get I1.kIn J T.ga T.gg T.exC (PySem.W.findObj_own T.hdC hno rfl (by rw [hl, hu])) (handed_of ru) ⟨v, H1, I1.tok _, ru, q⟩
end L2

set_option Elab.async false
set_option linter.all false
set_option maxRecDepth 100000
set_option maxHeartbeats 4000000
namespace PySem
namespace VxS
open PySem.W PySem.Calls PyProof.Rows PySem.HandSPX
section
variable {M : Model} {A : Around} {E : Value → Shared → Prop} {h : Heap} {g : Array GenState} {d : Drawn} {t : Nat} {os : OsState}
variable {nm q : Str} {C N : Addr} {bs bm bmB : List Value} {hdct : Bool} {sn : List Str} {sub : List Value} {ab : Bool} {col : Option Bool} {dd : Option Addr} {k0 k1 k2 k3 k5 : Option Value} {B newId initId : String}
theorem check_newK (F : ExcBaseFacts B newId initId bmB) (hT : ∀ X : String, bm.contains (.type X) = bmB.contains (.type X)) {rest : List Value} {kw : List (Str × Value)} {Q : Unit → Shared → Prop}
    (hC : h.get? C = some (excClassObj nm q C N bs bm hdct sn sub ab col dd k0 k1 k2 k3 k5 newId)) (hq : Q () ⟨h, g, d, t, os⟩) : wpAny M A (checkBuiltinCall newId ⟨.ref C :: rest, kw⟩) Q E ⟨h, g, d, t, os⟩ := by
  have hcont : (Value.ref C :: bm).contains (.type B) = true := by rw [List.contains_cons, hT, F.hasB, Bool.or_true]
  have hstar := F.noStar
  simp only [checkBuiltinCall, F.newKind, F.newSplit, F.newRow]
  repeat (first | refine wpAny_loadPart_at hC ?_ | (refine wpAny_isSubtype_exc hC ?_; rw [hcont]) | refine wpAny_staticBase_exc hC ?_ | refine wpAny_madeBy_exc hC ?_ | simp only [bne_self_eq_false, Bool.false_eq_true, if_false] | wp_step)
  exact hq
end
section
variable {prog : Program} {w : World} {A : Around} {E : Value → Shared → Prop} {R : Result → Shared → Prop} {h : Heap} {g : Array GenState} {d : Drawn} {t : Nat} {os : OsState}
variable {nm q : Str} {C N : Addr} {bs bm bmB : List Value} {hdct : Bool} {sn : List Str} {sub : List Value} {ab : Bool} {col : Option Bool} {dd : Option Addr} {k0 k1 k2 k3 k5 : Option Value} {B newId initId : String}
theorem new_K (F : ExcBaseFacts B newId initId bmB) (hT : ∀ X : String, bm.contains (.type X) = bmB.contains (.type X)) {rest : List Value} {kw : List (Str × Value)}
    (hC : h.get? C = some (excClassObj nm q C N bs bm hdct sn sub ab col dd k0 k1 k2 k3 k5 newId))
    (hq : R (.ok (.ret (.ref (h.objs.size + 1)))) ⟨(h.push { cls := .type "tuple", data := .seq rest.toArray }).push
      { cls := .ref C, data := .fields #[.ref h.objs.size, .none, .none, .none, .bool false, .none] }, g, d, t, os⟩) (hrest : rest.length ≤ sizeLine) :
    codeAny (model prog w) A (.builtin newId ⟨.ref C :: rest, kw⟩) R ⟨h, g, d, t, os⟩ := by
  have hends := F.ends
  have hcB : (Value.ref C :: bm).contains (.type B) = true := by rw [List.contains_cons, hT, F.hasB, Bool.or_true]
  have hcA : (Value.ref C :: bm).contains (.type "AttributeError") = false := by rw [List.contains_cons, hT, F.noAttr]; rfl
  have hcN : (Value.ref C :: bm).contains (.type "NameError") = false := by rw [List.contains_cons, hT, F.noName]; rfl
  refine codeAny_builtinAt F.entry ?_
  unfold Builtin.«BaseException.__new__»
  refine wpAt_bind ?_
  show wpAt _ _ _ (stack >>= _) _ _ _
  refine wpAt_bind (wpAt_stack fun p below => wpAt_of_wpAny ?_)
  wp_walk
  refine wpAt_of_wpAny ?_
  rw [F.owner]
  repeat (first | with_reducible refine wpAny_madeHere_exc F.canon hC ?_ | with_reducible refine wpAny_loadPart_at hC ?_ | (with_reducible refine wpAny_isSubtype_exc hC ?_; first | rw [hcB] | rw [hcA] | rw [hcN]) | wp_step)
  show R _ _
  rw [Heap.size_push]
  exact hq
theorem type_call_K (F : ExcBaseFacts B newId initId bmB) (hT : ∀ X : String, bm.contains (.type X) = bmB.contains (.type X)) {rest : List Value} {kw : List (Str × Value)} {fI : Addr} {Q : Fin → Shared → Prop}
    (hC : h.get? C = some (excClassObj nm q C N bs bm hdct sn sub ab col dd k0 k1 k2 k3 k5 newId))
    (hi : W.Looks (model prog w) h (typeLookup (.ref C) "__init__") (some (.ref fI))) (hb : ∀ self, W.Looks (model prog w) h (bindSpecial (.ref fI) self) (.ref fI, [self])) (hrest : rest.length ≤ sizeLine)
    (hq : codeAny (model prog w) A (.call (.ref fI) ⟨.ref (h.objs.size + 1) :: rest, kw⟩)
      (fun r s' => match r with | .ok (.ret v) => v = .none ∧ Q (.done (.ret (.ref (h.objs.size + 1)))) s' | .ok _ => False | .error e => E e s')
      ⟨(h.push (W.kdv_tup rest)).push (excO C h.objs.size), g, d, t, os⟩) :
    wpAny (model prog w) A (Builtin.«type.__call__» ⟨.ref C :: rest, kw⟩) Q E ⟨h, g, d, t, os⟩ := by
  repeat (first | with_reducible refine wpAny_loadPart_at hC ?_ | with_reducible refine wpAny_madeBy_exc hC ?_ | wp_step)
  refine codeAny_call_builtin_code (Code.quiet_builtin _ F.quiet) (check_newK F hT hC ?_)
  refine new_K F hT hC ?_ hrest
  show wpAny _ _ _ _ _ _
  have k : ∀ b o, h.get? b = some o → ((h.push (W.kdv_tup rest)).push (excO C h.objs.size)).get? b = some o := fun b o e => Heap.get?_push_of_some _ (Heap.get?_push_of_some _ e)
  have hC₁ := k _ _ hC
  have hget : ((h.push (W.kdv_tup rest)).push (excO C h.objs.size)).get? (h.objs.size + 1) = some (excO C h.objs.size) := by heap_get
  have hcC : (Value.ref C :: bm).contains (.ref C) = true := by simp
  have i1 := hi.keeps k
  have b1 := (hb (.ref (h.objs.size + 1))).keeps k
  unfold isInstance
  repeat (first | with_reducible refine wpAny_loadPart_at hget ?_ | (with_reducible refine wpAny_isSubtype_exc hC₁ ?_; rw [hcC]) | wp_step)
  show wpAny _ _ (typeLookup (.ref C) _) _ _ _
  refine i1.at ?_
  refine wpAny_holding (wpAny_bind (b1.at ?_))
  refine wpAny_bind (wpAny_call (codeAny_mono hq fun r s' z => ?_))
  rcases r with e | (v | _ | _ | _) <;> first | exact z | exact z.elim | skip
  obtain ⟨rfl, z⟩ := z
  first
    | exact wpAny_pure (wpAny_pure z)
    | (wp_walk; exact z)
theorem call_K (F : ExcBaseFacts B newId initId bmB) (hT : ∀ X : String, bm.contains (.type X) = bmB.contains (.type X)) {rest : List Value} {kw : List (Str × Value)} {fI : Addr}
    (hC : h.get? C = some (excClassObj nm q C N bs bm hdct sn sub ab col dd k0 k1 k2 k3 k5 newId))
    (hi : W.Looks (model prog w) h (typeLookup (.ref C) "__init__") (some (.ref fI))) (hb : ∀ self, W.Looks (model prog w) h (bindSpecial (.ref fI) self) (.ref fI, [self])) (hrest : rest.length ≤ sizeLine)
    (hq : codeAny (model prog w) (A.under (.builtin "type.__call__" ⟨.ref C :: rest, kw⟩)) (.call (.ref fI) ⟨.ref (h.objs.size + 1) :: rest, kw⟩) (W.InitBack (h.objs.size + 1) R)
      ⟨(h.push (W.kdv_tup rest)).push (excO C h.objs.size), g, d, t, os⟩) :
    codeAny (model prog w) A (.call (.ref C) ⟨rest, kw⟩) R ⟨h, g, d, t, os⟩ := by
  have f1 := tc_lookup
  have f2 := tc_bind (.ref C)
  have hTy : (⟨h, g, d, t, os⟩ : Shared).TypeIs (.ref C) "type" := ⟨_, hC, rfl⟩
  refine codeAny_of_tree ?_
  show wpAny _ _ (callAny (.ref C) _) _ _ _
  repeat (any_goals (first | assumption | with_reducible refine wpAny_loadPart_at hC ?_ | wp_step))
  refine ⟨rfl, ?_⟩
  refine codeAny_call_builtin_at (Code.quiet_builtin _ (by decide +kernel)) entry_typeCall (wpAny_check_type_call_sub hC (type_call_K F hT hC hi hb hrest ?_))
  refine codeAny_mono hq fun r s' z => ?_
  rcases r with e | (v | _ | _ | _) <;> exact z
end
end VxS
end PySem

set_option Elab.async false
set_option linter.all false
set_option maxRecDepth 100000
set_option maxHeartbeats 4000000
namespace L2
open PySem PySem.Spec PyProof.Rows
/-- an object is told otherwise -/
theorem HOk.retype {P : Program} {w : World} {H : Hp} {h : Heap} {x : Addr} {o' : HO} (ok : HOk P w H h) (mu : Mut (H x)) (hx : ∃ o, h.get? x = some o) (new : ObjOk P w (upd H x o') h x o') : HOk P w (upd H x o') h :=
  ok.write mu (.inl rfl) (fun _ _ _ e => e) hx new
section
variable {X : Cx} {CX : CXT} {k : Nat} {C fI : Addr} {fd : FuncData} {ps : List Str} {sp : Sp} {x : Str} {p pos : Pos} {e : Expr} {es : List Expr} {kws : List Keyword} {t tk : TA}
/-- behind the __init__: the exception and its dict stand as an exception's -/
theorem xnew_end {pins : List (Addr × Obj)} {σ : St} {H1 H2 : Hp} {hp hp2 h2 : Heap} {g1 g2 : Array GenState} {d1 d2 : Drawn} {t1 t2 : Nat} {os1 os2 : OsState} {a d : Addr} {fs : List (Str × V)} (I1 : Inv X pins σ H1 ⟨hp, g1, d1, t1, os1⟩)
    (ha : hp.objs.size ≤ a) (kk : ∀ b o, hp.get? b = some o → hp2.get? b = some o) (un : Un (frs X.stack) [] (upd H1 a (exo a C none)) H2 hp2 h2) (hok : HOk X.prog X.w H2 h2) (ho : os2 = os1) (hb : AllBare g2)
    (ea : H2 a = some (exo a C (some d))) (ed : H2 d = some (exd d fs)) : Inv X pins σ (upd (upd H2 a (exV a C d)) d (.xd fs)) ⟨h2, g2, d2, t2, os2⟩ := by
  obtain ⟨t0, hoe⟩ := exo_at hok ea
  obtain ⟨mA, hns, rel⟩ := exd_at hok ed
  have hn : H1 a = none := I1.hok.fresh ha
  have hda : d ≠ a := fun z => by
    obtain ⟨o, es, ep, e1, e2, _⟩ := hns
    rw [z, hoe] at e1
    have z2 := Option.some.inj e1
    subst z2
    cases e2
  have nha : ∀ {b : Addr} {o : Obj}, hp.get? b = some o → b ≠ a := fun {b o} z => Nat.ne_of_lt (Nat.lt_of_lt_of_le (Heap.lt_size z) ha)
  have up : ∀ {b : Addr}, b ≠ a → H1 b = none → upd H1 a (exo a C none) b = none := fun {b} hb n => by rw [upd_ne hb]; exact n
  have nd : ∀ {b : Addr} {o : Obj}, hp.get? b = some o → H1 b = none → b ≠ d := fun {b o} z n e => by
    have y := un.free b o (kk b o z) (up (nha z) n) (by simp)
    rw [e, ed] at y
    cases y
  have U : Un (frs X.stack) [] H1 (upd (upd H2 a (exV a C d)) d (.xd fs)) hp h2 := {
    keep := fun b o z n hf hx => un.keep b o (kk b o z) (up (nha z) n) hf hx
    slot := fun b o z n hf hx => un.slot b o (kk b o z) (up (nha z) n) hf hx
    free := fun b o z n hx => by
      rw [upd_ne (nd z n), upd_ne (nha z)]
      exact un.free b o (kk b o z) (up (nha z) n) hx
    there := fun b o z hx => un.there b o (kk b o z) hx
    tups := fun b xs z => by
      have q := un.tups b xs (by rw [upd_ne (ne_of_none z hn)]; exact z)
      rw [upd_ne (at_ne ed q exd_tup), upd_ne (ne_of_none z hn)]
      exact q
    frzs := fun b o v z => by
      have q := un.frzs b o v (by rw [upd_ne (ne_of_none z hn)]; exact z)
      rw [upd_ne (at_ne ed q (fun y => by
        have y' : HO.ext _ = HO.frz o v := y
        cases y')), upd_ne (ne_of_none z hn)]
      exact q
    tbls := fun b ps z => by
      obtain ⟨m, q⟩ := un.tbls b ps (by rw [upd_ne (ne_of_none z hn)]; exact z)
      refine ⟨m, ?_⟩
      rw [upd_ne (at_ne ed q (fun y => by
        have y' : HO.ext _ = HO.tbl (ps ++ m) := y
        cases y')), upd_ne (ne_of_none z hn)]
      exact q }
  have ok1 : HOk X.prog X.w (upd H2 a (exV a C d)) h2 := hok.retype (by rw [ea]; exact True.intro) ⟨_, hoe⟩ (exV_ok hoe rfl rfl rfl)
  have ed1 : (upd H2 a (exV a C d)) d = some (exd d fs) := by rw [upd_ne hda]; exact ed
  have ok2 : HOk X.prog X.w (upd (upd H2 a (exV a C d)) d (.xd fs)) h2 := by
    obtain ⟨o, es, ep, e1, r⟩ := id hns
    exact ok1.retype (by rw [ed1]; exact True.intro) ⟨o, e1⟩ ⟨mA, hns, rel⟩
  exact I1.call' (ch := []) ho U ok2 hb (fun b z => absurd z (by simp))
/-- C(..) of an exception class of the program, as a value. us: the positional values, kw the keywords', zs: bound in the parameters' order -/
theorem run_xnew {pins : List (Addr × Obj)} {σ : St} {H : Hp} {s : Shared} {Q : VK} {us zs : List Value} {kw : List (Str × Value)} {vs : List V} (T : Xc X.K C) (iC : PySem.W.findIn X.K (.ref C) "__init__" = some (some (.ref fI))) (tI : PySem.W.typeIn X.K (.ref fI) = some (.type "function"))
    (F1 : FnOk X.prog X.w X.K X.mg X.base CX k fI fd ps sp) (hr : Room (k + 1) X.A) (hx : Passes CX X (fun _ _ _ => False)) (hz : us.length ≤ sizeLine)
    (hb : ∀ (s : Shared) (a : Addr), X.K.In s.heap → BindsTo s fd ⟨Value.ref a :: us, kw⟩ (ps.zip (Value.ref a :: zs))) (I : Inv X pins σ H s) (r : Vals vs zs)
    (h : ∀ a, H a = none → sp (.ref a :: vs) (upd H a (exo a C none)) (fun v H2 => v = .non ∧ ∃ (d : Addr) (fs : List (Str × V)), H2 a = some (exo a C (some d)) ∧ H2 d = some (exd d fs) ∧ Q (.ref a) (upd (upd H2 a (exV a C d)) d (.xd fs))) (fun _ _ _ => False)) :
    wpAny (model X.prog X.w) X.A (call (.ref C) us kw) (EP X pins σ Q) X.xe s := by
  obtain ⟨nm, q, N, bs, bm, sn, sub, ab, col, dd, k0, k1, k2, k3, k5, B, newId, initId, bmB, hC, FB, hbm⟩ := T.cls
  have hT : ∀ Y : String, bm.contains (.type Y) = bmB.contains (.type Y) := fun Y => by
    have z := PySem.W.excTail_contains Y _ hbm.tail
    rw [List.contains_cons] at z
    have e : (Value.type Y == Value.ref C) = false := rfl
    rw [e, Bool.false_or] at z
    exact z
  obtain ⟨hp, g, dr, tk, os⟩ := s
  have hsz : hp.objs.size ≤ hp.objs.size + 1 := Nat.le_succ _
  have hn : H (hp.objs.size + 1) = none := I.hok.fresh hsz
  have hq := h (hp.objs.size + 1) hn
  have kk : ∀ b o, hp.get? b = some o → ((hp.push (PySem.W.kdv_tup us)).push (PySem.HandSPX.excO C hp.objs.size)).get? b = some o := fun b o e => Heap.get?_push_of_some _ (Heap.get?_push_of_some _ e)
  have hget : ((hp.push (PySem.W.kdv_tup us)).push (PySem.HandSPX.excO C hp.objs.size)).get? (hp.objs.size + 1) = some (PySem.HandSPX.excO C hp.objs.size) := by heap_get
  have I2 : Inv X pins σ (upd H (hp.objs.size + 1) (exo (hp.objs.size + 1) C none)) ⟨(hp.push (PySem.W.kdv_tup us)).push (PySem.HandSPX.excO C hp.objs.size), g, dr, tk, os⟩ :=
    I.laid (t' := tk) (a := hp.objs.size + 1) (o := exo (hp.objs.size + 1) C none) (h' := (hp.push (PySem.W.kdv_tup us)).push (PySem.HandSPX.excO C hp.objs.size)) kk hsz (exo_ok hget)
  have r2 : Vals (V.ref (hp.objs.size + 1) :: vs) (Value.ref (hp.objs.size + 1) :: zs) := .cons rfl r
  refine wpAny_call (VxS.call_K FB hT (I.kIn _ _ hC) (PySem.W.looks_findIn I.kIn iC) (fun self => PySem.W.bind_fn I.kIn self tI) hz
    (codeAny_mono (F1.run _ X.stack _ _ ⟨Value.ref (hp.objs.size + 1) :: us, kw⟩ (Value.ref (hp.objs.size + 1) :: zs) _ _ (fun _ _ _ => False) (hr.make C us kw) (I2.env0.make C us kw) (hb _ _ I2.kIn) r2 hq) fun r s' hq' => ?_))
  cases r with
  | error er => exact hx pins σ _ _ er s' I2 hq'
  | ok fl =>
    cases fl with
    | ret u =>
      obtain ⟨v, H2, os2, bare2, un2, hok2, rv, ev, d, fs, ea, ed, q2⟩ := hq'
      subst ev
      obtain ⟨h2, g2, d2, t2, os'⟩ := s'
      exact ⟨rv, .ref (hp.objs.size + 1), _, xnew_end (d2 := d2) (t2 := t2) I hsz kk un2 hok2 os2 bare2 ea ed, rfl, q2⟩
    | next => exact False.elim hq'
    | brk => exact False.elim hq'
    | cont => exact False.elim hq'
/-- the wish behind C(..): sp is the __init__'s promise, vs the values in the parameters' order -/
def XNew (C : Addr) (sp : Sp) (vs : List V) (H : Hp) (Q : VK) : Prop :=
  ∀ a, H a = none → sp (.ref a :: vs) (upd H a (exo a C none)) (fun v H2 => v = .non ∧ ∃ (d : Addr) (fs : List (Str × V)), H2 a = some (exo a C (some d)) ∧ H2 d = some (exd d fs) ∧ Q (.ref a) (upd (upd H2 a (exV a C d)) d (.xd fs))) (fun _ _ _ => False)
def tXnew (C : Addr) (sp : Sp) (t : TA) : TE := fun σ H Q => t σ H fun vs H1 => vs.length ≤ 1000 ∧ XNew C sp vs H1 Q
theorem pe_xnew (T : Xc X.K C) (iC : PySem.W.findIn X.K (.ref C) "__init__" = some (some (.ref fI))) (tI : PySem.W.typeIn X.K (.ref fI) = some (.type "function"))
    (F1 : FnOk X.prog X.w X.K X.mg X.base CX k fI fd ps sp) (hr : Room (k + 1) X.A) (hbd : Binds X.K fd ps []) (hx : Passes CX X (fun _ _ _ => False)) (hg : Gl X x) (hm : X.mg x = some (.ref C)) (ha : PA X (e :: es) t)
    (hdb : (x == ("__debug__" : Str)) = false := by decide) (he : starEach (e :: es) X.env = (false, eval e X.env) :: starEach es X.env := by rfl) (hpl : (backTo pos (starEach es X.env)).any (·.1) = false := by rfl) :
    PE X (.Call (.Name x p) (e :: es) [] pos) (tXnew C sp t) := by
  refine ⟨fun pins s σ H Q I h => ?_⟩
  refine wpAny_Call_Name_kw (ld_glob I hg hm ?_ hdb)
  refine PySem.W.callWith_K (h₀ := X.base) I.ok.mod.kin T.kC (thn (ha.run pos pins s σ H _ I h) fun us s1 ⟨vs, H1, I1, r1, hz, q1⟩ => ⟨I1.kIn, ?_⟩) he hpl
  have hl : ∀ a : Addr, (Value.ref a :: us).length = ps.length := fun a => by
    have e1 := F1.len _ _ _ _ (q1 s1.heap.objs.size (I1.hok.fresh (Nat.le_refl _)))
    rw [List.length_cons] at e1
    rw [List.length_cons, ← r1.length]
    exact e1
  exact run_xnew (us := us) T iC tI F1 hr hx (by rw [← r1.length, sizeLine_eq]; omega) (fun s a kin => by
    have z := hbd s (Value.ref a :: us) kin (by rw [List.append_nil]; exact hl a)
    rw [List.append_nil] at z
    exact z) I1 r1 q1
/-- C(k = v, ..): one | two keywords, in the parameters' order pe -/
def tXnewK (C : Addr) (sp : Sp) (n : Nat) (gV : List V → List V) (tk : TA) : TE := fun σ H Q => tk σ H fun zs H1 => zs.length = n ∧ XNew C sp (gV zs) H1 Q
theorem pe_xnewK {ks : List Str} {g : List Value → List Value} {gV : List V → List V} (T : Xc X.K C) (iC : PySem.W.findIn X.K (.ref C) "__init__" = some (some (.ref fI))) (tI : PySem.W.typeIn X.K (.ref fI) = some (.type "function"))
    (F1 : FnOk X.prog X.w X.K X.mg X.base CX k fI fd ps sp) (hr : Room (k + 1) X.A) (hbd : ∀ (s : Shared) (a : Addr) (ws : List Value), X.K.In s.heap → ws.length = ks.length → BindsTo s fd ⟨[Value.ref a], ks.zip ws⟩ (ps.zip (Value.ref a :: g ws)))
    (rel : ∀ {zs : List V} {ws : List Value}, Vals zs ws → Vals (gV zs) (g ws)) (hx : Passes CX X (fun _ _ _ => False)) (hg : Gl X x) (hm : X.mg x = some (.ref C)) (hkw : PK X kws tk)
    (hall : (backToKw pos (keywordEach kws X.env)).all (·.1.isSome) = true := by rfl) (hks : (backToKw pos (keywordEach kws X.env)).filterMap (·.1) = ks := by rfl) (hdb : (x == ("__debug__" : Str)) = false := by decide)
    (hpl : ((backTo pos (starEach [] X.env)).any (·.1) || (backToKw pos (keywordEach kws X.env)).any (·.1.isNone)) = false := by rfl) :
    PE X (.Call (.Name x p) [] kws pos) (tXnewK C sp ks.length gV tk) := by
  refine ⟨fun pins s σ H Q I h => ?_⟩
  refine wpAny_Call_Name_kw (ld_glob I hg hm ?_ hdb)
  refine PySem.W.callWith_KW0 (h₀ := X.base) I.ok.mod.kin T.kC hall ?_ hpl
  refine thn (hkw.run pos pins s σ H _ I h) fun ws s2 ⟨zs, H2, I2, rz, l2, q2⟩ => ⟨I2.kIn, ?_⟩
  rw [hks]
  exact run_xnew (us := []) T iC tI F1 hr hx (Nat.zero_le _) (fun s a kin => hbd s a ws kin (by rw [← rz.length]; exact l2)) I2 (rel rz) q2
end
/-! ### what the written part says, by one look -/
def xcB (K : PySem.W.Frag) (C : Addr) (bmB : List Value) (newId : String) : Bool :=
  PySem.W.excInitIn K C bmB newId && (PySem.W.hasDictIn K C && (decide (PySem.W.findIn K (.ref C) "__setattr__" = some (some (.builtin "object.__setattr__"))) && (decide (PySem.W.findIn K (.ref C) "__getattribute__" = some (some (.builtin "BaseException.__getattribute__"))) &&
  (decide (PySem.W.findIn K (.ref C) "__getattr__" = some none) && (decide (PySem.W.subIn K (.ref C) (.type "BaseException") = some true) && (decide (PySem.W.typeIn K (.ref C) = some (.type "type")) && (PySem.W.keepIn K (.ref C) &&
  (decide (PySem.W.findIn K (.ref C) "__class__" = some (some (.builtin "object.__class__"))) && (decide (PySem.W.specialIn K (.builtin "object.__class__") "__get__" = some (some (.builtin "getset_descriptor.__get__"))) &&
  (decide (PySem.W.takesIn K (.builtin "object.__class__") = some true) && decide (PySem.W.mroIn K C (.type "object") = some true)))))))))))
theorem band {a b : Bool} (h : (a && b) = true) : a = true ∧ b = true := Bool.and_eq_true_iff.mp h
theorem xc_of {K : PySem.W.Frag} {C : Addr} {B newId initId : String} {bmB : List Value} (FB : ExcBaseFacts B newId initId bmB) (SF : StoreFacts B bmB "object.__setattr__" "object") (h : xcB K C bmB newId = true) : Xc K C := by
  obtain ⟨h1, h⟩ := band h
  obtain ⟨h2, h⟩ := band h
  obtain ⟨h3, h⟩ := band h
  obtain ⟨h4, h⟩ := band h
  obtain ⟨h5, h⟩ := band h
  obtain ⟨h6, h⟩ := band h
  obtain ⟨h7, h⟩ := band h
  obtain ⟨h8, h⟩ := band h
  obtain ⟨h9, h⟩ := band h
  obtain ⟨h10, h⟩ := band h
  obtain ⟨h11, h12⟩ := band h
  refine ⟨?_, of_decide_eq_true h3, of_decide_eq_true h4, of_decide_eq_true h5, of_decide_eq_true h6, of_decide_eq_true h7, h8, h2, of_decide_eq_true h9, of_decide_eq_true h10, of_decide_eq_true h11, of_decide_eq_true h12⟩
  obtain ⟨cd0, hc0, hd0⟩ := PySem.W.any_some h2
  unfold PySem.W.excInitIn at h1
  split at h1
  · rename_i dd cd sl ho
    split at h1
    · rename_i C' bm k0 k1 k2 k3 n k5 hm hs
      simp only [Bool.and_eq_true, beq_iff_eq, Bool.not_eq_true'] at h1
      obtain ⟨⟨⟨rfl, rfl⟩, hdel⟩, ht⟩ := h1
      have hcl : PySem.W.clsIn K C' = some cd := by unfold PySem.W.clsIn; rw [ho] <;> rfl
      rw [hcl] at hc0
      have ec := Option.some.inj hc0
      rw [← ec] at hd0
      obtain ⟨nm, bs, mro, ns, qn, hd, sn, sub, ab, col, del⟩ := cd
      dsimp only at hm hdel hd0
      subst hm hdel hd0
      have hsl : sl = #[k0, k1, k2, k3, some (.builtin n), k5] := by
        obtain ⟨l⟩ := sl
        simp only at hs
        rw [hs]
      subst hsl
      exact ⟨nm, qn, ns, bs, bm, sn, sub, ab, col, dd, k0, k1, k2, k3, k5, B, n, initId, bmB, ho, FB, ⟨ht, SF.passes, SF.hasOwner⟩⟩
    · cases h1
  · cases h1
/-- the three bases -/
abbrev bmVE : List Value := [.type "ValueError", .type "Exception", .type "BaseException", .type "object"]
abbrev bmRE : List Value := [.type "RuntimeError", .type "Exception", .type "BaseException", .type "object"]
abbrev bmLE : List Value := [.type "LookupError", .type "Exception", .type "BaseException", .type "object"]
theorem xc_VE {K : PySem.W.Frag} {C : Addr} (h : xcB K C bmVE "ValueError.__new__" = true) : Xc K C := xc_of PySem.F.excBase_ValueError PySem.F.store_ValueError h
theorem xc_RE {K : PySem.W.Frag} {C : Addr} (h : xcB K C bmRE "RuntimeError.__new__" = true) : Xc K C := xc_of PySem.F.excBase_RuntimeError PySem.F.store_RuntimeError h
theorem xc_LE {K : PySem.W.Frag} {C : Addr} (h : xcB K C bmLE "LookupError.__new__" = true) : Xc K C := xc_of PySem.F.excBase_LookupError PySem.F.store_LookupError h
end L2

set_option Elab.async false
set_option linter.all false
set_option maxRecDepth 100000
set_option maxHeartbeats 4000000
/-! VxE: list + list where the left one may be the script; the state that draws leave -/
namespace L2
open PySem PySem.Spec PyProof.Rows
section
variable {X : Cx}
def rCatS (K : PySem.W.Frag) : R2 := fun x y H Q => ∃ l b xs zs, x = .ref l ∧ y = .ref b ∧ SqL K H l xs ∧ SqL K H b zs ∧ xs.length + zs.length ≤ sizeLine ∧ ∀ p, H p = none → Q (.ref p) (upd H p (.lst (xs ++ zs)))
theorem op_catS : OpR X (binaryOp .Add) (rCatS X.K) := by
  intro pins s σ H x y v u Q I rx ry h
  obtain ⟨l, b, xs, zs, rfl, rfl, hH, hB, hz, q⟩ := h
  cases rx
  cases ry
  obtain ⟨its, r, ⟨o, n, e, e1, e2, e3⟩, z⟩ := I.list hH
  obtain ⟨its2, r2, ⟨o2, n2, f, f1, f2, f3⟩, z2⟩ := I.list hB
  obtain ⟨c, d, dt, sl⟩ := o
  obtain ⟨c2, d2, dt2, sl2⟩ := o2
  dsimp only at e1 e2 e3 f1 f2 f3
  subst e1 e2 e3 f1 f2 f3
  have ea : its.toArray ++ its2.toArray = (its ++ its2).toArray := by simp
  refine concat_meets ⟨_, e, rfl⟩ ⟨_, f, rfl⟩ noFill_list_add seq_list_add PySem.F.slot_list_add PySem.F.entry_list_add (PySem.F.args_list_add_2 _ _) (list_addW l b its.toArray its2.toArray n n2 none none sl sl2 (by rw [List.size_toArray, List.size_toArray, ← r.length, ← r2.length]; exact hz)) ⟨e, f, ?_⟩
  rw [ea]
  exact ⟨.ref _, _, I.lnew (t' := s.toks) (r.append r2) (by rw [List.length_append]; exact hz), rfl, q _ I.fresh⟩
end
/-! ### draws -/
abbrev kCells : Key := Sum.inr "cells"
abbrev kAt : Key := Sum.inr "at"
abbrev kLeft : Key := Sum.inr "left"
abbrev kUsed : Key := Sum.inr "used"
def drawKv (l : Addr) (a b c : Int) : List (Key × V) := [(kCells, .ref l), (kAt, .int a), (kLeft, .int b), (kUsed, .int c)]
theorem dk_cells {l : Addr} {a b c : Int} : valV (drawKv l a b c) kCells = some (.ref l) := by kernel_rfl
theorem dk_at {l : Addr} {a b c : Int} : valV (drawKv l a b c) kAt = some (.int a) := by kernel_rfl
theorem dk_left {l : Addr} {a b c : Int} : valV (drawKv l a b c) kLeft = some (.int b) := by kernel_rfl
theorem dk_used {l : Addr} {a b c : Int} : valV (drawKv l a b c) kUsed = some (.int c) := by kernel_rfl
theorem dp_at {l : Addr} {a b c z : Int} : putK (drawKv l a b c) kAt (.int z) = drawKv l z b c := by kernel_rfl
theorem dp_left {l : Addr} {a b c z : Int} : putK (drawKv l a b c) kLeft (.int z) = drawKv l a z c := by kernel_rfl
theorem dp_used {l : Addr} {a b c z : Int} : putK (drawKv l a b c) kUsed (.int z) = drawKv l a b z := by kernel_rfl
/-- at p: the dict that the draws go on with; at most N draws are behind it -/
def DrawAt (H : Hp) (p : Addr) (N : Nat) : Prop := ∃ (l : Addr) (cs : List Int) (a b c : Int), H p = some (.dK (drawKv l a b c)) ∧ H l = some (.lst (cs.map V.int)) ∧ 0 < cs.length ∧ cs.length ≤ 64 ∧ 0 ≤ a ∧ a ≤ N ∧ 0 ≤ b ∧ 0 ≤ c ∧ c ≤ N
/-- all that was tracked but p stands -/
def Keep (p : Addr) (H H' : Hp) : Prop := ∀ c o, H c = some o → c ≠ p → H' c = some o
theorem Keep.refl {p : Addr} {H : Hp} : Keep p H H := fun _ _ e _ => e
theorem Keep.trans {p : Addr} {H H1 H2 : Hp} (a : Keep p H H1) (b : Keep p H1 H2) : Keep p H H2 := fun c o e n => b c o (a c o e n) n
theorem Keep.of {p : Addr} {H H' : Hp} (s : Same H H') : Keep p H H' := fun c o e _ => s c o e
theorem Keep.upd {p : Addr} {H : Hp} {o : HO} : Keep p H (upd H p o) := fun c o e n => by rw [upd_ne n]; exact e
theorem same_new {H : Hp} {p : Addr} {o : HO} (h : H p = none) : Same H (upd H p o) := fun c u e => by rw [upd_ne (ne_of_none e h)]; exact e
theorem DrawAt.same {H H' : Hp} {p : Addr} {N : Nat} (d : DrawAt H p N) (s : Same H H') : DrawAt H' p N := by
  obtain ⟨l, cs, a, b, c, h1, h2, r⟩ := d
  exact ⟨l, cs, a, b, c, s _ _ h1, s _ _ h2, r⟩
theorem DrawAt.ne {H : Hp} {p : Addr} {N : Nat} (d : DrawAt H p N) {q : Addr} {o : HO} (h : H q = some o) (n : ∀ kvs, o ≠ .dK kvs) : q ≠ p := by
  obtain ⟨l, cs, a, b, c, h1, _⟩ := d
  exact ne_of h h1 (n _)
theorem DrawAt.mono {H : Hp} {p : Addr} {N M : Nat} (d : DrawAt H p N) (h : N ≤ M) : DrawAt H p M := by
  obtain ⟨l, cs, a, b, c, h1, h2, r1, r2, r3, r4, r5, r6, r7⟩ := d
  exact ⟨l, cs, a, b, c, h1, h2, r1, r2, r3, by omega, r5, r6, by omega⟩
/-- the promises of the three defs -/
def spBegin (K : PySem.W.Frag) : Sp := fun vs H Q _ => ∃ (a : Addr) (ns : List Int), vs = [.ref a] ∧ SqL K H a (ns.map V.int) ∧ ns.length ≤ 63 ∧ ∀ p H', H p = none → Same H H' → DrawAt H' p 0 → Q (.ref p) H'
def spMixed : Sp := fun vs H Q _ => ∃ c k : Int, vs = [.int c, .int k] ∧ 0 ≤ k ∧ k < 1099511627776 ∧ ∀ r : Int, 0 ≤ r → r < 2147483648 → Q (.int r) H
def spNext : Sp := fun vs H Q _ => ∃ (p : Addr) (b : Int) (N : Nat), vs = [.ref p, .int b] ∧ DrawAt H p N ∧ N < 1000000000 ∧ 0 < b ∧ b < 1073741824 ∧ ∀ (r : Int) (H' : Hp), 0 ≤ r → r < b → DrawAt H' p (N + 1) → Keep p H H' → Q (.int r) H'
/-! ### facts behind the top: the facts of HeadHook2 and one look more -/
end L2
namespace He
open PySem PySem.Spec PyProof.Rows L2
def hookXe (n : Nat) (fa : List Fa) (fn : List DefD) (chk : PySem.W.Frag → Bool) : PySem.W.Hook where
  α := AlD × Bool
  obs := fun s => (obsD fa fn (frG s.heap.get? (asD s.heap.get? n)), chk (frG s.heap.get? (asD s.heap.get? n)))
  val := fun _ => (valD fn, true)
  says := fun _ h => ∃ K : PySem.W.Frag, K.In h ∧ SaysD fa fn K ∧ chk K = true
  of := fun _ _ e => ⟨_, frG_in, congrArg Prod.fst e, congrArg Prod.snd e⟩
  keeps := fun _ _ _ ⟨K, hK, c⟩ k => ⟨K, PySem.W.Frag.In.keeps hK k, c⟩
def obsXe (n : Nat) (fa : List Fa) (fn : List DefD) (chk : PySem.W.Frag → Bool) (g : Addr → Option Obj) : AlD × Bool := (obsD fa fn (frG g (asD g n)), chk (frG g (asD g n)))
theorem obsXe_eq {n : Nat} {fa : List Fa} {fn : List DefD} {chk : PySem.W.Frag → Bool} {g : Addr → Option Obj} {s : Shared} (h : ∀ a, g a = s.heap.get? a) : obsXe n fa fn chk g = (hookXe n fa fn chk).obs s := by
  have e : g = s.heap.get? := funext h
  rw [e] <;> rfl
end He

set_option Elab.async false
set_option linter.all false
set_option maxRecDepth 100000
set_option maxHeartbeats 4000000
/-! VxG: defs that are promised where nothing is being shown (no repr runs): FnG; their bodies, their calls; a law's end over them. -/
namespace L2
open PySem PySem.Spec PyProof.Rows
structure FnG (P : Program) (w : World) (K : PySem.W.Frag) (mg : Str → Option Value) (base : Heap) (CX : CXT) (k : Nat) (f : Addr) (fd : FuncData) (ps : List Str) (sp : Sp) : Prop where
  len : ∀ vs H Q E, sp vs H Q E → vs.length = ps.length
  run : ∀ (A : Around), A.guards = some [] → Room k A → ∀ (outer : List Env) (s : Shared) (H : Hp) (args : Args) (us : List Value) (vs : List V) (Q : VK) (E : XK), Env0 P w K mg base A outer s H → BindsTo s fd args (ps.zip us) → Vals vs us → sp vs H Q E →
    codeAny (model P w) A (.call (.ref f) args) (CR CX outer P w H s Q E) s
section
variable {P : Program} {w : World} {K : PySem.W.Frag} {mg : Str → Option Value} {base : Heap} {CX : CXT} {k : Nat} {f : Addr} {fd : FuncData} {N ps : List Str} {sp : Sp}
theorem FnOk.g (F : FnOk P w K mg base CX k f fd ps sp) : FnG P w K mg base CX k f fd ps sp := ⟨F.len, fun A _ hr outer s H args us vs Q E => F.run A outer s H args us vs Q E hr⟩
/-- such a def, by its body -/
theorem FunD.okG {x qual : Str} {params : Arguments} {body : List Stmt} {scope : Scope} {dvs : List V} {kws : List (Str × V)} (F : FunD K x qual params body scope dvs kws f fd) (S : FnScope N ps scope) (len : ∀ vs H Q E, sp vs H Q E → vs.length = ps.length)
    (hbody : ∀ (cdv : Value) (A : Around) (outer : List Env) (s : Shared) (H : Hp) (vs : List V) (Q : VK) (E : XK), (A.deeper (envOfC qual scope s.heap.objs.size f cdv)).guards = some [] → Room k (A.deeper (envOfC qual scope s.heap.objs.size f cdv)) → sp vs H Q E →
      ∃ t, PSs (cxOf CX P w K mg base N qual scope f cdv A outer s H E) body t ∧ t { nx := fun _ H' => Q .non H', rt := Q } (start N vs) H) : FnG P w K mg base CX (k + 1) f fd ps sp := by
  obtain ⟨oc, od, dV, kV, doc, pm, an, cdv, ct, osl, rfl, lk, hcd, _, _⟩ := F.ex
  refine ⟨len, fun A hgu hr outer s H args us vs Q E e0 hb r hsp => ?_⟩
  have kin : K.In s.heap := e0.mod.kin.keeps fun b o e => (e0.bs b o e).1
  have par : ∀ y ∈ ps.zip us, scope.names.lookup y.1 = some .local ∨ (scope.names.lookup y.1 = some .cell ∧ ((cellsFrom (s.heap.objs.size + 1) scope.names []).lookup y.1).isSome = true) := by
    intro y hy
    obtain ⟨n, v⟩ := y
    exact (S.par n (List.of_mem_zip hy).1).imp id fun q => ⟨q, PySem.W.cellsFrom_some _ _ _ (.inl q)⟩
  refine codeAny_call_function hr.depth (kin _ _ lk) rfl S.co S.gen rfl (PySem.W.codeRec_of kin hcd) (hb _ _ _ _ (wpAny_newFunctionEnv_cells S.kind par fun env he s1 x => ?_))
  subst he
  refine ⟨(e0.mod.nolimit.keeps fun b o e => (e0.bs b o e).1).keeps x.toInCall.keep, codeAny_func ?_⟩
  obtain ⟨t, ht, hq⟩ := hbody cdv A outer s H vs Q E hgu (hr.deeper _) hsp
  refine wpAny_mono (ht.run [] s1 (start N vs) H _ (inv_start S hr.hd e0 (len _ _ _ _ hsp) r x) hq) (fun fl s' hs => ?_) fun _ _ hs => hs
  cases fl with
  | ret u =>
    obtain ⟨v, _, H', J, rv, q⟩ := hs
    exact ⟨v, H', J.os, J.bare, J.base, J.hok, rv, q⟩
  | next =>
    obtain ⟨_, H', J, q⟩ := hs
    exact ⟨V.non, H', J.os, J.bare, J.base, J.hok, rfl, q⟩
  | brk => exact hs.elim fun _ z => z.elim fun _ z => z.2.elim
  | cont => exact hs.elim fun _ z => z.elim fun _ z => z.2.elim
end
section
variable {X : Cx} {CX : CXT} {k : Nat} {f : Addr} {fd : FuncData} {ps : List Str} {sp : Sp} {dvs : List V} {ds : List Value} {E : XK} {x : Str} {p pos : Pos} {e : Expr} {es : List Expr} {t : TA}
/-- f(e, ..) -/
theorem pe_callG (hgu : X.A.guards = some []) (F : FnG X.prog X.w X.K X.mg X.base CX k f fd ps sp) (hr : Room k X.A) (hg : Gl X x) (hm : X.mg x = some (.ref f)) (hk : PySem.W.keepIn X.K (.ref f) = true) (hb : Binds X.K fd ps ds) (hd : Vals dvs ds) (hx : Passes CX X E)
    (ha : PA X (e :: es) t) (hdb : (x == ("__debug__" : Str)) = false := by decide) (he : starEach (e :: es) X.env = (false, eval e X.env) :: starEach es X.env := by rfl) (hpl : (backTo pos (starEach es X.env)).any (·.1) = false := by rfl) :
    PE X (.Call (.Name x p) (e :: es) [] pos) (tCall sp dvs E t) := by
  refine ⟨fun pins s σ H Q I h => wpAny_Call_Name_kw (ld_glob I hg hm (PySem.W.callWith_K (h₀ := X.base) I.ok.mod.kin hk (thn (ha.run pos pins s σ H _ I h) fun us s1 z => ?_) he hpl) hdb)⟩
  obtain ⟨vs, H1, I1, r, q⟩ := z
  have r2 : Vals (vs ++ dvs) (us ++ ds) := r.append hd
  refine ⟨I1.kIn, wpAny_call (codeAny_mono (F.run X.A hgu hr X.stack s1 H1 ⟨us, []⟩ (us ++ ds) (vs ++ dvs) Q E I1.env0 (hb s1 us I1.kIn (r2.length.symm.trans (F.len _ _ _ _ q))) r2 q) fun rs s' hq => ?_)⟩
  cases rs with
  | error er => exact hx pins σ H1 s1 er s' I1 hq
  | ok fl =>
    cases fl with
    | ret u => exact I1.after hq
    | next => exact hq.elim
    | brk => exact hq.elim
    | cont => exact hq.elim
end
/-- the script, tracked as the list that it is -/
def onlyAt (a : Addr) (o : Obj) (xs : List V) : Hp := fun b => if b = a then some (.frz o (.lst xs)) else none
/-- a law's end: its def is promised where nothing is being shown -/
theorem law_callG {P : Program} {w : World} {K : PySem.W.Frag} {mg mb : Str → Option Value} {k : Nat} {fa a : Addr} {fd : FuncData} {x : Str} {sp : Sp} {s₁ : Shared} {vs : List Value} {ns : List Int}
    (kin : K.In s₁.heap) (hns : s₁.heap.Ns mainGlobals mg) (hb : s₁.heap.Ns builtinsNs mb) (hbb : ∀ x : Str, x ≠ "__name__" → mb x = bootBuiltins x) (hlim : s₁.heap.NoLimit) (hg : s₁.gens = #[])
    (ha : s₁.heap.get? a = some { cls := .type "list", data := .seq vs.toArray }) (hi : IntsAre vs ns) (hl : ns.length ≤ sizeLine) (hr : Room k callerA)
    (F : ∀ base : Heap, K.In base → base.Ns mainGlobals mg → FnG P w K mg base CX0 k fa fd [x] sp) (hbind : ∀ (s : Shared) (u : Value), BindsTo s fd ⟨[u], []⟩ [(x, u)])
    (hsp : ∀ H : Hp, Only H → SqL K H a (ns.map V.int) → sp [.ref a] H (fun v _ => v = .bl true) fun _ _ _ => False) :
    codeAny (model P w) callerA (.call (.ref fa) ⟨[.ref a], []⟩) (fun r s' => r = .ok (.ret (.bool true)) ∧ OldK s₁.heap s'.heap ∧ s'.os = s₁.os ∧ AllBare s'.gens) s₁ := by
  have rv : Vals (ns.map V.int) vs := vals_ints hi
  have key : ∀ H : Hp, Only H → SqL K H a (ns.map V.int) → HOk P w H s₁.heap → (∀ b, H b ≠ none → b = a) → (H a ≠ none → K.lookup a = none) →
      codeAny (model P w) callerA (.call (.ref fa) ⟨[.ref a], []⟩) (fun r s' => r = .ok (.ret (.bool true)) ∧ OldK s₁.heap s'.heap ∧ s'.os = s₁.os ∧ AllBare s'.gens) s₁ := by
    intro H hO hS hok only hK
    have free : ∀ b, b ≠ a → H b = none := fun b nb => by
      cases q : H b with
      | none => rfl
      | some u => exact absurd (only b (by rw [q]; exact fun z => nomatch z)) nb
    have dictNe : ∀ {b : Addr} {o : Obj} {es : Array DictEntry} {ep : Nat}, s₁.heap.get? b = some o → o.data = .dict es ep → b ≠ a := fun {b o es ep} e d z => by
      rw [z, ha] at e
      have eo := Option.some.inj e
      rw [← eo] at d
      exact nomatch (show Data.seq vs.toArray _ = Data.dict es ep from d)
    have nsK : ∀ {b : Addr} {m : Str → Option Value}, s₁.heap.Ns b m → (hidT s₁.heap H).Ns b m := fun {b m} z => by
      obtain ⟨o, es, ep, e, d, r⟩ := z
      exact ⟨o, es, ep, hidT_get e (free b (dictNe e d)), d, r⟩
    have kinB : K.In (hidT s₁.heap H) := fun b o e => hidT_get (kin b o e) (by
      by_cases nb : b = a
      · cases q : H b with
        | none => rfl
        | some u =>
          have z := hK (by rw [← nb, q]; exact fun z => nomatch z)
          rw [← nb, e] at z
          cases z
      · exact free b nb)
    have md : Mod K mg (hidT s₁.heap H) := ⟨kinB, nsK hns, ⟨mb, nsK hb, hbb⟩, by
      obtain ⟨mc, h1, h2⟩ := hlim
      exact ⟨mc, nsK h1, h2⟩⟩
    have e0 : Env0 P w K mg (hidT s₁.heap H) callerA [] s₁ H := ⟨rfl, md, fun b o e => of_hidT e, Nat.le_of_eq (hidT_size _ _), trivial, fun b z => (List.not_mem_nil z).elim, hok, .of_eq hg⟩
    refine codeAny_mono ((F _ kinB (nsK hns)).run callerA rfl hr [] s₁ H ⟨[.ref a], []⟩ [.ref a] [.ref a] _ _ e0 (hbind s₁ (.ref a)) (.cons rfl .nil) (hsp H hO hS)) fun r s' h => ?_
    cases r with
    | error e => exact False.elim h
    | ok fl =>
      cases fl with
      | next => exact False.elim h
      | brk => exact False.elim h
      | cont => exact False.elim h
      | ret u =>
        obtain ⟨v, H', os, bare, un, hok', r', q⟩ := h
        have ev : v = .bl true := q
        rw [ev] at r'
        have eu : u = Value.bool true := r'
        rw [eu]
        refine ⟨rfl, OldK.of_keep fun b o e => ?_, os, bare⟩
        rcases hO b with z | ⟨ob, xs, z⟩
        · exact un.keep b o e z (fun y => (List.not_mem_nil y).elim) (fun y => (List.not_mem_nil y).elim)
        · have e1 := (hok b _ z).1
          have e2 := (hok' b _ (un.frzs b ob _ z)).1
          rw [e] at e1
          rw [Option.some.inj e1]
          exact e2
  cases hk : K.lookup a with
  | some o =>
    have e := kin a o hk
    rw [ha] at e
    have eo := Option.some.inj e
    refine key (fun _ => none) (fun _ => .inl rfl) (.inr ⟨o, vs.toArray, _, hk, by rw [← eo], by rw [← eo], by rw [← eo], by rw [List.size_toArray, hi.length]; exact hl, by simpa using rv⟩) (fun b u z => nomatch (show (none : Option HO) = some u from z)) (fun b z => absurd rfl z) fun z => absurd rfl z
  | none =>
    have at_ : onlyAt a { cls := .type "list", data := .seq vs.toArray } (ns.map V.int) a = some (.frz { cls := .type "list", data := .seq vs.toArray } (.lst (ns.map V.int))) := if_pos rfl
    have off : ∀ b, b ≠ a → onlyAt a { cls := .type "list", data := .seq vs.toArray } (ns.map V.int) b = none := fun b nb => if_neg nb
    refine key (onlyAt a { cls := .type "list", data := .seq vs.toArray } (ns.map V.int)) (fun b => ?_) (.inl (.inr ⟨_, at_⟩)) (fun b u z => ?_) (fun b z => ?_) fun _ => hk
    · by_cases nb : b = a
      · exact .inr ⟨_, _, by rw [nb]; exact at_⟩
      · exact .inl (off b nb)
    · by_cases nb : b = a
      · subst nb
        rw [at_] at z
        have ez := Option.some.inj z
        subst ez
        exact ⟨ha, by rw [List.length_map]; exact hl, vs, _, rv, ha⟩
      · rw [off b nb] at z
        cases z
    · by_cases nb : b = a
      · exact nb
      · exact absurd (off b nb) z
theorem walk_ofG {l : PySem.W.OpenLaw} {n k : Nat} {q : Program} {loose : List Str} {XP : (Str → Option Value) → Heap → Prop} {YP : World → Heap → Prop} {d : DefRec} {x : Str}
    (hn : l.most = some n) (hn2 : n ≤ sizeLine) (hdf : d.params.defaults = []) (hr : Room k callerA)
    (F : ∀ (w : World) (mg : Str → Option Value) (fa : Addr) (h : Heap), YP w h → h.Ns mainGlobals mg → mg d.name = some (.ref fa) →
      ∃ (K : PySem.W.Frag) (fd : FuncData) (sp : Sp), K.In h ∧ (∀ (s : Shared) (u : Value), BindsTo s fd ⟨[u], []⟩ [(x, u)]) ∧
        (∀ (H : Hp) (a : Addr) (ns : List Int), ns.length ≤ n → Only H → SqL K H a (ns.map V.int) → sp [.ref a] H (fun v _ => v = .bl true) fun _ _ _ => False) ∧
        ∀ base : Heap, K.In base → base.Ns mainGlobals mg → FnG l.prog w K mg base CX0 k fa fd [x] sp) :
    PySem.W.WalkO q loose XP YP l.row.toRowW d [] (fun f vs => PySem.call f vs) :=
  Att.attach_call hn hdf fun w s₀ s₁ mg mb fa o pm cd doc a vs ns G Y ho hd hcd hmg hobj hints hlen hg => by
    obtain ⟨K, fd, sp, kin, hb, hsp, hF⟩ := F w mg fa _ Y G.T.g hmg
    exact law_callG kin G.T.g G.T.b G.T.builtins G.T.nolimit hg hobj hints (Nat.le_trans hlen hn2) hr hF hb fun H hO hS => hsp H a ns hlen hO hS
/-! ### repr -/
/-- what a value says of itself: None, bools, ints, texts, lists, tuples of these, an empty dict -/
inductive Sw (K : PySem.W.Frag) (H : Hp) : V → PyData → Prop
  | non : Sw K H .non .none
  | bl (b : Bool) : Sw K H (.bl b) (.bool b)
  | int (i : Int) : Sw K H (.int i) (.int i)
  | str (x : Str) : Sw K H (.str x) (.str x)
  | emp {a : Addr} : H a = some (.dK []) → Sw K H (.ref a) (.dict [])
end L2

set_option Elab.async false
set_option linter.all false
set_option maxRecDepth 100000
set_option maxHeartbeats 4000000
/-! VxR: repr of values that are data: None, bools, ints, texts, lists and tuples of these, dicts of no or one entry. -/
namespace L2
open PySem PySem.Spec PyProof.Rows
/-- the written part holds sys.modules, which is a dict -/
def SysK (K : PySem.W.Frag) : Prop := ∃ (o : Obj) (es : Array DictEntry) (n : Nat), K.lookup sysModules = some o ∧ o.data = .dict es n
def sysB (K : PySem.W.Frag) : Bool := match K.lookup sysModules with
  | some ⟨_, _, .dict _ _, _⟩ => true
  | _ => false
theorem sys_of {K : PySem.W.Frag} (h : sysB K = true) : SysK K := by
  unfold sysB at h
  split at h
  · rename_i es n sl e
    exact ⟨_, _, _, e, rfl⟩
  · cases h
def keyD : Key → PyData
  | .inl i => .int i
  | .inr x => .str x
mutual
inductive Sd (K : PySem.W.Frag) (H : Hp) : V → PyData → Prop
  | non : Sd K H .non .none
  | bl (b : Bool) : Sd K H (.bl b) (.bool b)
  | int (i : Int) : Sd K H (.int i) (.int i)
  | str (x : Str) : Sd K H (.str x) (.str x)
  | lst {a : Addr} {xs : List V} {ds : List PyData} : SqL K H a xs → SdAll K H xs ds → Sd K H (.ref a) (.list ds)
  | tup {a : Addr} {xs : List V} {ds : List PyData} : SqT K H a xs → SdAll K H xs ds → Sd K H (.ref a) (.tuple ds)
  | emp {a : Addr} : H a = some (.dK []) → Sd K H (.ref a) (.dict [])
  | one {a : Addr} {k : Key} {v : V} {d : PyData} : H a = some (.dK [(k, v)]) → Sd K H v d → Sd K H (.ref a) (.dict [(keyD k, d)])
inductive SdAll (K : PySem.W.Frag) (H : Hp) : List V → List PyData → Prop
  | nil : SdAll K H [] []
  | cons {v : V} {vs : List V} {d : PyData} {ds : List PyData} : Sd K H v d → SdAll K H vs ds → SdAll K H (v :: vs) (d :: ds)
end
section
variable {K : PySem.W.Frag} {H H' : Hp}
theorem SqL.same' {a : Addr} {xs : List V} (s : Same H H') (h : SqL K H a xs) : SqL K H' a xs := s.seq h
mutual
theorem Sd.same (s : Same H H') (st : ∀ {a : Addr} {xs : List V}, SqT K H a xs → SqT K H' a xs) : ∀ {v : V} {d : PyData}, Sd K H v d → Sd K H' v d
  | _, _, .non => .non
  | _, _, .bl b => .bl b
  | _, _, .int i => .int i
  | _, _, .str x => .str x
  | _, _, .lst h a => .lst (s.seq h) (SdAll.same s st a)
  | _, _, .tup h a => .tup (st h) (SdAll.same s st a)
  | _, _, .emp h => .emp (s _ _ h)
  | _, _, .one h a => .one (s _ _ h) (Sd.same s st a)
theorem SdAll.same (s : Same H H') (st : ∀ {a : Addr} {xs : List V}, SqT K H a xs → SqT K H' a xs) : ∀ {vs : List V} {ds : List PyData}, SdAll K H vs ds → SdAll K H' vs ds
  | _, _, .nil => .nil
  | _, _, .cons h a => .cons (Sd.same s st h) (SdAll.same s st a)
end
end
section
variable {X : Cx} {pins : List (Addr × Obj)} {σ : St} {H : Hp} {s : Shared}
theorem sys_free (S : SysK X.K) (I : Inv X pins σ H s) : H sysModules = none := by
  obtain ⟨o, es, n, hk, _⟩ := S
  exact (I.bs _ _ (I.ok.mod.kin _ _ hk)).2
theorem sys_list (S : SysK X.K) (I : Inv X pins σ H s) {a : Addr} {o : Obj} {its : Array Value} {n : Nat} (e : s.heap.get? a = some o) (d : o.data = .seq its n) : a ≠ sysModules := by
  obtain ⟨o2, es, n2, hk, hd⟩ := S
  intro z
  rw [z, I.kIn _ _ hk] at e
  rw [← Option.some.inj e, hd] at d
  cases d
mutual
theorem Sd.reads (S : SysK X.K) (I : Inv X pins σ H s) : ∀ (d : PyData) (v : V) (u : Value), Sd X.K H v d → RelV v u → ∃ as, Reads s.heap u d as ∧ sysModules ∉ as
  | .none, _, _, h, r => by
    cases h
    cases r
    exact ⟨_, Reads.none, List.not_mem_nil⟩
  | .bool b, _, _, h, r => by
    cases h
    cases r
    exact ⟨_, Reads.bool b, List.not_mem_nil⟩
  | .int i, _, _, h, r => by
    cases h
    obtain ⟨t, rfl⟩ := r
    exact ⟨_, Reads.int i t, List.not_mem_nil⟩
  | .str x, _, _, h, r => by
    cases h
    obtain ⟨t, rfl⟩ := r
    exact ⟨_, Reads.str x t, List.not_mem_nil⟩
  | .list ds, _, _, h, r => by
    cases h with
    | lst hs ha =>
      cases r
      obtain ⟨its, rv, ⟨o, n, ho, hc, _, hd⟩, _⟩ := I.list hs
      obtain ⟨as, hr, hn⟩ := SdAll.reads S I ds _ its ha rv
      exact ⟨_, Reads.list ho hc hd hr, fun m => (List.mem_cons.mp m).elim (fun z => sys_list S I ho hd z.symm) hn⟩
  | .tuple ds, _, _, h, r => by
    cases h with
    | tup hs ha =>
      cases r
      obtain ⟨its, rv, ⟨o, ho, hc, n, hd⟩, _⟩ := I.tuple hs
      obtain ⟨as, hr, hn⟩ := SdAll.reads S I ds _ its ha rv
      exact ⟨_, Reads.tuple ho hc hd hr, hn⟩
  | .dict [], _, _, h, r => by
    cases h with
    | emp ha =>
      cases r
      obtain ⟨_, hsy, vs, kv, o, es, ep, ho, hx, hd, _, hp, _⟩ := I.hok _ _ ha
      cases kv
      have e0 : es.toList = [] := by
        generalize es.toList = l at hp
        cases hp
        rfl
      exact ⟨_, Reads.dict ho hx.1 hd (by rw [e0]; exact .nil) (by rw [e0]; exact .nil), fun m => by
        rcases List.mem_append.mp m with m | m
        · rcases List.mem_cons.mp m with z | z
          · rw [z] at hsy
            simp at hsy
          · exact (List.not_mem_nil z)
        · exact (List.not_mem_nil m)⟩
  | .dict [(kd, d)], _, _, h, r => by
    cases h with
    | @one a k v _ ha hv =>
      cases r
      obtain ⟨_, hsy, vs, kv, o, es, ep, ho, hx, hd, _, hp, _⟩ := I.hok _ _ ha
      cases kv with
      | @cons _ q _ _ h1 h2 =>
        cases h2
        obtain ⟨e1, rv⟩ := h1
        obtain ⟨as, hr, hn⟩ := Sd.reads S I d v q.2 hv rv
        obtain ⟨en, ek, ev, e0⟩ : ∃ en : DictEntry, (mixKind X.prog X.w).is q.1 en.key = true ∧ en.val = q.2 ∧ es.toList = [en] := by
          generalize es.toList = l at hp
          cases hp with
          | cons a1 a2 a3 =>
            cases a3
            exact ⟨_, a1, a2, rfl⟩
        have hk : ∃ as, Reads s.heap en.key (keyD k) as ∧ as = [] := by
          have e1' : k = q.1 := e1
          rw [e1']
          rcases keyIs_shape (show keyIs q.1 en.key = true from ek) with ⟨i, t, z1, z2⟩ | ⟨x, t, z1, z2⟩
          · rw [z1, z2]
            exact ⟨_, Reads.int i t, rfl⟩
          · rw [z1, z2]
            exact ⟨_, Reads.str x t, rfl⟩
        obtain ⟨bs, hb, rfl⟩ := hk
        exact ⟨_, Reads.dict ho hx.1 hd (by rw [e0]; exact .cons hb .nil) (by rw [e0]; exact .cons (as := as) (by show Reads s.heap en.val d as; rw [ev]; exact hr) .nil), fun m => by
          rcases List.mem_append.mp m with m | m
          · rcases List.mem_cons.mp m with z | z
            · rw [z] at hsy
              simp at hsy
            · exact (List.not_mem_nil z)
          · rw [List.append_nil] at m
            exact hn m⟩
  | .dict (_ :: _ :: _), _, _, h, _ => by cases h
theorem SdAll.reads (S : SysK X.K) (I : Inv X pins σ H s) : ∀ (ds : List PyData) (vs : List V) (us : List Value), SdAll X.K H vs ds → Vals vs us → ∃ as, ReadsAll s.heap us ds as ∧ sysModules ∉ as
  | [], _, _, h, r => by
    cases h
    cases r
    exact ⟨_, ReadsAll.nil, List.not_mem_nil⟩
  | d :: ds, _, _, h, r => by
    cases h with
    | cons h1 h2 =>
      cases r with
      | cons r1 r2 =>
        obtain ⟨as, q1, n1⟩ := Sd.reads S I d _ _ h1 r1
        obtain ⟨bs, q2, n2⟩ := SdAll.reads S I ds _ _ h2 r2
        exact ⟨_, ReadsAll.cons q1 q2, fun m => (List.mem_append.mp m).elim n1 n2⟩
end
end
/-- repr(v) -/
def rRepr (K : PySem.W.Frag) : List V → Hp → VK → Prop := fun xs H Q => ∃ (v : V) (d : PyData), xs = [v] ∧ Sd K H v d ∧ d.showable = true ∧ d.depth ≤ 40 ∧ d.shown.length ≤ sizeLine ∧ Q (.str d.shown) H
theorem call_repr {X : Cx} {k : Nat} (hgu : X.A.guards = some []) (hr : Room k X.A) (S : SysK X.K) : CallR X (.builtin "repr") (rRepr X.K) := by
  intro pins s σ H xs us Q I r h
  obtain ⟨v, d, rfl, hv, hs, hd, hz, q⟩ := h
  obtain ⟨u, rfl, ru⟩ := vals1 r
  obtain ⟨as, hr1, hn⟩ := Sd.reads S I d v u hv ru
  have fin : ∀ (h' : Heap) (t tk : Nat), (∀ b o, s.heap.get? b = some o → h'.get? b = some o) → EP X pins σ Q (.str d.shown t) { s with heap := h', toks := tk } := fun h' t tk kp => ⟨.str d.shown, H, I.kept (t' := tk) kp, ⟨t, rfl⟩, q⟩
  have ref : ∀ a, u = .ref a → wpAny (model X.prog X.w) X.A (call (.builtin "repr") [u]) (EP X pins σ Q) X.xe s := fun a e => by
    subst e
    exact repr_of_reads' hr1 hs (fun _ => hn) hgu (by have := hr.un; omega) (fun _ _ e => e) (fun h' t tk kp => fin h' t tk kp) hz
  cases hr1 with
  | none =>
    have q' : Q (.str "None") H := by
      have z := q
      simp only [PyData.shown] at z
      exact z
    exact PySem.P.repr_of_none ⟨.str "None", H, I.tok _, ⟨_, rfl⟩, q'⟩
  | bool b =>
    have q' : Q (.str (if b then "True" else "False")) H := by
      have z := q
      simp only [PyData.shown] at z
      cases b <;> exact z
    cases b
    · exact PySem.P.repr_of_bool ⟨.str "False", H, I.tok _, ⟨_, rfl⟩, q'⟩
    · exact PySem.P.repr_of_bool ⟨.str "True", H, I.tok _, ⟨_, rfl⟩, q'⟩
  | int i t =>
    have q' : Q (.str (toString i)) H := by
      have z := q
      simp only [PyData.shown] at z
      exact z
    exact PySem.P.repr_of_int (by simpa [PyData.showable] using hs) ⟨.str (toString i), H, I.tok _, ⟨_, rfl⟩, q'⟩
  | str x t =>
    have q' : Q (.str (reprText x)) H := by
      have z := q
      simp only [PyData.shown] at z
      exact z
    exact PySem.P.repr_of_str ⟨.str (reprText x), H, I.tok _, ⟨_, rfl⟩, q'⟩ (by simpa only [PyData.shown] using hz)
  | list _ _ _ _ => exact ref _ rfl
  | tuple _ _ _ _ => exact ref _ rfl
  | dict _ _ _ _ _ => exact ref _ rfl
/-! ### a bound of what is shown -/
mutual
def wt : PyData → Nat
  | .none => 4
  | .bool _ => 5
  | .int _ => 1921
  | .str x => (reprText x).length
  | .list xs => wtAll xs + 2
  | .tuple xs => wtAll xs + 3
  | .dict kvs => wtKv kvs + 2
def wtAll : List PyData → Nat
  | [] => 0
  | x :: xs => wt x + 2 + wtAll xs
def wtKv : List (PyData × PyData) → Nat
  | [] => 0
  | (k, v) :: r => wt k + wt v + 4 + wtKv r
end
theorem listText_le (ts : List Str) : (listText ts).length ≤ piled ts + 2 := by
  cases ts with
  | nil => decide
  | cons t r =>
    have h1 : (listText (t :: r)).length = (textFrom 1 (("[" : Str) ++ (if (0 : Nat) > 0 then ", " else "" : String) ++ t) r).length + 1 := by
      show (textFrom 0 "[" (t :: r) ++ "]").length = _
      rw [strLen_append]
      rfl
    have h2 := textFrom_length_pos r 1 (("[" : Str) ++ (if (0 : Nat) > 0 then ", " else "" : String) ++ t) (Nat.succ_pos 0)
    have h3 : (("[" : Str) ++ (if (0 : Nat) > 0 then ", " else "" : String) ++ t).length = 1 + t.length := by
      rw [strLen_append, strLen_append]
      rfl
    rw [h1, h2, h3, piled_cons]
    omega
theorem join_le (ts : List Str) : (Str.join ", " ts).length ≤ piled ts := by
  by_cases h : ts = []
  · subst h
    decide
  · have := join_length_add ts h
    omega
theorem tupleText_le (ts : List Str) : (tupleText ts).length ≤ piled ts + 3 := by
  unfold tupleText
  rw [strLen_append, strLen_append]
  have e1 : ((("(" : String) : Str)).length = 1 := rfl
  have e3 : (((if ts.length == 1 then ",)" else ")" : String) : Str)).length ≤ 2 := by split <;> decide
  have := join_le ts
  omega
theorem dictText_le (ts : List Str) : (dictText ts).length ≤ piled ts + 2 := by
  unfold dictText
  rw [strLen_append, strLen_append]
  have e1 : ((("{" : String) : Str)).length = 1 := rfl
  have e2 : ((("}" : String) : Str)).length = 1 := rfl
  have := join_le ts
  omega
mutual
theorem shown_le : ∀ d : PyData, d.showable = true → d.shown.length ≤ wt d
  | .none, _ => by simp only [PyData.shown, wt]; decide
  | .bool b, _ => by cases b <;> simp only [PyData.shown, wt] <;> decide
  | .int i, h => by
    simp only [PyData.shown, wt]
    exact int_text_len_1921 (by simpa [PyData.showable] using h)
  | .str x, _ => by simp only [PyData.shown, wt]; exact Nat.le_refl _
  | .list xs, h => by
    simp only [PyData.shown, wt]
    have h1 := shownAll_le xs (by simpa [PyData.showable] using h)
    have := listText_le (PyData.shownAll xs)
    omega
  | .tuple xs, h => by
    simp only [PyData.shown, wt]
    have h1 := shownAll_le xs (by simpa [PyData.showable] using h)
    have := tupleText_le (PyData.shownAll xs)
    omega
  | .dict kvs, h => by
    simp only [PyData.shown, wt]
    have h1 := shownKv_le kvs (by simpa [PyData.showable] using h)
    have := dictText_le (PyData.shownKv kvs)
    omega
theorem shownAll_le : ∀ xs : List PyData, PyData.showableAll xs = true → piled (PyData.shownAll xs) ≤ wtAll xs
  | [], _ => by simp only [PyData.shownAll, wtAll]; decide
  | x :: xs, h => by
    have h' : x.showable = true ∧ PyData.showableAll xs = true := by simpa [PyData.showableAll] using h
    simp only [PyData.shownAll, wtAll]
    rw [piled_cons]
    have h1 := shown_le x h'.1
    have h2 := shownAll_le xs h'.2
    omega
theorem shownKv_le : ∀ kvs : List (PyData × PyData), PyData.showableKv kvs = true → piled (PyData.shownKv kvs) ≤ wtKv kvs
  | [], _ => by simp only [PyData.shownKv, wtKv]; decide
  | (k, v) :: r, h => by
    have h' : (k.showable = true ∧ v.showable = true) ∧ PyData.showableKv r = true := by simpa [PyData.showableKv] using h
    simp only [PyData.shownKv, wtKv]
    rw [piled_cons, strLen_append, strLen_append]
    have h1 := shown_le k h'.1.1
    have h2 := shown_le v h'.1.2
    have h3 := shownKv_le r h'.2
    have e : (((": " : String) : Str)).length = 2 := rfl
    omega
end
theorem shown_fits {d : PyData} (h : d.showable = true) (h2 : wt d ≤ sizeLine) : d.shown.length ≤ sizeLine := Nat.le_trans (shown_le d h) h2
end L2

set_option Elab.async false
set_option linter.all false
set_option maxRecDepth 100000
set_option maxHeartbeats 4000000
/-! VxX: the classes of errors of a program, each with an __init__ that stores its one or two fields; lists of new errors, lists of isinstance. -/
namespace L2
open PySem PySem.Spec PyProof.Rows
theorem PE.imp {X : Cx} {e : Expr} {t t' : TE} (h : PE X e t) (i : ∀ σ H Q, t' σ H Q → t σ H Q) : PE X e t' := ⟨fun pins s σ H Q I q => h.run pins s σ H Q I (i σ H Q q)⟩
theorem PA.imp {X : Cx} {es : List Expr} {t t' : TA} (h : PA X es t) (i : ∀ σ H Q, t' σ H Q → t σ H Q) : PA X es t' := ⟨fun pos pins s σ H Q I q => h.run pos pins s σ H Q I (i σ H Q q)⟩
theorem Same.refl' {H : Hp} : Same H H := fun _ _ e => e
theorem Same.tr {H H1 H2 : Hp} (a : Same H H1) (b : Same H1 H2) : Same H H2 := fun c o e => b c o (a c o e)
/-- self.f = v -/
def spIni (C : Addr) (f : Str) : Sp := fun vs H Q _ => ∃ (a : Addr) (v : V), vs = [.ref a, v] ∧ H a = some (exo a C none) ∧ ∀ dx, H dx = none → dx ≠ a → Q .non (upd (upd H dx (exd dx [(f, v)])) a (exo a C (some dx)))
/-- self.f = v; self.g = u -/
def spIni2 (C : Addr) (f g : Str) : Sp := fun vs H Q _ => ∃ (a : Addr) (v u : V), vs = [.ref a, v, u] ∧ H a = some (exo a C none) ∧ ∀ dx, H dx = none → dx ≠ a →
  Q .non (upd (upd (upd H dx (exd dx [(f, v)])) a (exo a C (some dx))) dx (exd dx [(g, u), (f, v)]))
theorem xnew1 {C : Addr} {f : Str} {v : V} {H : Hp} {Q : VK} (h : ∀ a H', H a = none → Same H H' → ExAt H' a C [(f, v)] → Q (.ref a) H') : XNew C (spIni C f) [v] H Q := fun a ha => by
  refine ⟨a, v, rfl, upd_same, fun dx n ne => ⟨rfl, dx, [(f, v)], upd_same, (by rw [upd_ne ne, upd_same]), ?_⟩⟩
  have hd : H dx = none := by rw [← n, upd_ne ne]
  refine h a _ ha (fun b o e => ?_) ⟨dx, ?_, upd_same⟩
  · rw [upd_ne (ne_of_none e hd), upd_ne (ne_of_none e ha), upd_ne (ne_of_none e ha), upd_ne (ne_of_none e hd), upd_ne (ne_of_none e ha)]
    exact e
  · rw [upd_ne ne.symm, upd_same]
theorem xnew2 {C : Addr} {f g : Str} {v u : V} {H : Hp} {Q : VK} (h : ∀ a H', H a = none → Same H H' → ExAt H' a C [(g, u), (f, v)] → Q (.ref a) H') : XNew C (spIni2 C f g) [v, u] H Q := fun a ha => by
  refine ⟨a, v, u, rfl, upd_same, fun dx n ne => ⟨rfl, dx, [(g, u), (f, v)], (by rw [upd_ne ne.symm, upd_same]), upd_same, ?_⟩⟩
  have hd : H dx = none := by rw [← n, upd_ne ne]
  refine h a _ ha (fun b o e => ?_) ⟨dx, ?_, upd_same⟩
  · rw [upd_ne (ne_of_none e hd), upd_ne (ne_of_none e ha), upd_ne (ne_of_none e hd), upd_ne (ne_of_none e ha), upd_ne (ne_of_none e hd), upd_ne (ne_of_none e ha)]
    exact e
  · rw [upd_ne ne.symm, upd_same]
/-- one class: its name, its field -/
structure XK1 (P : Program) (w : World) (K : PySem.W.Frag) (mg : Str → Option Value) (base : Heap) (x f : Str) (C : Addr) : Prop where
  T : Xc K C
  hm : mg x = some (.ref C)
  no : PySem.W.findIn K (.ref C) f = some none
  ex : ∃ (fI : Addr) (fd : FuncData), PySem.W.findIn K (.ref C) "__init__" = some (some (.ref fI)) ∧ PySem.W.typeIn K (.ref fI) = some (.type "function") ∧ FnOk P w K mg base CX0 1 fI fd ["self", f] (spIni C f) ∧ Binds K fd ["self", f] [] ∧
    ∀ (s : Shared) (a : Addr) (ws : List Value), K.In s.heap → ws.length = 1 → BindsTo s fd ⟨[Value.ref a], [f].zip ws⟩ ((["self", f] : List Str).zip (Value.ref a :: ws))
/-- a class with two fields -/
structure XK2 (P : Program) (w : World) (K : PySem.W.Frag) (mg : Str → Option Value) (base : Heap) (x f g : Str) (C : Addr) : Prop where
  T : Xc K C
  hm : mg x = some (.ref C)
  no : PySem.W.findIn K (.ref C) f = some none
  no2 : PySem.W.findIn K (.ref C) g = some none
  ex : ∃ (fI : Addr) (fd : FuncData), PySem.W.findIn K (.ref C) "__init__" = some (some (.ref fI)) ∧ PySem.W.typeIn K (.ref fI) = some (.type "function") ∧ FnOk P w K mg base CX0 1 fI fd ["self", f, g] (spIni2 C f g) ∧ Binds K fd ["self", f, g] [] ∧
    ∀ (s : Shared) (a : Addr) (ws : List Value), K.In s.heap → ws.length = 2 → BindsTo s fd ⟨[Value.ref a], [g, f].zip ws⟩ ((["self", f, g] : List Str).zip (Value.ref a :: ws.reverse))
/-- a new error of the class at C with the fields fs of the i-th slot's value -/
def tX1 (C : Addr) (fs : V → List (Str × V)) (i : Nat) : TE := fun σ H Q => ∃ v, σ[i]? = some (some v) ∧ ∀ a H', H a = none → Same H H' → ExAt H' a C (fs v) → Q (.ref a) H'
section
variable {X : Cx} {x f g : Str} {C : Addr} {p pos kp kp2 : Pos} {e e2 : Expr} {i : Nat} {z : Str} {ci : Int} {j1 j2 : Nat} {q1 q2 : Pos}
/-- C(name) -/
theorem pe_x1 (B : XK1 X.prog X.w X.K X.mg X.base x f C) (hr : Room 2 X.A) (hg : Gl X x) (he : PE X e (tVar i)) (hdb : (x == ("__debug__" : Str)) = false := by decide) (hs : starEach [e] X.env = (false, eval e X.env) :: starEach [] X.env := by rfl) :
    PE X (.Call (.Name x p) [e] [] pos) (tX1 C (fun v => [(f, v)]) i) := by
  obtain ⟨fI, fd, i1, i2, F, b, _⟩ := B.ex
  refine PE.imp (pe_xnew B.T i1 i2 F hr b pass0 hg B.hm (pa_cons he pa_nil hs) hdb hs rfl) fun σ H Q h => ?_
  obtain ⟨v, hv, k⟩ := h
  exact ⟨v, hv, (by show 1 ≤ 1000; decide), xnew1 k⟩
/-- C(name, 'text') -/
theorem pe_x2 (B : XK2 X.prog X.w X.K X.mg X.base x f g C) (hr : Room 2 X.A) (hg : Gl X x) (he : PE X e (tVar i)) (hdb : (x == ("__debug__" : Str)) = false := by decide)
    (hs : starEach [e, .Constant (.str z) j1 q1] X.env = (false, eval e X.env) :: starEach [.Constant (.str z) j1 q1] X.env := by rfl) :
    PE X (.Call (.Name x p) [e, .Constant (.str z) j1 q1] [] pos) (tX1 C (fun v => [(g, .str z), (f, v)]) i) := by
  obtain ⟨fI, fd, i1, i2, F, b, _⟩ := B.ex
  refine PE.imp (pe_xnew B.T i1 i2 F hr b pass0 hg B.hm (pa_cons he (pa_cons pe_str pa_nil) hs) hdb hs (by rfl)) fun σ H Q h => ?_
  obtain ⟨v, hv, k⟩ := h
  exact ⟨v, hv, (by show 2 ≤ 1000; decide), xnew2 k⟩
/-- C(f = name) -/
theorem pe_x1K (B : XK1 X.prog X.w X.K X.mg X.base x f C) (hr : Room 2 X.A) (hg : Gl X x) (he : PE X e (tVar i)) (hdb : (x == ("__debug__" : Str)) = false := by decide) :
    PE X (.Call (.Name x p) [] [⟨some f, e, kp⟩] pos) (tX1 C (fun v => [(f, v)]) i) := by
  obtain ⟨fI, fd, i1, i2, F, _, kb⟩ := B.ex
  refine PE.imp (pe_xnewK (ks := [f]) (g := fun ws => ws) (gV := fun zs => zs) B.T i1 i2 F hr (fun s a ws kin hl => kb s a ws kin hl) (fun r => r) pass0 hg B.hm (pk_cons he pk_nil) (by rfl) (by rfl) hdb (by rfl)) fun σ H Q h => ?_
  obtain ⟨v, hv, k⟩ := h
  exact ⟨v, hv, rfl, xnew1 k⟩
theorem vals_rev : ∀ {zs : List V} {ws : List Value}, Vals zs ws → Vals zs.reverse ws.reverse
  | _, _, .nil => .nil
  | _, _, .cons (a := a) (b := b) r t => by
    rw [List.reverse_cons, List.reverse_cons]
    exact (vals_rev t).append (.cons r .nil)
/-- C(g = 'text', f = name) -/
theorem pe_x2K (B : XK2 X.prog X.w X.K X.mg X.base x f g C) (hr : Room 2 X.A) (hg : Gl X x) (he : PE X e (tVar i)) (hdb : (x == ("__debug__" : Str)) = false := by decide) :
    PE X (.Call (.Name x p) [] [⟨some g, .Constant (.str z) j1 q1, kp⟩, ⟨some f, e, kp2⟩] pos) (tX1 C (fun v => [(g, .str z), (f, v)]) i) := by
  obtain ⟨fI, fd, i1, i2, F, _, kb⟩ := B.ex
  refine PE.imp (pe_xnewK (ks := [g, f]) (g := fun ws => ws.reverse) (gV := fun zs => zs.reverse) B.T i1 i2 F hr (fun s a ws kin hl => kb s a ws kin hl) (fun r => vals_rev r) pass0 hg B.hm (pk_cons pe_str (pk_cons he pk_nil)) (by rfl) (by rfl) hdb (by rfl)) fun σ H Q h => ?_
  obtain ⟨v, hv, k⟩ := h
  exact ⟨v, hv, rfl, xnew2 k⟩
/-- C(g = 'text', f = 0) -/
theorem pe_x2KC (B : XK2 X.prog X.w X.K X.mg X.base x f g C) (hr : Room 2 X.A) (hg : Gl X x) (hdb : (x == ("__debug__" : Str)) = false := by decide) :
    PE X (.Call (.Name x p) [] [⟨some g, .Constant (.str z) j1 q1, kp⟩, ⟨some f, .Constant (.int ci) j2 q2, kp2⟩] pos) (fun _ H Q => ∀ a H', H a = none → Same H H' → ExAt H' a C [(g, .str z), (f, .int ci)] → Q (.ref a) H') := by
  obtain ⟨fI, fd, i1, i2, F, _, kb⟩ := B.ex
  refine PE.imp (pe_xnewK (ks := [g, f]) (g := fun ws => ws.reverse) (gV := fun zs => zs.reverse) B.T i1 i2 F hr (fun s a ws kin hl => kb s a ws kin hl) (fun r => vals_rev r) pass0 hg B.hm (pk_cons pe_str (pk_cons pe_int pk_nil)) (by rfl) (by rfl) hdb (by rfl)) fun σ H Q h => ?_
  exact ⟨rfl, xnew2 h⟩
end
/-! ### lists of new errors -/
abbrev XSpec := Addr × (V → List (Str × V))
def Exs (H : Hp) (v : V) : List XSpec → List Addr → Prop
  | [], [] => True
  | c :: cs, a :: as => ExAt H a c.1 (c.2 v) ∧ Exs H v cs as
  | _, _ => False
theorem Exs.mono {H H' : Hp} {v : V} (s : Same H H') : ∀ {cs : List XSpec} {as : List Addr}, Exs H v cs as → Exs H' v cs as
  | [], [], _ => True.intro
  | _ :: _, _ :: _, h => ⟨h.1.mono s, Exs.mono s h.2⟩
  | [], _ :: _, h => h.elim
  | _ :: _, [], h => h.elim
theorem Exs.app {H : Hp} {v : V} : ∀ {cs ds : List XSpec} {as bs : List Addr}, Exs H v cs as → Exs H v ds bs → Exs H v (cs ++ ds) (as ++ bs)
  | [], _, [], _, _, h => h
  | _ :: _, _, _ :: _, _, h, k => ⟨h.1, Exs.app h.2 k⟩
  | [], _, _ :: _, _, h, _ => h.elim
  | _ :: _, _, [], _, h, _ => h.elim
theorem Exs.len {H : Hp} {v : V} : ∀ {cs : List XSpec} {as : List Addr}, Exs H v cs as → as.length = cs.length
  | [], [], _ => rfl
  | _ :: _, _ :: _, h => congrArg Nat.succ (Exs.len h.2)
  | [], _ :: _, h => h.elim
  | _ :: _, [], h => h.elim
theorem Exs.get {H : Hp} {v : V} : ∀ {cs : List XSpec} {as : List Addr} {j : Nat} {c : XSpec}, Exs H v cs as → cs[j]? = some c → ∃ a, as[j]? = some a ∧ ExAt H a c.1 (c.2 v)
  | [], [], _, _, _, e => by simp at e
  | c' :: _, a :: _, 0, c, h, e => by
    have ec : c' = c := by simpa using e
    exact ⟨a, rfl, by rw [← ec]; exact h.1⟩
  | _ :: _, _ :: _, j + 1, c, h, e => by
    obtain ⟨a, h1, h2⟩ := Exs.get (j := j) h.2 (by simpa using e)
    exact ⟨a, by simpa using h1, h2⟩
  | [], _ :: _, _, _, h, _ => h.elim
  | _ :: _, [], _, _, h, _ => h.elim
def tXs (cs : List XSpec) (i : Nat) : TA := fun σ H Q => ∃ v, σ[i]? = some (some v) ∧ ∀ (as : List Addr) H', Same H H' → Exs H' v cs as → Q (as.map V.ref) H'
section
variable {X : Cx} {e : Expr} {es : List Expr} {i : Nat} {C : Addr} {fs : V → List (Str × V)} {cs : List XSpec}
theorem pa_xn : PA X [] (tXs [] i) := PA.imp pa_nil fun σ H Q h => by
  obtain ⟨v, _, k⟩ := h
  exact k [] H Same.refl' True.intro
theorem pa_xc (he : PE X e (tX1 C fs i)) (hr : PA X es (tXs cs i)) (hs : starEach (e :: es) X.env = (false, eval e X.env) :: starEach es X.env := by rfl) : PA X (e :: es) (tXs ((C, fs) :: cs) i) := PA.imp (pa_cons he hr hs) fun σ H Q h => by
  obtain ⟨v, hv, k⟩ := h
  exact ⟨v, hv, fun a H1 _ s1 x1 => ⟨v, hv, fun as H2 s2 x2 => k (a :: as) H2 (s1.tr s2) ⟨x1.mono s2, x2⟩⟩⟩
end
/-! ### lists of isinstance(e, C), e in the slot i, of the class at D -/
def tIss (D : Addr) (bs : List Bool) (i : Nat) : TA := fun σ H Q => ∃ (a : Addr) (fs : List (Str × V)), σ[i]? = some (some (.ref a)) ∧ ExAt H a D fs ∧ Q (bs.map V.bl) H
section
variable {X : Cx} {e : Expr} {es : List Expr} {i : Nat} {D : Addr} {x n : Str} {p1 p2 p3 pos : Pos} {b : Bool} {bs : List Bool}
theorem pe_is1 {C : Addr} (T : Xc X.K D) (hi : Gl X "isinstance") (mi : X.mg "isinstance" = none) (he : PE X e (tVar i)) (hg : Gl X x) (hm : X.mg x = some (.ref C)) (kit : PySem.W.kitOne X.K (.ref D) (.ref C) = some b)
    (hs : starEach [e, .Name x p2] X.env = (false, eval e X.env) :: starEach [.Name x p2] X.env := by rfl) (hpl : (backTo pos (starEach [.Name x p2] X.env)).any (·.1) = false := by rfl) (hd : (x == ("__debug__" : Str)) = false := by decide) :
    PE X (.Call (.Name "isinstance" p1) [e, .Name x p2] [] pos) (fun σ H Q => ∃ (a : Addr) (fs : List (Str × V)), σ[i]? = some (some (.ref a)) ∧ ExAt H a D fs ∧ Q (.bl b) H) :=
  PE.imp (pe_callB call_isX hi mi (by decide +kernel) (pa_cons he (pa_cons (pe_glob (v := .ref C) hg hm rfl hd) pa_nil) hs) (by decide) (by decide) hs hpl) fun σ H Q h => by
    obtain ⟨a, fs, h1, h2, k⟩ := h
    exact ⟨_, h1, a, D, fs, .ref C, .ref C, b, rfl, h2, T, fun u r => r, kit, k⟩
/-- a built-in class -/
theorem pe_is1T {t : String} (T : Xc X.K D) (hi : Gl X "isinstance") (mi : X.mg "isinstance" = none) (he : PE X e (tVar i)) (hg : Gl X x) (hm : X.mg x = none) (hv : bootBuiltins x = some (.type t)) (kit : PySem.W.kitOne X.K (.ref D) (.type t) = some b) (hn : x ≠ "__name__" := by decide)
    (hs : starEach [e, .Name x p2] X.env = (false, eval e X.env) :: starEach [.Name x p2] X.env := by rfl) (hpl : (backTo pos (starEach [.Name x p2] X.env)).any (·.1) = false := by rfl) (hd : (x == ("__debug__" : Str)) = false := by decide) :
    PE X (.Call (.Name "isinstance" p1) [e, .Name x p2] [] pos) (fun σ H Q => ∃ (a : Addr) (fs : List (Str × V)), σ[i]? = some (some (.ref a)) ∧ ExAt H a D fs ∧ Q (.bl b) H) :=
  PE.imp (pe_callB call_isX hi mi (by decide +kernel) (pa_cons he (pa_cons (pe_bltn (v := .ty t) hg hm hv rfl hn hd) pa_nil) hs) (by decide) (by decide) hs hpl) fun σ H Q h => by
    obtain ⟨a, fs, h1, h2, k⟩ := h
    exact ⟨_, h1, a, D, fs, .ty t, .type t, b, rfl, h2, T, fun u r => r, kit, k⟩
theorem pa_isn : PA X [] (tIss D [] i) := PA.imp pa_nil fun σ H Q h => by
  obtain ⟨a, fs, _, _, k⟩ := h
  exact k
theorem pa_isc (he : PE X e (fun σ H Q => ∃ (a : Addr) (fs : List (Str × V)), σ[i]? = some (some (.ref a)) ∧ ExAt H a D fs ∧ Q (.bl b) H)) (hr : PA X es (tIss D bs i)) (hs : starEach (e :: es) X.env = (false, eval e X.env) :: starEach es X.env := by rfl) :
    PA X (e :: es) (tIss D (b :: bs) i) := PA.imp (pa_cons he hr hs) fun σ H Q h => by
  obtain ⟨a, fs, h1, h2, k⟩ := h
  exact ⟨a, fs, h1, h2, a, fs, h1, h2, k⟩
end
end L2

set_option Elab.async false
set_option linter.all false
set_option maxRecDepth 100000
set_option maxHeartbeats 4000000
/-! VxK: list.count of a truth value -/
namespace L2
open PySem PySem.Spec PyProof.Rows
def isB (b : Bool) (v : Value) : Bool := match v with
  | .bool c => c == b
  | _ => false
theorem isB_at {A : Around} {s : Shared} {b : Bool} : ∀ {bs : List Bool} {us : List Value}, Vals (bs.map V.bl) us → ∀ y ∈ us, SeqAt.EqAt A s y (.bool b) (isB b y)
  | [], _, r, y, hy => by
    cases r
    cases hy
  | c :: bs, _, r, y, hy => by
    cases r with
    | cons r1 r2 =>
      cases r1
      rcases List.mem_cons.mp hy with e | e
      · rw [e]
        exact SeqAt.EqAt.bool_bool c b
      · exact isB_at r2 y e
theorem isB_count {b : Bool} : ∀ {bs : List Bool} {us : List Value}, Vals (bs.map V.bl) us → us.countP (isB b) = bs.count b
  | [], _, r => by
    cases r
    rfl
  | c :: bs, _, r => by
    cases r with
    | cons r1 r2 =>
      cases r1
      rw [List.countP_cons, List.count_cons, isB_count r2] <;> rfl
def rCntB (K : PySem.W.Frag) : V → List V → Hp → VK → Prop := fun x xs H Q => ∃ (p : Addr) (bs : List Bool) (b : Bool), x = .ref p ∧ xs = [.bl b] ∧ SqL K H p (bs.map V.bl) ∧ Q (.int (bs.count b : Nat)) H
theorem mt_countB {X : Cx} : MtR X "list.count" (rCntB X.K) := by
  intro pins s σ H x xs v us Q I rx rxs h
  obtain ⟨p, bs, b, rfl, rfl, hs, q⟩ := h
  cases rx
  obtain ⟨u, rfl, ru⟩ := rxs.one
  cases ru
  obtain ⟨its, rv, ⟨o, n, ho, hc, hdn, hd⟩, hlen⟩ := I.list hs
  obtain ⟨cls, dd, data, sl⟩ := o
  dsimp only at hc hd
  subst hc hd
  refine call_meets PySem.F.slot_list_count ⟨_, ho, rfl⟩ PySem.F.entry_list_count (PySem.F.args_list_count_2 _ _)
    (SeqAt.list_countAt p its.toArray n dd sl (.bool b) (isB b)) ⟨ho, fun y hy => isB_at rv y (by simpa using hy), ?_⟩
  refine ⟨.int (bs.count b : Nat), H, I.tok _, ⟨s.toks, ?_⟩, q⟩
  have e : its.countP (isB b) = bs.count b := isB_count rv
  show Value.int ((its.toArray.toList.countP (isB b) : Nat) : Int) s.toks = _
  rw [show its.toArray.toList = its from rfl, e]
end L2

set_option Elab.async false
set_option linter.all false
set_option maxRecDepth 100000
set_option maxHeartbeats 4000000
/-! VxT: try: .. except (A, B, C) as e: caught = e, the error being a tracked value behind it; raise of a program's error that has its own __init__, over any base. -/
namespace L2
open PySem PySem.Spec PyProof.Rows
section
variable {X : Cx} {pins : List (Addr × Obj)} {σ : St} {H : Hp} {s : Shared}
/-- a record that stands untracked, and was not there at the entry, is tracked from here on -/
theorem Inv.adopt {a : Addr} {o : HO} {oe : Obj} {vs : Array Value} (I : Inv X pins σ H s) (e : s.heap.get? a = some oe) (dv : oe.data = .fields vs) (na : H a = none) (h0 : X.s_0.heap.get? a = none) (hp : ∀ p ∈ X.pn ++ pins, p.1 ≠ a)
    (new : ObjOk X.prog X.w (upd H a o) s.heap a o) : Inv X pins σ (upd H a o) s := by
  have nt : ∀ b u, H b = some u → b ≠ a := fun b u z y => by
    rw [y, na] at z
    cases z
  refine ⟨I.ok, I.os, I.bare, ⟨I.base.keep, I.base.slot, fun b u z n hx => ?_, I.base.there, fun b xs z => ?_, fun b u xs z => ?_, fun b ps z => ?_⟩, I.loc, I.cell, ?_, fun x c z => ?_, fun p hq => ?_, fun b u z => ?_, I.len⟩
  · rw [upd_ne (fun y => by
      rw [y, h0] at z
      cases z)]
    exact I.base.free b u z n hx
  · have q := I.base.tups b xs z
    rw [upd_ne (nt _ _ q)]
    exact q
  · have q := I.base.frzs b u xs z
    rw [upd_ne (nt _ _ q)]
    exact q
  · obtain ⟨m, q⟩ := I.base.tbls b ps z
    exact ⟨m, by rw [upd_ne (nt _ _ q)]; exact q⟩
  · rw [upd_ne (fun y => ?_)]
    · exact I.free
    · obtain ⟨m, ⟨o2, es, ep, ho, hd, _⟩, _⟩ := I.loc
      rw [y, e] at ho
      rw [← Option.some.inj ho, dv] at hd
      cases hd
  · rw [upd_ne (fun y => ?_)]
    · exact I.freeC x c z
    · obtain ⟨v, o2, ho, hd⟩ := I.cell x c z
      rw [y, e] at ho
      rw [← Option.some.inj ho, dv] at hd
      cases hd
  · obtain ⟨q1, q2, q3⟩ := I.pin p hq
    exact ⟨q1, by rw [upd_ne (hp p hq)]; exact q2, q3⟩
  · by_cases hb : b = a
    · subst hb
      rw [upd_same] at z
      cases z
      exact new
    · rw [upd_ne hb] at z
      exact (I.hok b u z).stay (fun _ _ _ q => q) (fun c q => by rw [upd_ne (nt _ _ q)]; exact q) fun c xs q => by rw [upd_ne (nt _ _ q)]; exact q
end
/-- what such a clause wishes of an error of the body: slot i is the clause's name, slot j the kept one -/
def wKept (K : PySem.W.Frag) (cs : List Value) (i j : Nat) (Wout : WX) (D : Ends) : WX := fun cls d σ H =>
  ∃ b, PySem.W.exmAny K cls cs = some b ∧ (b = true → ∃ C dd : Addr, cls = .ref C ∧ d = some dd ∧ ∀ a, H a = none → D.nx (((σ.set i (some (.ref a))).set j (some (.ref a))).set i none) (upd H a (exV a C dd))) ∧ (b = false → Wout cls d σ H)
theorem flying_keeps {B h h' : Heap} {l : List Env} {a : Addr} {Z : Obj → Prop} (k : ∀ b o, h.get? b = some o → h'.get? b = some o) (f : HandSPX.FlyingZ B l a Z h) : HandSPX.FlyingZ B l a Z h' := by
  obtain ⟨f1, f2, f3, oe, vs, T, oT, ts, t1, t2, t3, t4, t5, t6, t7, t8, t9⟩ := f
  refine ⟨fun b o e => k b o (f1 b o e), f2, ?_, oe, vs, T, oT, ts, k _ _ t1, t2, t3, t4, t5, t6, k _ _ t7, t8, t9⟩
  clear t1 t2 t3 t4 t5 t6 t7 t8 t9
  induction l with
  | nil => exact True.intro
  | cons env rest ih =>
    obtain ⟨g1, ⟨L, o, g2, g3, g4, g5⟩, g6⟩ := f3
    exact ⟨g1, ⟨L, o, g2, g3, k _ _ g4, g5⟩, ih g6⟩
section
variable {X : Cx} {x1 x2 x3 n m : Str} {C1 C2 C3 : Addr} {i j kk : Nat} {body : List Stmt} {p1 p2 p3 tp pa pb pc pos pos' : Pos} {tb : WX → TS} {Wout : WX}
theorem ps_try_kept (hs : X.stack = X.env :: X.outer) (hf : X.env.frame = some X.env.locals) (hex : X.ex = []) (hN : X.N.Nodup) (hi : X.N[i]? = some n) (hj : X.N[j]? = some m) (hln : X.env.kindOf n = some .local) (hlm : X.env.kindOf m = some .local)
    (g1 : Gl X x1) (m1 : X.mg x1 = some (.ref C1)) (g2 : Gl X x2) (m2 : X.mg x2 = some (.ref C2)) (g3 : Gl X x3) (m3 : X.mg x3 = some (.ref C3)) (tk : Takes X Wout)
    (hb : ∀ (W : WX) (pn : List (Addr × Obj)) (xe : Value → Shared → Prop), Takes (X.tr pn xe) W → PassesOwn (model X.prog X.w) X.A X.env xe → PSs (X.tr pn xe) body (tb W))
    (hij : i ≠ j := by decide) (d1 : (x1 == ("__debug__" : Str)) = false := by decide) (d2 : (x2 == ("__debug__" : Str)) = false := by decide) (d3 : (x3 == ("__debug__" : Str)) = false := by decide) 
    (hn1 : (n == ("__debug__" : Str)) = false := by decide) (hn2 : (n == ("__classdict__" : Str)) = false := by decide)
    (hsw : swapsWith (.Name n pc) (some (.Name m pb)) pa.line X.env = pure false := by rfl)
    : PS X (.Try body [.ExceptHandler (some (.Tuple [.Name x1 p1, .Name x2 p2, .Name x3 p3] kk tp)) (some n) [.Assign [.Name m pb] (.Name n pc) pa] pos'] [] [] pos) (fun D σ H => tb (wKept X.K [.ref C1, .ref C2, .ref C3] i j Wout D) D σ H) := by
  refine ⟨fun pins s σ H D I h => ?_⟩
  have ok := I.ok
  have frs_eq : X.A.frames = some (X.env :: X.outer) := by
    rw [ok.frames, hs]
  let hd1 : ExceptHandler := .ExceptHandler (some (.Tuple [.Name x1 p1, .Name x2 p2, .Name x3 p3] kk tp)) (some n) [.Assign [.Name m pb] (.Name n pc) pa] pos'
  let xe2 : Value → Shared → Prop := fun e t1 => wpAny (model X.prog X.w) X.A (noteFrame e X.env) (fun _ t2 => wpAny (model X.prog X.w) X.A (setFlight e none) (fun _ t3 => wpAny (model X.prog X.w) X.A (handleBy e X.env [hd1]) (SP X pins D) X.xe t3) X.xe t2) X.xe t1
  have B0 : PSs (X.tr (X.pn ++ pins) xe2) body (tb (wKept X.K [.ref C1, .ref C2, .ref C3] i j Wout D)) := hb _ _ xe2 (fun u s' xx => ?caught) PassesOwn.looking
  case caught =>
    obtain ⟨a, B, sI, pins', σ', H', cls, d, rfl, JT, nb, up, sky, na, os, ag, b, hx, hyes, hno⟩ := xx
    have J : Inv X pins σ' H' sI := JT.ofTry ok
    have sky2 : Sky B (X.env :: X.outer) a (Zc cls d) X.env.locals s'.heap := by
      rw [← hs]
      exact sky
    show wpAny (model X.prog X.w) X.A (noteFrame (.ref a) X.env) _ _ _
    refine Sky.land Zc.steady frs_eq hf sky2 fun h3 fl3 up3 => ?_
    have out : ∀ {h : Heap} {o : Obj} {vs : Array Value}, HandSPX.FlyingZ B (X.env :: X.outer) a (Zc cls d) h → h.get? a = some o → o.data = .fields vs → a ≠ X.env.locals ∧ a ∉ X.fs ∧ a ∉ frs X.stack := by
      intro h o vs fl e dd
      have no : a ∉ frs (X.env :: X.outer) := fun hm => by
        obtain ⟨_, o2, e2, hnf⟩ := fl.2.2.1.mem hm
        rw [e] at e2
        cases e2
        exact hnf _ dd
      refine ⟨fun z => no (List.mem_filterMap.mpr ⟨X.env, List.mem_cons_self, ?_⟩), fun hm => ?_, ?_⟩
      · rw [hf, z]
      · obtain ⟨en, he, q⟩ := List.mem_filterMap.mp hm
        exact no (List.mem_filterMap.mpr ⟨en, List.mem_cons_of_mem _ he, q⟩)
      · rw [hs]
        exact no
    obtain ⟨oe3, vs3, he3, hz3, hd3⟩ := fl3.there
    obtain ⟨nL, nF, nS⟩ := out fl3 he3 hd3
    have J3 : Inv X pins σ' H' { s' with heap := h3 } := J.landed nb fl3.1 (up.trans up3) os ag
    have S3 := J3.suite he3 hd3 na nL nF
    -- the clause's tuple
    refine wpAny_handleBy_cons (codeAny_handlers_test (wpAny_Tuple (wpAny_items_cons (ld_glob (X := X.suite a ((a, oe3) :: (X.pn ++ pins))) S3 g1 m1 (wpAny_items_cons (ld_glob (X := X.suite a ((a, oe3) :: (X.pn ++ pins))) S3 g2 m2 (wpAny_items_cons (ld_glob (X := X.suite a ((a, oe3) :: (X.pn ++ pins))) S3 g3 m3 (wpAny_items_nil ⟨by size_fits, ?_⟩) d3)) d2)) d1)))) (fun q => by cases q)
    have kp : ∀ b o, h3.get? b = some o → (h3.push { cls := .type "tuple", data := .seq [Value.ref C1, .ref C2, .ref C3].toArray }).get? b = some o := fun b o z => Heap.get?_push_of_some _ z
    have LT : PySem.W.Looks (model X.prog X.w) h3 (typeOf (.ref a)) cls := fun A Q E t k q => wpAny_typeOf_ref (k _ _ he3) (by rw [hz3.1]; exact q)
    refine (PySem.W.exm_tup3 (J3.kIn.keeps kp) (LT.keeps kp) (Heap.get?_push_size h3 rfl) hx).here ?_
    have fl5 := flying_keeps kp fl3
    have up5 := (up.trans up3).trans (Heap.UpToSlots.of_keeps kp)
    cases b with
    | true =>
      obtain ⟨C, dd, rfl, rfl, kq⟩ := hyes rfl
      refine codeAny_handlers_suite_as ?_
      refine HandSPX.lands_againZ fl5 fun h4 fl4 up4 => ?_
      obtain ⟨oe4, vs4, he4, hz4, hd4⟩ := fl4.there
      have J4 : Inv X pins σ' H' { s' with heap := h4 } := J.landed nb fl4.1 (up5.trans up4) os ag
      have S4 := J4.suite he4 hd4 na nL nF
      refine store_ok (X := X.suite a ((a, oe4) :: (X.pn ++ pins))) (v := .ref a) S4 hN hi (.inl hln) rfl (fun s5 S5 => ?_) (.inr hln)
      have PA5 : PSs (X.suite a ((a, oe4) :: (X.pn ++ pins))) [.Assign [.Name m pb] (.Name n pc) pa] (tSeq (tAsg (tVar i) (gName j)) tNext) := pss_cons (ps_set hN hj (.inl hlm) (pe_var hi (.inl hln) hn1 hn2) hsw (.inr hlm)) pss_nil
      refine wpAny_mono (PA5.run [] s5 _ H' { nx := fun σ6 H6 => σ6 = (σ'.set i (some (.ref a))).set j (some (.ref a)) ∧ H6 = H', rt := fun _ _ => False, bk := fun _ _ => False, ct := fun _ _ => False } S5 ?_) (fun f s6 hsp => ?_) (fun _ _ z => z.elim)
      · refine ⟨.ref a, ?_, rfl, rfl⟩
        rw [List.getElem?_set_self (by rw [J.len]; exact (List.getElem?_eq_some_iff.mp hi).1)]
      · cases f with
        | next =>
          obtain ⟨σ6, H6, S6, e1, e2⟩ := hsp
          subst e1 e2
          have he6 := (S6.pin (a, oe4) (List.mem_append_left _ List.mem_cons_self)).1
          have new : X.s_0.heap.get? a = none := by
            cases z : X.s_0.heap.get? a with
            | none => rfl
            | some o0 =>
              obtain ⟨o1, z1⟩ := J.base.there a o0 z (by rw [hex]; exact List.not_mem_nil)
              have z2 := nb a o1 z1 nS
              rw [fl3.2.1] at z2
              cases z2
          have I6 : Inv X pins ((σ'.set i (some (.ref a))).set j (some (.ref a))) H6 s6 := S6.unsuite ok
          have I7 := I6.adopt (o := exV a C dd) he6 hd4 na new (fun p hq z => ?_) (exV_ok he6 hz4.1 hz4.2 hd4)
          · exact gone_ok I7 hN hi hln fun s7 J7 => ⟨_, _, J7, kq a na⟩
          · obtain ⟨y1, y2, y3, y4, _⟩ := J.pin p hq
            rw [z] at y1
            have z2 := nb a _ y1 nS
            rw [fl3.2.1] at z2
            cases z2
        | brk => exact hsp.elim fun _ z => z.elim fun _ z => z.2.elim
        | cont => exact hsp.elim fun _ z => z.elim fun _ z => z.2.elim
        | ret u => exact hsp.elim fun _ z => z.elim fun _ z => z.elim fun _ z => z.2.2.elim
    | false =>
      show wpAny _ X.A (handleBy (.ref a) X.env []) _ _ _
      refine wpAny_handleBy_nil ?_
      obtain ⟨k1, k2, k3, oe, vs, T, oT, ts', he, hz, hd, h1, hr⟩ := id fl5
      unfold PySem.passOn
      have fin : wpAny (model X.prog X.w) X.A (setFlight (.ref a) X.env.frame) (fun _ t4 => wpAny (model X.prog X.w) X.A (throw (.ref a) : Sem Flow) (SP X pins D) X.xe t4) X.xe { s' with heap := h3.push { cls := .type "tuple", data := .seq [Value.ref C1, .ref C2, .ref C3].toArray } } := by
        rw [hf]
        exact HandSPX.setFlight_upZ fl5 fun h4 hh4 up4 => wpAny_throw (tk _ _ ⟨a, B, sI, pins, σ', H', cls, d, rfl, J, nb, up5.trans up4, .inr (.inr (by rw [hs]; exact hh4)), na, os, ag, hno rfl⟩)
      refine wpAny_bind (wpAny_field he hd h1 ?_)
      rw [if_neg (show ¬ ((Value.ref T == Value.none) = true) from by simp)]
      first
        | exact wpAny_bind (wpAny_pure (wpAny_bind fin))
        | exact wpAny_bind fin
  refine wpAny_Try_except (wpAny_mono (B0.run [] s σ H D (I.toTry _) h) (fun f s1 hsp => ?_) (fun e s1 he => he))
  cases f with
  | next =>
    obtain ⟨σ2, H2, J2, q⟩ := hsp
    exact wpAny_execs_nil ⟨σ2, H2, J2.ofTry ok, q⟩
  | brk =>
    obtain ⟨σ2, H2, J2, q⟩ := hsp
    exact ⟨σ2, H2, J2.ofTry ok, q⟩
  | cont =>
    obtain ⟨σ2, H2, J2, q⟩ := hsp
    exact ⟨σ2, H2, J2.ofTry ok, q⟩
  | ret u =>
    obtain ⟨v, σ2, H2, J2, r, q⟩ := hsp
    exact ⟨v, σ2, H2, J2.ofTry ok, r, q⟩
end
end L2

set_option Elab.async false
set_option linter.all false
set_option maxRecDepth 100000
set_option maxHeartbeats 4000000
/-! VxU: raise C(v), C an error class of the program with its own __init__. -/
namespace L2
open PySem PySem.Spec PyProof.Rows
section
variable {X : Cx} {CX : CXT} {k : Nat} {C fI : Addr} {fd : FuncData} {ps : List Str} {sp : Sp} {x f : Str} {p pos : Pos} {e : Expr} {es : List Expr} {t : TA} {te : TE}
theorem run_xmk {pins : List (Addr × Obj)} {σ : St} {H : Hp} {s : Shared} {Q : XK} {us zs : List Value} {kw : List (Str × Value)} {vs : List V} (T : Xc X.K C) (iC : PySem.W.findIn X.K (.ref C) "__init__" = some (some (.ref fI))) (tI : PySem.W.typeIn X.K (.ref fI) = some (.type "function"))
    (F1 : FnOk X.prog X.w X.K X.mg X.base CX k fI fd ps sp) (hr : Room (k + 1) X.A) (hx : Passes CX X (fun _ _ _ => False)) (hz : us.length ≤ sizeLine)
    (hb : ∀ (s : Shared) (a : Addr), X.K.In s.heap → BindsTo s fd ⟨Value.ref a :: us, kw⟩ (ps.zip (Value.ref a :: zs))) (I : Inv X pins σ H s) (r : Vals vs zs)
    (h : ∀ a, H a = none → sp (.ref a :: vs) (upd H a (exo a C none)) (fun v H2 => v = .non ∧ ∃ (d : Addr) (fs : List (Str × V)), H2 a = some (exo a C (some d)) ∧ H2 d = some (exd d fs) ∧ H d = none ∧ Q (.ref C) (some d) (upd (del H2 a) d (.xd fs))) (fun _ _ _ => False)) :
    wpAny (model X.prog X.w) X.A (call (.ref C) us kw) (MkP X pins σ Q) X.xe s := by
  obtain ⟨nm, q, N, bs, bm, sn, sub, ab, col, dd, k0, k1, k2, k3, k5, B, newId, initId, bmB, hC, FB, hbm⟩ := T.cls
  have hT : ∀ Y : String, bm.contains (.type Y) = bmB.contains (.type Y) := fun Y => by
    have z := PySem.W.excTail_contains Y _ hbm.tail
    rw [List.contains_cons] at z
    have e : (Value.type Y == Value.ref C) = false := rfl
    rw [e, Bool.false_or] at z
    exact z
  obtain ⟨hp, g, dr, tk, os⟩ := s
  have lo : hp.objs.size ≤ hp.objs.size + 1 := Nat.le_succ _
  have hn : H (hp.objs.size + 1) = none := I.hok.fresh lo
  have hq := h (hp.objs.size + 1) hn
  let h2 : Heap := (hp.push (PySem.W.kdv_tup us)).push (PySem.HandSPX.excO C hp.objs.size)
  have kk : ∀ b o, hp.get? b = some o → h2.get? b = some o := fun b o e => Heap.get?_push_of_some _ (Heap.get?_push_of_some _ e)
  have hget : h2.get? (hp.objs.size + 1) = some (PySem.HandSPX.excO C hp.objs.size) := by heap_get
  have I2 : Inv X pins σ (upd H (hp.objs.size + 1) (exo (hp.objs.size + 1) C none)) ⟨h2, g, dr, tk, os⟩ :=
    I.laid (t' := tk) (o := exo (hp.objs.size + 1) C none) kk lo (exo_ok hget)
  have r2 : Vals (V.ref (hp.objs.size + 1) :: vs) (Value.ref (hp.objs.size + 1) :: zs) := .cons rfl r
  refine wpAny_call (VxS.call_K FB hT (I.kIn _ _ hC) (PySem.W.looks_findIn I.kIn iC) (fun self => PySem.W.bind_fn I.kIn self tI) hz
    (codeAny_mono (F1.run _ X.stack _ _ ⟨Value.ref (hp.objs.size + 1) :: us, kw⟩ (Value.ref (hp.objs.size + 1) :: zs) _ _ (fun _ _ _ => False) (hr.make C us kw) (I2.env0.make C us kw) (hb _ _ I2.kIn) r2 hq) fun r s' hq' => ?_))
  match r, hq' with
  | .error er, hq' => exact hx pins σ _ _ er s' I2 hq'
  | .ok (.ret u), hq' =>
    obtain ⟨v, H2, os2, bare2, un2, hok2, rv, ev, d, fs, ea, ed, hd1, q2⟩ := hq'
    subst ev
    obtain ⟨h3, g2, d2, t2, os'⟩ := s'
    exact ⟨rv, mk_end (raises_own T.exC T.tyC) I lo kk un2 hok2 os2 bare2 ea ed hd1 q2⟩
  | .ok .next, hq' => exact hq'.elim
  | .ok .brk, hq' => exact hq'.elim
  | .ok .cont, hq' => exact hq'.elim
/-- raise C(e): W is what is wished of the error -/
def tX1e (C : Addr) (f : Str) (te : TE) : St → Hp → XK → Prop := fun σ H Q => te σ H fun u H1 => ∃ v, [u] = [v] ∧ ∀ dd H', H1 dd = none → Same H1 H' → H' dd = some (.xd [(f, v)]) → Q (.ref C) (some dd) H'
theorem pmk_x1 (B : XK1 X.prog X.w X.K X.mg X.base x f C) (hr : Room 2 X.A) (hg : Gl X x) (he : PE X e te) (hdb : (x == ("__debug__" : Str)) = false := by decide) (hs : starEach [e] X.env = (false, eval e X.env) :: starEach [] X.env := by rfl) (hpl : (backTo pos (starEach [] X.env)).any (·.1) = false := by rfl) :
    PMk X (.Call (.Name x p) [e] [] pos) (tX1e C f te) := by
  obtain ⟨fI, fd, i1, i2, F, bd, _⟩ := B.ex
  intro pins s σ H Q I h
  refine wpAny_Call_Name_kw (ld_glob I hg B.hm ?_ hdb)
  refine PySem.W.callWith_K (h₀ := X.base) I.ok.mod.kin B.T.kC (thn ((pa_cons he pa_nil hs).run pos pins s σ H (fun vs H1 => ∃ v, vs = [v] ∧ ∀ dd H', H1 dd = none → Same H1 H' → H' dd = some (.xd [(f, v)]) → Q (.ref C) (some dd) H') I ?_) fun us s1 hh => ?_) hs hpl
  · exact h
  obtain ⟨vs, H1, I1, r1, v, rfl, q⟩ := hh
  have hl : us.length = 1 := r1.length.symm
  refine ⟨I1.kIn, run_xmk (us := us) (vs := [v]) B.T i1 i2 F hr pass0 (by rw [hl]; decide) (fun s a kin => ?_) I1 r1 fun a ha => ⟨a, v, rfl, upd_same, fun dx n ne => ⟨rfl, dx, [(f, v)], upd_same, (by rw [upd_ne ne, upd_same]), ?_, q dx _ ?_ (fun b o z => ?_) upd_same⟩⟩⟩
  · have z := bd s (Value.ref a :: us) kin (by rw [List.append_nil, List.length_cons, hl]; rfl)
    rw [List.append_nil] at z
    exact z
  · rw [← n, upd_ne ne]
  · rw [← n, upd_ne ne]
  · have hd : H1 dx = none := by rw [← n, upd_ne ne]
    rw [upd_ne (ne_of_none z hd), del_ne (ne_of_none z ha), upd_ne (ne_of_none z ha), upd_ne (ne_of_none z hd), upd_ne (ne_of_none z ha)]
    exact z
/-- raise C(e) -/
theorem ps_x1 {W : WX} {pos2 : Pos} (hc : X.calm = true) (tk : Takes X W) (B : XK1 X.prog X.w X.K X.mg X.base x f C) (hr : Room 2 X.A) (hg : Gl X x) (he : PE X e te) (hdb : (x == ("__debug__" : Str)) = false := by decide)
    (hs : starEach [e] X.env = (false, eval e X.env) :: starEach [] X.env := by rfl) (hpl : (backTo pos (starEach [] X.env)).any (·.1) = false := by rfl) :
    PS X (.Raise (some (.Call (.Name x p) [e] [] pos)) none pos2) (fun _ σ H => tX1e C f te σ H fun cls d H' => W cls d σ H') := ps_raise hc tk (pmk_x1 B hr hg he hdb hs hpl)
end
end L2

set_option Elab.async false
set_option linter.all false
set_option maxRecDepth 100000
set_option maxHeartbeats 4000000
/-! VxY: generators of the program whose consumer owns some objects (a list, a comprehension's names) that change while the generator sleeps. What a run hands out is told beforehand (xs); j of it are out. -/
namespace L2
open PySem PySem.Spec PyProof.Rows GenW
/-- while the generator sleeps: the consumer's own objects may change, all else stays -/
structure Zzz (Z : List Addr) (s s' : Shared) : Prop where
  os : s'.os = s.os
  bare : AllBare s'.gens
  keep : ∀ b o, b ∉ Z → s.heap.get? b = some o → s'.heap.get? b = some o
  own : ∀ z ∈ Z, ∃ o, s'.heap.get? z = some o ∧ ∀ v, o.data ≠ .cell v
/-- the consumer's objects lie apart of the generator's frame -/
def Aside (X : Cx) (Z : List Addr) : Prop := ∀ z ∈ Z, X.s_0.heap.objs.size ≤ z ∧ z ≠ X.env.locals ∧ (∀ x c, X.env.cells.lookup x = some c → c ≠ z) ∧ ∀ p ∈ X.pn, p.1 ≠ z
/-- running: the consumer's objects stand as they stood when it was woken (s₀) -/
def YRun (X : Cx) (Z : List Addr) (ip : List (Addr × Obj)) (σ : L2.St) (H : Hp) (s₀ s : Shared) : Prop :=
  ∃ zp : List (Addr × Obj), zp.map (·.1) = Z ∧ (∀ p ∈ zp, s₀.heap.get? p.1 = some p.2) ∧ Inv X (zp ++ ip) σ H s
theorem snap {h : Heap} : ∀ {Z : List Addr}, (∀ z ∈ Z, ∃ o, h.get? z = some o ∧ ∀ v, o.data ≠ .cell v) → ∃ zp : List (Addr × Obj), zp.map (·.1) = Z ∧ ∀ p ∈ zp, h.get? p.1 = some p.2 ∧ ∀ v, p.2.data ≠ .cell v
  | [], _ => ⟨[], rfl, fun _ m => (List.not_mem_nil m).elim⟩
  | z :: Z, h1 => by
    obtain ⟨o, e1, e2⟩ := h1 z List.mem_cons_self
    obtain ⟨zp, f1, f2⟩ := snap (Z := Z) fun y hy => h1 y (List.mem_cons_of_mem _ hy)
    refine ⟨(z, o) :: zp, by rw [List.map_cons, f1], fun p m => ?_⟩
    rcases List.mem_cons.mp m with m | m
    · rw [m]
      exact ⟨e1, e2⟩
    · exact f2 p m
section
variable {X : Cx} {Z : List Addr} {ip : List (Addr × Obj)} {σ : L2.St} {H : Hp} {s₀ s s' : Shared}
theorem YRun.at {z : Addr} (r : YRun X Z ip σ H s₀ s) (hz : z ∈ Z) : H z = none ∧ z ∉ X.fs ∧ ∃ o, s₀.heap.get? z = some o ∧ s.heap.get? z = some o := by
  obtain ⟨zp, rfl, e2, I⟩ := r
  obtain ⟨p, hp, rfl⟩ := List.mem_map.mp hz
  obtain ⟨i1, i2, i3, i4, i5⟩ := I.pin p (List.mem_append_right _ (List.mem_append_left _ hp))
  exact ⟨i2, i4, p.2, e2 p hp, i1⟩
theorem YRun.inv (r : YRun X Z ip σ H s₀ s) : Inv X ip σ H s := by
  obtain ⟨zp, _, _, I⟩ := r
  exact I.pins_of fun p hp => I.pin p (List.mem_append_right _ (List.mem_append_right _ hp))
/-- woken again -/
theorem YRun.woken (hA : Aside X Z) (hip : ∀ p ∈ ip, p.1 ∉ Z) (r : YRun X Z ip σ H s₀ s) (w : Zzz Z s s') : YRun X Z ip σ H s' s' := by
  have at_ := fun z (hz : z ∈ Z) => r.at hz
  have I := r.inv
  obtain ⟨zp', f1, f2⟩ := snap w.own
  obtain ⟨w1, w2, w3, w4⟩ := w
  have nz : ∀ b u, H b = some u → b ∉ Z := fun b u q hb => by
    rw [(at_ b hb).1] at q
    cases q
  obtain ⟨hh, g, d, t, o⟩ := s'
  have ho : o = s.os := w1
  subst ho
  have J : Inv X ip σ H { s with heap := hh, gens := g, drawn := d, toks := t } := by
    refine I.step (ch := Z) (fun b hb => ?_) (fun b ob _ _ hc q _ => w3 b ob hc q) (fun b ob _ _ hc q _ => ⟨ob.slots, w3 b ob hc q⟩) (fun _ _ _ _ n => n) (fun b ob hc q => ⟨ob, w3 b ob hc q⟩)
      (fun _ _ q => q) (fun _ _ _ q => q) (fun b ps q => ⟨#[], by rw [q]; simp⟩) (fun m hm => ?_) (fun b u q => ?_) w2
    · obtain ⟨a1, a2, a3, a4⟩ := hA b hb
      refine ⟨.inr a1, a2, a3, fun p hp => ?_⟩
      rcases List.mem_append.mp hp with hp | hp
      · exact a4 p hp
      · exact fun e => hip p hp (by rw [e]; exact hb)
    · obtain ⟨ob, es, ep, ho, rr⟩ := hm
      exact ⟨ob, es, ep, w3 _ ob (fun z => (hA _ z).2.1 rfl) ho, rr⟩
    · refine (I.hok b u q).stay (fun c v hc y => w3 c v ?_ y) (fun _ y => y) fun _ _ y => y
      rcases hc with y | y
      · rw [y]
        exact nz b u q
      · exact nz c _ y
  refine ⟨zp', f1, fun p hp => (f2 p hp).1, J.pins_of fun p hp => ?_⟩
  rcases List.mem_append.mp hp with hp | hp
  · have hz : p.1 ∈ Z := by
      rw [← f1]
      exact List.mem_map.mpr ⟨p, hp, rfl⟩
    exact ⟨(f2 p hp).1, (at_ _ hz).1, (hA _ hz).2.1, (at_ _ hz).2.1, (f2 p hp).2⟩
  · exact J.pin p (List.mem_append_right _ hp)
end
/-! ### the protocol -/
def YP (X : Cx) (Z : List Addr) (xs : List V) : Protocol := fun n s₀ v s kap =>
  ∃ j x ip σ H, n + 1 + j = xs.length ∧ xs[j]? = some x ∧ RelV x v ∧ YRun X Z ip σ H s₀ s ∧ ∀ s', Zzz Z s s' → kap (.send .none) s'
def YR (X : Cx) (Z : List Addr) (xs : List V) (Q : VK) (F : Value → Shared → Prop) : GenEnd := fun n s₀ r s => match r with
  | .ok (.ret u) => ∃ v ip σ H, n = 0 ∧ YRun X Z ip σ H s₀ s ∧ RelV v u ∧ Q v H
  | .ok _ => False
  | .error e => F e s
structure YEnds where
  nx : Nat → L2.St → Hp → Prop
  rt : Nat → VK
  bk : Nat → L2.St → Hp → Prop := fun _ _ _ => False
  ct : Nat → L2.St → Hp → Prop := fun _ _ _ => False
abbrev TY := YEnds → Nat → L2.St → Hp → Prop
def YSP (X : Cx) (Z : List Addr) (ip : List (Addr × Obj)) (D : YEnds) (j : Nat) (s₀ : Shared) (f : Flow) (s : Shared) : Prop :=
  match f with
  | .next => ∃ σ H, YRun X Z ip σ H s₀ s ∧ D.nx j σ H
  | .brk => ∃ σ H, YRun X Z ip σ H s₀ s ∧ D.bk j σ H
  | .cont => ∃ σ H, YRun X Z ip σ H s₀ s ∧ D.ct j σ H
  | .ret u => ∃ v σ H, YRun X Z ip σ H s₀ s ∧ RelV v u ∧ D.rt j v H
/-- where the generator's code stands -/
structure YC (X : Cx) (Z : List Addr) (ip : List (Addr × Obj)) (A : Around) (c : Code) (fs : List Frame) (gd : Bool → Bool) : Prop where
  ip : ∀ p ∈ ip, p.1 ∉ Z
  aside : Aside X Z
  over : A.over c fs = X.A
  split : splitAtGen fs = none
  guard : fs.any Frame.guarded = false
  gd : gd false = false
structure YK (X : Cx) (Z : List Addr) (xs : List V) (ip : List (Addr × Obj)) (A : Around) (R : GenEnd) (c : Code) (fs : List Frame) (K : Flow → Sem PySem.Fin) (J : Value → Sem PySem.Fin) (D : YEnds) : Prop where
  ok : ∀ (n j : Nat) (s₀ s : Shared) (f : Flow), n + j = xs.length → YSP X Z ip D j s₀ f s → Seg (model X.prog X.w) A R (YP X Z xs) n s₀ c (K f) fs s
  exc : ∀ (n : Nat) (s₀ : Shared) (e : Value) (s : Shared), X.xe e s → Seg (model X.prog X.w) A R (YP X Z xs) n s₀ c (J e) fs s
structure YS (X : Cx) (xs : List V) (st : Stmt) (t : TY) : Prop where
  run : ∀ (A : Around) (Z : List Addr) (ip : List (Addr × Obj)) (R : GenEnd) (n j : Nat) (s₀ : Shared) (c : Code) (fs : List Frame) (K : Flow → Sem PySem.Fin) (J : Value → Sem PySem.Fin) (gd : Bool → Bool) (lv : List Value → List Value) (s : Shared) (σ : L2.St) (H : Hp) (D : YEnds),
    YC X Z ip A c fs gd → n + j = xs.length → YK X Z xs ip A R c fs K J D → YRun X Z ip σ H s₀ s → t D j σ H → Seg (model X.prog X.w) A R (YP X Z xs) n s₀ c ((exec st X.env).wrap K J gd lv) fs s
structure YSs (X : Cx) (xs : List V) (st : List Stmt) (t : TY) : Prop where
  run : ∀ (A : Around) (Z : List Addr) (ip : List (Addr × Obj)) (R : GenEnd) (n j : Nat) (s₀ : Shared) (c : Code) (fs : List Frame) (K : Flow → Sem PySem.Fin) (J : Value → Sem PySem.Fin) (gd : Bool → Bool) (lv : List Value → List Value) (s : Shared) (σ : L2.St) (H : Hp) (D : YEnds),
    YC X Z ip A c fs gd → n + j = xs.length → YK X Z xs ip A R c fs K J D → YRun X Z ip σ H s₀ s → t D j σ H → Seg (model X.prog X.w) A R (YP X Z xs) n s₀ c ((execs st X.env).wrap K J gd lv) fs s
section
variable {X : Cx} {xs : List V} {st : Stmt} {rest : List Stmt}
def YEnds.at (D : YEnds) (j : Nat) : Ends := { nx := D.nx j, rt := D.rt j, bk := D.bk j, ct := D.ct j }
theorem ysp_of {Z : List Addr} {ip zp : List (Addr × Obj)} {D : YEnds} {j : Nat} {s₀ s : Shared} {f : Flow} (e1 : zp.map (·.1) = Z) (e2 : ∀ p ∈ zp, s₀.heap.get? p.1 = some p.2) (h : SP X (zp ++ ip) (D.at j) f s) : YSP X Z ip D j s₀ f s := by
  match f, h with
  | .next, ⟨σ, H, I, q⟩ => exact ⟨σ, H, ⟨zp, e1, e2, I⟩, q⟩
  | .brk, ⟨σ, H, I, q⟩ => exact ⟨σ, H, ⟨zp, e1, e2, I⟩, q⟩
  | .cont, ⟨σ, H, I, q⟩ => exact ⟨σ, H, ⟨zp, e1, e2, I⟩, q⟩
  | .ret u, ⟨v, σ, H, I, r, q⟩ => exact ⟨v, σ, H, ⟨zp, e1, e2, I⟩, r, q⟩
/-- a statement that hands out nothing -/
theorem ys_ps {t : TS} (h : PS X st t) : YS X xs st (fun D j σ H => t (D.at j) σ H) := by
  refine ⟨fun A Z ip R n j s₀ c fs K J gd lv s σ H D g hn k r ht => ?_⟩
  obtain ⟨zp, e1, e2, I⟩ := r
  refine seg_wrap ?_
  rw [g.over]
  exact wpAny_mono (h.run _ s σ H (D.at j) I ht) (fun f s' q => k.ok n j s₀ s' f hn (ysp_of e1 e2 q)) fun x s' q => k.exc n s₀ x s' q
theorem yss_nil : YSs X xs [] (fun D j σ H => D.nx j σ H) :=
  ⟨fun A Z ip R n j s₀ c fs K J gd lv s σ H D g hn k r ht => seg_execs_nil (k.ok n j s₀ s .next hn ⟨σ, H, r, ht⟩)⟩
theorem yss_cons {t u : TY} (a : YS X xs st t) (b : YSs X xs rest u) : YSs X xs (st :: rest) (fun D j σ H => t { D with nx := fun j' σ' H' => u D j' σ' H' } j σ H) := by
  refine ⟨fun A Z ip R n j s₀ c fs K J gd lv s σ H D g hn k r ht => seg_execs_cons (a.run A Z ip R n j s₀ c fs _ J gd lv s σ H { D with nx := fun j' σ' H' => u D j' σ' H' } g hn ⟨fun n' j' s₁ s' f hn' hs => ?_, k.exc⟩ r ht)⟩
  match f, hs with
  | .next, ⟨σ', H', r', q⟩ => exact b.run A Z ip R n' j' s₁ c fs K J gd lv s' σ' H' D g hn' k r' q
  | .brk, hs => exact k.ok n' j' s₁ s' .brk hn' hs
  | .cont, hs => exact k.ok n' j' s₁ s' .cont hn' hs
  | .ret u, hs => exact k.ok n' j' s₁ s' (.ret u) hn' hs
/-- yield e -/
theorem ys_yield {e : Expr} {yp pos : Pos} {te : TE} (he : PE X e te) (hco : X.env.scope.isCoroutine = false := by rfl) (hi : interactive X.env = false := by rfl) :
    YS X xs (.Expr (.Yield (some e) yp) pos) (fun D j σ H => j < xs.length ∧ te σ H fun x H1 => xs[j]? = some x ∧ D.nx (j + 1) σ H1) := by
  refine ⟨fun A Z ip R n j s₀ c fs K J gd lv s σ H D g hn k r ht => ?_⟩
  obtain ⟨hlt, ht⟩ := ht
  obtain ⟨zp, e1, e2, I⟩ := r
  obtain ⟨m, rfl⟩ : ∃ m, n = m + 1 := ⟨n - 1, by omega⟩
  refine seg_Expr_Yield g.split g.gd g.guard ?_ hco hi
  rw [g.over]
  refine wpAny_mono (he.run _ s σ H _ I ht) (fun v s' hv => ?_) fun x s' q => k.exc _ s₀ x s' q
  obtain ⟨x, H1, I1, rv, hx, q⟩ := hv
  intro kap hk
  have r1 : YRun X Z ip σ H1 s₀ s' := ⟨zp, e1, e2, I1⟩
  exact ⟨j, x, ip, σ, H1, hn, hx, rv, r1, fun s2 z => hk .none s2 (k.ok m (j + 1) s2 s2 .next (by omega) ⟨σ, H1, r1.woken g.aside g.ip z, q⟩)⟩
/-! ### yield from -/
theorem seg_from {Z : List Addr} {ip : List (Addr × Obj)} {A : Around} {R : GenEnd} {fs : List Frame} {it : Addr} {ys : List V} {St : Nat → Heap → Prop} {σ : L2.St} {H : Hp} {j0 : Nat} (hip : ∀ p ∈ ip, p.1 ∉ Z) (hpi : ∀ p ∈ X.pn ++ ip, p.1 ≠ it) (hA : Aside X Z)
    (hex : it ∈ X.ex ∨ X.s_0.heap.objs.size ≤ it) (hL : it ≠ X.env.locals) (hcell : ∀ x c, X.env.cells.lookup x = some c → c ≠ it) (hZ : it ∉ Z) (hH : H it = none) (q : QIt X H it ys St)
    (ho : (A.over (.builtin "proto.yield_from" ⟨[.ref it, .bool false, .none], []⟩) fs).handled = none) (hsp : splitAtGen fs = none) (hgd : fs.any Frame.guarded = false) (hxs : ∀ i y, ys[i]? = some y → xs[j0 + i]? = some y)
    (hend : ∀ (n : Nat) (s₀ s : Shared), n + (j0 + ys.length) = xs.length → YRun X Z ip σ H s₀ s → Seg (model X.prog X.w) A R (YP X Z xs) n s₀ (.builtin "proto.yield_from" ⟨[.ref it, .bool false, .none], []⟩) (.pure (.done (.ret .none))) fs s) :
    ∀ (r i n : Nat) (s₀ s : Shared), i + r = ys.length → n + (j0 + i) = xs.length → YRun X Z ip σ H s₀ s → St i s.heap →
      Seg (model X.prog X.w) A R (YP X Z xs) n s₀ (.builtin "proto.yield_from" ⟨[.ref it, .bool false, .none], []⟩) ((model X.prog X.w).den (.builtin "proto.yield_from" ⟨[.ref it, .bool false, .none], []⟩)) fs s := by
  obtain ⟨T, tyT, noClose, noGen⟩ := q.ty
  -- the iterator has turned
  have turned : ∀ {s₀ s : Shared} {h' : Heap} {tk : Nat}, YRun X Z ip σ H s₀ s → (∀ b o, b ≠ it → s.heap.get? b = some o → h'.get? b = some o) → YRun X Z ip σ H s₀ { s with heap := h', toks := tk } := by
    intro s₀ s h' tk r hk
    obtain ⟨zp, e1, e2, I⟩ := r
    refine ⟨zp, e1, e2, I.turned (it := it) hk hH hL hex hcell fun p hp => ?_⟩
    rcases List.mem_append.mp hp with hp | hp
    · exact hpi p (List.mem_append_left _ hp)
    · rcases List.mem_append.mp hp with hp | hp
      · intro e
        refine hZ ?_
        rw [← e, ← e1]
        exact List.mem_map.mpr ⟨p, hp, rfl⟩
      · exact hpi p (List.mem_append_right _ hp)
  intro r
  induction r with
  | zero =>
    intro i n s₀ s hi hn rr hst
    obtain rfl : i = ys.length := by omega
    rw [den_yf]
    unfold Builtin.«proto.yield_from»
    try dsimp only
    refine seg_bind (wpAny_pure ?_)
    try dsimp only
    refine seg_bind (wpAny_attempt (wpAny_holding ?_))
    rw [if_neg Bool.false_ne_true, if_pos (show (Value.none == Value.none) = true from rfl)]
    refine wpAny_bind (wpAny_rule (wpAny_bind (q.done _ s _ _ ho hst fun e h' tk stop hk => ?_)))
    obtain ⟨a, o, vs, rfl, oa, oc, od, o5⟩ := stop
    try dsimp only
    refine seg_bind (wpAny_endsTurn oa oc ?_)
    try dsimp only
    rw [if_pos rfl]
    first
      | refine seg_bind (wpAny_rule ?_)
      | (rw [if_neg Bool.false_ne_true]; refine seg_bind (wpAny_rule ?_))
      | (rw [if_neg Bool.false_ne_true]; refine seg_bind (wpAny_pure ?_); refine seg_bind (wpAny_rule ?_))
    exact seg_bind (wpAny_field oa od o5 (hend n s₀ _ hn (turned rr hk)))
  | succ r ih =>
    intro i n s₀ s hi hn rr hst
    obtain ⟨x, hx⟩ : ∃ x, ys[i]? = some x := ⟨_, List.getElem?_eq_getElem (by omega)⟩
    have hx2 := hxs i x hx
    have hlt := (List.getElem?_eq_some_iff.mp hx2).1
    obtain ⟨m, rfl⟩ : ∃ m, n = m + 1 := ⟨n - 1, by omega⟩
    rw [den_yf]
    unfold Builtin.«proto.yield_from»
    try dsimp only
    refine seg_bind (wpAny_pure ?_)
    try dsimp only
    refine seg_bind (wpAny_attempt (wpAny_holding ?_))
    rw [if_neg Bool.false_ne_true, if_pos (show (Value.none == Value.none) = true from rfl)]
    refine wpAny_bind (wpAny_rule (wpAny_bind (q.item _ i x s _ _ ho hx hst fun v h' tk rv hst' hk => wpAny_pure ?_)))
    have r1 := turned (tk := tk) rr hk
    obtain ⟨oi, hoi, hoc⟩ := tyT (i + 1) h' hst'
    try dsimp only
    refine seg_bind (wpAny_typeOf (T := T) ⟨oi, hoi, hoc⟩ ?_)
    try dsimp only
    first
      | (refine seg_bind (wpAny_of_eq noClose ?_); refine seg_bind (wpAny_pure ?_))
      | refine seg_bind (wpAny_bind (wpAny_of_eq noClose (wpAny_pure ?_)))
      | refine seg_bind (wpAny_of_eq noClose ?_)
    try dsimp only
    refine seg_bind (wpAny_sleptOver hoi hoc noGen (seg_yield hsp rfl hgd ⟨j0 + i, x, ip, σ, H, by omega, hx2, rv, r1, fun s2 z => ?_⟩))
    have r2 := r1.woken hA hip z
    have st2 : St (i + 1) s2.heap := q.frame (i + 1) h' s2.heap hst' fun b o hb e => z.keep b o (fun hm => by
      rcases hb with y | y
      · rw [y] at hm
        exact hZ hm
      · exact y (r1.at hm).1) e
    obtain ⟨oj, hoj, hojc⟩ := tyT (i + 1) s2.heap st2
    show Seg _ _ _ _ m s2 _ (Builtin.Generator.sleptOver (.ref it) false >>= fun _ => _) fs s2
    refine seg_bind (wpAny_sleptOver hoj hojc noGen ?_)
    try dsimp only
    exact seg_bind (wpAny_pure (seg_again (plainId_quiet plain_yf _) (ih (i + 1) m s2 s2 (by omega) (by omega) r2 st2)))
theorem ys_from {e : Expr} {yp pos : Pos} {t : TYf} (he : YfE X e t) (hc : X.A.handled = none) (hi : interactive X.env = false := by rfl) :
    YS X xs (.Expr (.YieldFrom e yp) pos) (fun D j σ H => t σ H fun ys H1 => (∀ i y, ys[i]? = some y → xs[j + i]? = some y) ∧ D.nx (j + ys.length) σ H1) := by
  refine ⟨fun A Z ip R n j s₀ c fs K J gd lv s σ H D g hn k r ht => ?_⟩
  obtain ⟨zp, e1, e2, I⟩ := r
  rw [exec_Expr X.env _ pos hi rfl]
  show Seg _ _ _ _ n s₀ c (.at pos fun _ => ((eval e X.env >>= fun v => (standAt yp >>= fun _ => yieldFrom X.env v)) >>= fun x => dropValue (.YieldFrom e yp) pos x).wrap K J gd lv) fs s
  refine seg_at (segw_bind2 ?_)
  rw [g.over]
  refine wpAny_mono (he.run _ s σ H _ I ht) (fun v s1 hv => ?_) fun x s' q => k.exc n s₀ x s' q
  obtain ⟨T, hT, hne, hit⟩ := hv
  refine seg_at ?_
  show Seg _ _ _ _ n s₀ c ((yieldFrom X.env v).wrap (fun b => (dropValue (.YieldFrom e yp) pos b).wrap K J gd lv) J gd lv) fs s1
  unfold yieldFrom
  refine seg_bind_wrap (wpAny_typeOf hT ?_)
  rw [if_neg (show ¬ ((Value.type T == Value.type "coroutine") = true) by rw [hne]; exact Bool.false_ne_true)]
  refine seg_bind_wrap (wpAny_holding ?_)
  rw [g.over]
  refine wpAny_mono hit (fun u s2 hu => ?_) fun x s' q => k.exc n s₀ x s' q
  obtain ⟨it, H', ys, St, rfl, I2, q1, q2, q3, q4, q5, q6, q7, hxs, hq⟩ := hu
  have r2 : YRun X Z ip σ H' s₀ s2 := ⟨zp, e1, e2, I2⟩
  have hZ : it ∉ Z := fun hm => by
    rw [← e1] at hm
    obtain ⟨p, hp, e⟩ := List.mem_map.mp hm
    exact q5 p (List.mem_append_right _ (List.mem_append_left _ hp)) e
  refine seg_call fun p => seg_from (ys := ys) (j0 := j) g.ip (fun p hp => ?_) g.aside q1 q2 q3 hZ q4 q7 ?_ ?_ ?_ hxs (fun n' s₁ s' hn' r' => ?_) ys.length 0 n s₀ s2 (Nat.zero_add _) hn r2 q6
  · rcases List.mem_append.mp hp with hp | hp
    · exact q5 p (List.mem_append_left _ hp)
    · exact q5 p (List.mem_append_right _ (List.mem_append_right _ hp))
  · show (A.over c fs).handled = none
    rw [g.over]
    exact hc
  · show (splitAtGen fs).map _ = none
    rw [g.split] <;> rfl
  · show (gd false || fs.any Frame.guarded) = false
    rw [g.gd, g.guard] <;> rfl
  · exact seg_leaf (.ok (.ret .none)) (k.ok n' (j + ys.length) s₁ s' .next hn' ⟨σ, H', r', hq⟩)
end
end L2

set_option Elab.async false
set_option linter.all false
set_option maxRecDepth 100000
set_option maxHeartbeats 800000
/-! VxZ: a generator def's promise by its body; its call. -/
namespace L2
open PySem PySem.Spec PyProof.Rows GenW
/-- arguments, heap, what will be handed out, what is wanted at the end, exceptions -/
abbrev SpY := List V → Hp → List V → (Hp → Prop) → XK → Prop
/-- the consumer's objects are as they were at the waking -/
def Still (Z : List Addr) (H : Hp) (s₀ s : Shared) : Prop := ∀ z ∈ Z, H z = none ∧ ∃ o, s₀.heap.get? z = some o ∧ s.heap.get? z = some o
def YEnd (P : Program) (w : World) (outer : List Env) (H : Hp) (s : Shared) (Z : List Addr) (a : Addr) (g : Nat) (Q : Hp → Prop) (E : XK) : GenEnd := fun n s₀ r s1 =>
  ((r = .ok (.ret .none) ∨ r = .ok .next) ∧ ∃ H', n = 0 ∧ s1.os = s.os ∧ AllBare s1.gens ∧ Un (frs outer) [] H H' s.heap s1.heap ∧ HOk P w H' s1.heap ∧ Still Z H' s₀ s1 ∧ Q H') ∨
  ∃ e, r = .error e ∧ CX P w outer H s E e s1 ∧ s1.heap.IsGen a g
def YItm (P : Program) (w : World) (outer : List Env) (H : Hp) (s : Shared) (Z : List Addr) (a : Addr) (g : Nat) (xs : List V) : Protocol := fun n s₀ v s1 kap =>
  ∃ j x H', n + 1 + j = xs.length ∧ xs[j]? = some x ∧ RelV x v ∧ s1.os = s.os ∧ AllBare s1.gens ∧ s1.heap.NoLimit ∧ s1.heap.IsGen a g ∧ Un (frs outer) [] H H' s.heap s1.heap ∧ HOk P w H' s1.heap ∧ Still Z H' s₀ s1 ∧
    ∀ s', Zzz Z s1 s' → kap (.send .none) s'
/-- a generator that has not begun -/
def YMade (P : Program) (w : World) (k : Nat) (outer : List Env) (H : Hp) (s : Shared) (xs : List V) (Q : Hp → Prop) (E : XK) (u : Value) (s' : Shared) : Prop :=
  ∃ (a : Addr) (g : Nat) (c : Code), u = .ref a ∧ s.heap.objs.size ≤ a ∧ a < s'.heap.objs.size ∧ s'.heap.IsGen a g ∧ s'.gens[g]? = some (.fresh c) ∧ s'.os = s.os ∧ AllBare s'.gens ∧ s'.heap.NoLimit ∧ (∀ b o, s.heap.get? b = some o → s'.heap.get? b = some o) ∧
    ∀ (A : Around) (Z : List Addr) (s2 : Shared), Room k A → A.frames = some outer → (∀ z ∈ Z, s'.heap.objs.size ≤ z ∧ ∃ o, s2.heap.get? z = some o ∧ ∀ v, o.data ≠ .cell v) → (∀ b o, s'.heap.get? b = some o → s2.heap.get? b = some o) → s2.os = s.os → AllBare s2.gens →
      Seg (model P w) A (YEnd P w outer H s Z a g Q E) (YItm P w outer H s Z a g xs) xs.length s2 c ((model P w).den c) [] s2
structure YDef (P : Program) (w : World) (K : PySem.W.Frag) (mg : Str → Option Value) (base : Heap) (k : Nat) (f : Addr) (fd : FuncData) (ps : List Str) (sp : SpY) : Prop where
  len : ∀ vs H xs Q E, sp vs H xs Q E → vs.length = ps.length
  run : ∀ (A : Around) (outer : List Env) (s : Shared) (H : Hp) (args : Args) (us : List Value) (vs xs : List V) (Q : Hp → Prop) (E : XK), Room k A → Env0 P w K mg base A outer s H → BindsTo s fd args (ps.zip us) → Vals vs us → sp vs H xs Q E →
    codeAny (model P w) A (.call (.ref f) args) (fun r s' => match r with | .ok (.ret u) => YMade P w k outer H s xs Q E u s' | _ => False) s
/-- the rule: such a def, by its body -/
theorem FunD.okY {P : Program} {w : World} {K : PySem.W.Frag} {mg : Str → Option Value} {base : Heap} {k : Nat} {f : Addr} {fd : FuncData} {x qual : Str} {params : Arguments} {body : List Stmt} {scope : Scope} {dvs : List V} {kws : List (Str × V)} {N ps : List Str} {sp : SpY}
    (F : FunD K x qual params body scope dvs kws f fd) (S : GScope N ps scope) (len : ∀ vs H xs Q E, sp vs H xs Q E → vs.length = ps.length)
    (hbody : ∀ (cdv : Value) (A : Around) (outer : List Env) (s : Shared) (H : Hp) (vs xs : List V) (Q : Hp → Prop) (E : XK) (pn : List (Addr × Obj)), Room k (A.deeper (envOfC qual scope s.heap.objs.size f cdv)) → sp vs H xs Q E →
      ∃ t, YSs (gcxOf P w K mg base N qual scope f cdv A outer s H E pn) xs body t ∧ t { nx := fun j _ H' => j = xs.length ∧ Q H', rt := fun j v H' => v = .non ∧ j = xs.length ∧ Q H' } 0 (start N vs) H) : YDef P w K mg base (k + 1) f fd ps sp := by
  obtain ⟨oc, od, dV, kV, doc, pm, an, cdv, ct, osl, rfl, lk, hcd, _, _⟩ := F.ex
  refine ⟨len, fun A outer s H args us vs xs Q E hr e0 hb r hsp => ?_⟩
  have hl := len _ _ _ _ _ hsp
  have kin : K.In s.heap := e0.mod.kin.keeps fun b o e => (e0.bs b o e).1
  have lim : s.heap.NoLimit := e0.mod.nolimit.keeps fun b o e => (e0.bs b o e).1
  have par : ∀ y ∈ ps.zip us, scope.names.lookup y.1 = some .local ∨ (scope.names.lookup y.1 = some .cell ∧ ((cellsFrom (s.heap.objs.size + 1) scope.names []).lookup y.1).isSome = true) := by
    intro y hy
    obtain ⟨n, v⟩ := y
    exact (S.par n (List.of_mem_zip hy).1).imp id fun q => ⟨q, PySem.W.cellsFrom_some _ _ _ (.inl q)⟩
  refine codeAny_call_generator hr.depth (kin _ _ lk) rfl S.co S.gen rfl (PySem.W.codeRec_of kin hcd) (hb _ _ _ _ (wpAny_newFunctionEnv_cells S.kind par fun env he s1 x => ?_))
  subst he
  have lim1 : s1.heap.NoLimit := lim.keeps x.toInCall.keep
  refine ⟨lim1, ?_⟩
  obtain ⟨h1, tk, es1, hk1⟩ := x.done
  have os1 : s1.os = s.os := by rw [es1]
  have gen1 : s1.gens = s.gens := by rw [es1]
  have kp1 : ∀ b o, s.heap.get? b = some o → s1.heap.get? b = some o := x.toInCall.keep
  have lt1 : s.heap.objs.size < s1.heap.objs.size := x.toInCall.ns.lt
  have made : ∀ (go : Obj) (nm qn : Value) (tk2 : Nat), go.cls = .type "generator" → go.data = .fields #[.int s1.gens.size 0, nm, qn] → go.slots = #[] → (∀ h : Heap, (h.push go).get? h.objs.size = some go) →
      YMade P w (k + 1) outer H s xs Q E (.ref s1.heap.objs.size) { s1 with gens := s1.gens.push (.fresh (.func body (envOfC qual scope s.heap.objs.size f cdv))), toks := tk2, heap := s1.heap.push go } := by
    intro go nm qn tk2 gc gd gsl gp
    have isG : ∀ h : Heap, h.get? s1.heap.objs.size = some go → h.IsGen s1.heap.objs.size s1.gens.size := fun h e => ⟨go, nm, qn, e, gc, gd, gsl⟩
    refine ⟨s1.heap.objs.size, s1.gens.size, _, rfl, Nat.le_of_lt lt1, ?_, isG _ (gp _), Array.getElem?_push_size .., os1, ?_, lim1.keeps fun b o e => Heap.get?_push_of_some _ e, fun b o e => Heap.get?_push_of_some _ (kp1 b o e), ?_⟩
    · show _ < (s1.heap.push _).objs.size
      rw [Heap.size_push]
      exact Nat.lt_succ_self _
    · exact AllBare.push (by rw [gen1]; exact e0.bare) rfl
    intro B Z s2 hrB hfB hZ k2 os2 bare2
    have e0B : Env0 P w K mg base B outer s H := ⟨hfB, e0.mod, e0.bs, e0.bsz, e0.funs, e0.frf, e0.hok, e0.bare⟩
    obtain ⟨t, ht, hq⟩ := hbody cdv B outer s H vs xs Q E [(s1.heap.objs.size, go)] (hrB.deeper _) hsp
    have I1 : Inv (gcxOf P w K mg base N qual scope f cdv B outer s H E []) [] (start N vs) H s1 := inv_startG S hrB.hd e0B hl r x
    have kp2 : ∀ b o, s1.heap.get? b = some o → s2.heap.get? b = some o := fun b o e => k2 b o (Heap.get?_push_of_some _ e)
    have I2 : Inv (gcxOf P w K mg base N qual scope f cdv B outer s H E []) [] (start N vs) H s2 :=
      I1.call' (ch := []) (os2.trans os1.symm) (Un.kept kp2) (I1.hok.kept kp2) bare2 fun b z => by simp at z
    have zlt : ∀ z ∈ Z, s1.heap.objs.size < z := fun z hz => by
      have q : (s1.heap.push go).objs.size ≤ z := (hZ z hz).1
      rw [Heap.size_push] at q
      exact q
    have ea : s2.heap.get? s1.heap.objs.size = some go := k2 _ _ (gp s1.heap)
    -- what is younger than the frame
    have young : ∀ b, s1.heap.objs.size ≤ b → H b = none ∧ b ≠ s.heap.objs.size ∧ b ∉ frs outer ∧ s.heap.objs.size ≤ b ∧ ∀ y c, (cellsFrom (s.heap.objs.size + 1) scope.names []).lookup y = some c → c ≠ b := by
      intro b hb
      refine ⟨I1.hok.fresh hb, Nat.ne_of_gt (Nat.lt_of_lt_of_le lt1 hb), I1.nofs hb, Nat.le_trans (Nat.le_of_lt lt1) hb, fun y c e z => ?_⟩
      obtain ⟨v, ob, ho, _⟩ := I1.cell y c e
      have q := Heap.lt_size ho
      rw [z] at q
      exact absurd (Nat.lt_of_lt_of_le q hb) (Nat.lt_irrefl _)
    have hA : Aside (gcxOf P w K mg base N qual scope f cdv B outer s H E [(s1.heap.objs.size, go)]) Z := fun z hz => by
      obtain ⟨_, y2, _, y4, y5⟩ := young z (Nat.le_of_lt (zlt z hz))
      refine ⟨y4, y2, y5, fun p hp => ?_⟩
      rw [List.mem_singleton.mp hp]
      exact Nat.ne_of_lt (zlt z hz)
    obtain ⟨zp, f1, f2⟩ := snap (h := s2.heap) (Z := Z) fun z hz => (hZ z hz).2
    have r0 : YRun (gcxOf P w K mg base N qual scope f cdv B outer s H E [(s1.heap.objs.size, go)]) Z [] (start N vs) H s2 s2 := by
      refine ⟨zp, f1, fun p hp => (f2 p hp).1, Inv.pinnedG I2 fun p hp => ?_⟩
      rcases List.mem_append.mp hp with z | z
      · rw [List.mem_singleton.mp z]
        obtain ⟨y1, y2, y3, _, _⟩ := young s1.heap.objs.size (Nat.le_refl _)
        exact ⟨ea, y1, y2, y3, fun v q => by rw [gd] at q; cases q⟩
      · rw [List.append_nil] at z
        have hz : p.1 ∈ Z := by
          rw [← f1]
          exact List.mem_map.mpr ⟨p, z, rfl⟩
        obtain ⟨y1, y2, y3, _, _⟩ := young p.1 (Nat.le_of_lt (zlt _ hz))
        exact ⟨(f2 p z).1, y1, y2, y3, (f2 p z).2⟩
    have isG2 : ∀ {ip : List (Addr × Obj)} {s₀ s' : Shared} {σ' : L2.St} {H' : Hp}, YRun (gcxOf P w K mg base N qual scope f cdv B outer s H E [(s1.heap.objs.size, go)]) Z ip σ' H' s₀ s' → s'.heap.IsGen s1.heap.objs.size s1.gens.size := fun {ip s₀ s' σ' H'} rr =>
      isG _ (rr.inv.pin (s1.heap.objs.size, go) (List.mem_append_left _ (List.mem_singleton.mpr rfl))).1
    have still : ∀ {ip : List (Addr × Obj)} {s₀ s' : Shared} {σ' : L2.St} {H' : Hp}, YRun (gcxOf P w K mg base N qual scope f cdv B outer s H E [(s1.heap.objs.size, go)]) Z ip σ' H' s₀ s' → Still Z H' s₀ s' := fun {ip s₀ s' σ' H'} rr z hz => ⟨(rr.at hz).1, (rr.at hz).2.2⟩
    refine seg_func (seg_imp (R := YR (gcxOf P w K mg base N qual scope f cdv B outer s H E [(s1.heap.objs.size, go)]) Z xs (fun v H' => v = .non ∧ Q H') fun e s' => CX P w outer H s E e s' ∧ ∀ p ∈ [(s1.heap.objs.size, go)], s'.heap.get? p.1 = some p.2)
      (Y := YP (gcxOf P w K mg base N qual scope f cdv B outer s H E [(s1.heap.objs.size, go)]) Z xs) (fun n s₀ r' s' hR => ?_) (fun n s₀ v s' kap kap' hkk hY => ?_) xs.length ?_)
    · cases r' with
      | error e =>
        obtain ⟨q1, q2⟩ := hR
        exact .inr ⟨e, rfl, q1, isG _ (q2 (s1.heap.objs.size, go) (List.mem_singleton.mpr rfl))⟩
      | ok fl =>
        cases fl with
        | next => exact False.elim hR
        | brk => exact False.elim hR
        | cont => exact False.elim hR
        | ret u =>
          obtain ⟨v, ip, σ', H', hn, rr, rv, ev, hQ⟩ := hR
          subst ev
          have eu : u = Value.none := rv
          subst eu
          have J := rr.inv
          exact .inl ⟨.inl rfl, H', hn, J.os, J.bare, J.base, J.hok, still rr, hQ⟩
    · obtain ⟨j, y, ip, σ', H', hn, hx, rv, rr, h3⟩ := hY
      have J := rr.inv
      exact ⟨j, y, H', hn, hx, rv, J.os, J.bare, J.nolimit, isG2 rr, J.base, J.hok, still rr, fun s3 z => hkk _ _ (h3 s3 z)⟩
    · refine ht.run B Z [] _ xs.length 0 s2 _ [] _ _ id id s2 (start N vs) H _ ⟨fun p hp => by simp at hp, hA, over_func, rfl, rfl, rfl⟩ (Nat.add_zero _) ⟨fun n j s₀ s' fl hn hs => ?_, fun n s₀ e s' hx => ?_⟩ r0 hq
      · cases fl with
        | next =>
          obtain ⟨σ', H', rr, hj, hQ⟩ := hs
          have hn0 : n = 0 := by omega
          exact seg_end (.ok (.ret .none)) ⟨.non, [], σ', H', hn0, rr, rfl, rfl, hQ⟩
        | brk => obtain ⟨_, _, _, q⟩ := hs; exact False.elim q
        | cont => obtain ⟨_, _, _, q⟩ := hs; exact False.elim q
        | ret u =>
          obtain ⟨v, σ', H', rr, rv, ev, hj, hQ⟩ := hs
          have hn0 : n = 0 := by omega
          exact seg_end (.ok (.ret u)) ⟨v, [], σ', H', hn0, rr, rv, ev, hQ⟩
      · refine seg_wrap ?_
        rw [over_func]
        exact wpAny_mono (show wpAny (model P w) (B.deeper (envOfC qual scope s.heap.objs.size f cdv)) (leaving (envOfC qual scope s.heap.objs.size f cdv) e) (fun _ s3 => CX P w outer H s E e s3 ∧ ∀ p ∈ [(s1.heap.objs.size, go)], s3.heap.get? p.1 = some p.2) (fun _ _ => False) s' from hx) (fun _ s3 q => seg_end (.error e) q) fun _ s3 q => q.elim
  exact made _ _ _ _ rfl rfl rfl fun h => Heap.get?_push_size _ rfl
/-- an expression whose value is a generator that has not begun -/
abbrev TYg := L2.St → Hp → List V → (Hp → Prop) → Prop
structure PY (X : Cx) (k : Nat) (e : Expr) (tg : TYg) (E : XK) : Prop where
  run : ∀ (pins : List (Addr × Obj)) (s : Shared) (σ : L2.St) (H : Hp) (xs : List V) (Q : Hp → Prop), Inv X pins σ H s → tg σ H xs Q → wpAny (model X.prog X.w) X.A (eval e X.env)
    (fun u s' => ∃ H1 sc, Inv X pins σ H1 sc ∧ YMade X.prog X.w k X.stack H1 sc xs Q E u s') X.xe s
end L2

set_option Elab.async false
set_option linter.all false
set_option maxRecDepth 100000
set_option maxHeartbeats 1000000
/-! VxQ: [x for x in g()], g a generator of the program. -/
namespace L2
open PySem PySem.Spec PyProof.Rows GenW
theorem no_cx {P : Program} {w : World} {outer : List Env} {H : Hp} {s : Shared} {e : Value} {s1 : Shared} (h : CX P w outer H s E0 e s1) : False := by
  obtain ⟨_, _, _, _, _, _, _, _, _, _, _, _, z⟩ := h
  exact z
section
variable {X : Cx} {e : Expr} {x : Str} {px pe pos : Pos} {scope : Scope} {k : Nat} {tg : TYg}
theorem pe_lcY (h : PY X k e tg E0) (hr : Room (k + 1) X.A) (hk : scope.kind = .function) (hu : ∀ y ∈ scope.names, scope.names.lookup y.1 = some y.2) (hf : ∀ y ∈ scope.names, y.2 ≠ .free) (hx : scope.names.lookup x = some .local)
    (hs : ∀ v, foldedSetIterable e X.env v = pure v := by intro _; rfl) (hd : (x == ("__debug__" : Str)) = false := by decide) :
    PE X (.ListComp (.Name x pe) [⟨.Name x px, e, [], 0⟩] scope pos) (fun σ H Q => ∃ xs : List V, xs.length ≤ sizeLine ∧ tg σ H xs fun H2 => ∀ p, H2 p = none → Q (.ref p) (upd H2 p (.lst xs))) := by
  refine ⟨fun pins s σ H Q I hq => ?_⟩
  obtain ⟨xs, hxs, hq⟩ := hq
  rw [eval_ListComp]
  refine wpAny_comprehension_free (use := none) rfl hs (closure_ok fun y hy q => absurd q (hf y hy)) hk (fun y hy q => by rw [hu y hy, q]) (thn (h.run pins s σ H xs _ I hq) fun u s1 hg => ?_)
  obtain ⟨H1, sc, I1, a, g, c, rfl, a1, a2, isG, hgs, os1, bare1, lim1, kp1, wake⟩ := hg
  refine wpAny_pyIter_gen isG (wpAny_newObj_type (newEnv_comp ?_) (by show 0 ≤ sizeLine; decide))
  -- the list, the names
  generalize hD : s1.heap.objs.size = D
  generalize hs3 : ({ s1 with heap := s1.heap.push { cls := .type "list", data := .seq ([] : List Value).toArray } } : Shared) = s3
  have h3 : s3.heap = s1.heap.push { cls := .type "list", data := .seq ([] : List Value).toArray } := by rw [← hs3]
  generalize hC : s3.heap.objs.size = C
  have hCD : C = D + 1 := by rw [← hC, h3, Heap.size_push, hD]
  show codeAny _ _ (.compStart (.ListComp (.Name x pe) [⟨.Name x px, e, [], 0⟩] scope pos) 0 (.ref a) (.ref D) (compEnvC scope (cellsFrom (C + 1) scope.names (cloFrom X.env.cells scope.names [])) C X.env)) (compPost (model X.prog X.w) X.A X.xe none (EP X pins σ Q) (.ref D) C) { s3 with heap := pushCells (s3.heap.push { cls := .type "dict", data := .dict #[] }) scope.names }
  generalize hce : compEnvC scope (cellsFrom (C + 1) scope.names (cloFrom X.env.cells scope.names [])) C X.env = ce
  have cL : ce.locals = C := by subst hce; rfl
  have cK : ce.scope.kind = .function := by subst hce; exact hk
  have cX : ce.kindOf x = some .local := by
    subst hce
    exact lookup_relabel_local hx
  have cP : (ce.scope.kind == .class || (ce.scope.kind == .module && ce.locals != ce.globals)) = false := by
    rw [cK]
    rfl
  generalize hs4 : ({ s3 with heap := pushCells (s3.heap.push { cls := .type "dict", data := .dict #[] }) scope.names } : Shared) = s4
  have h4 : s4.heap = pushCells (s3.heap.push { cls := .type "dict", data := .dict #[] }) scope.names := by rw [← hs4]
  have k13 : ∀ b o, s1.heap.get? b = some o → s3.heap.get? b = some o := fun b o q => by rw [h3]; exact Heap.get?_push_of_some _ q
  have k34 : ∀ b o, s3.heap.get? b = some o → s4.heap.get? b = some o := fun b o q => by rw [h4]; exact pushCells_keeps _ _ _ _ (Heap.get?_push_of_some _ q)
  have k14 : ∀ b o, s1.heap.get? b = some o → s4.heap.get? b = some o := fun b o q => k34 b o (k13 b o q)
  have os4 : s4.os = sc.os := by rw [← hs4, ← hs3]; exact os1
  have gens4 : s4.gens = s1.gens := by rw [← hs4, ← hs3]
  have eD : s4.heap.get? D = some (lstObj #[] 0) := k34 D _ (by rw [h3, ← hD]; exact Heap.get?_push_size _ rfl)
  have eC : s4.heap.Ns C fun _ => none := by
    rw [h4, ← hC]
    exact (Heap.Ns.new s3.heap (.type "dict")).keeps (pushCells_keeps _ _)
  have aD : a ≠ D := fun z => by
    rw [← hD] at z
    exact Nat.lt_irrefl _ (z ▸ a2)
  have aC : a ≠ C := fun z => by
    rw [hCD, ← hD] at z
    exact Nat.lt_irrefl _ (Nat.lt_of_lt_of_le (z ▸ a2) (Nat.le_succ _))
  have DC : D ≠ C := fun z => by
    rw [hCD] at z
    exact Nat.lt_irrefl D (by
      have q : D < D + 1 := Nat.lt_succ_self D
      rw [← z] at q
      exact q)
  have scD : sc.heap.objs.size ≤ D := by
    rw [← hD]
    exact Nat.le_trans a1 (Nat.le_of_lt a2)
  have scC : sc.heap.objs.size ≤ C := Nat.le_trans scD (by rw [hCD]; exact Nat.le_succ D)
  have sD : cStatics ≠ D := fun z => by
    obtain ⟨mc, hn, _⟩ := lim1
    have q := hn.lt
    rw [z, ← hD] at q
    exact Nat.lt_irrefl _ q
  have sC : cStatics ≠ C := fun z => by
    obtain ⟨mc, hn, _⟩ := lim1
    have q := hn.lt
    rw [z, hCD, ← hD] at q
    exact Nat.lt_irrefl _ (Nat.lt_of_lt_of_le q (Nat.le_succ _))
  -- the state between two items
  have loop : codeAny (model X.prog X.w) X.A (.compLoop (.ListComp (.Name x pe) [⟨.Name x px, e, [], 0⟩] scope pos) 0 (.ref a) (.ref D) ce) (compPost (model X.prog X.w) X.A X.xe none (EP X pins σ Q) (.ref D) C) s4 := by
    refine compLoop_any (fun n s5 => ∃ (j : Nat) (gs : GenState) (acc : Array Value) (cc : Nat) (m : Str → Option Value), n + j = xs.length ∧ s5.gens[g]? = some gs ∧
      gs.Goes (model X.prog X.w) X.A.in1 (YEnd X.prog X.w X.stack H1 sc [D, C] a g (fun H2 => ∀ p, H2 p = none → Q (.ref p) (upd H2 p (.lst xs))) E0) (YItm X.prog X.w X.stack H1 sc [D, C] a g xs) n (.send .none) (s5.setGen g .running) ∧
      s5.heap.get? D = some (lstObj acc cc) ∧ Vals (xs.take j) acc.toList ∧ s5.heap.Ns C m ∧ s5.heap.IsGen a g ∧ s5.heap.NoLimit ∧ s5.os = sc.os ∧ AllBare s5.gens) ?_ xs.length ?_
    · rintro n s5 ⟨j, gs, acc, cc, m, hn, hg5, go5, d5, v5, c5, i5, l5, o5, b5⟩
      have gl : g < s5.gens.size := (Array.getElem?_eq_some_iff.mp hg5).1
      refine wpAny_gsz (n := g + 1) gl (next_genG (A := X.A) hr.hd l5 hr.depth i5 hg5 (F := fun n s₀ s1 => ∃ H', n = 0 ∧ s1.os = sc.os ∧ AllBare s1.gens ∧ Un (frs X.stack) [] H1 H' sc.heap s1.heap ∧ HOk X.prog X.w H' s1.heap ∧ Still [D, C] H' s₀ s1 ∧ ∀ p, H' p = none → Q (.ref p) (upd H' p (.lst xs)))
        (Er := fun e s1 => CX X.prog X.w X.stack H1 sc E0 e s1 ∧ s1.heap.IsGen a g) go5 (fun v s6 gs' bare6 hv => ?_) (fun s6 hp h' hk => ?_) fun er s6 he => (no_cx he.1).elim)
      · -- an item
        intro hsz
        obtain ⟨j', y, H', hn', hy, rv, o6, b6, l6, i6, un6, hok6, st6, kap⟩ := hv
        obtain ⟨q1, oD, q2, q3⟩ := st6 D List.mem_cons_self
        obtain ⟨z1, oC, z2, z3⟩ := st6 C (List.mem_cons_of_mem _ List.mem_cons_self)
        have d6 : s6.heap.get? D = some (lstObj acc cc) := by
          rw [q3, ← q2]
          exact d5
        have c6 : s6.heap.Ns C m := c5.at' fun o eo => by
          have w : some oC = some o := z2.symm.trans eo
          rw [z3, w]
        obtain ⟨og, nm, qn, g1, g2, g3, g4⟩ := id i6
        refine go_of (s := s6.setGen g gs') g1 g2 g3 (by decide) ?_
        refine wpAny_assign_Name (wpAny_storeName_local (s := s6.setGen g gs') cX (by rw [cL]; exact c6) (fun h7 n7 sb7 => ?_) cP)
        rw [cL] at n7 sb7
        refine wpAny_tests_nil ?_
        rw [if_pos rfl]
        refine wpAny_Name (wpAny_loadName_local cK cX (v := v) (by rw [cL]; exact n7) (by simp) ?_) hd
        have d7 : h7.get? D = some (lstObj acc cc) := (sb7.2 D DC).trans d6
        have sz : acc.size = j := by
          have q := v5.length
          rw [List.length_take] at q
          have q2 : acc.toList.length = acc.size := by simp
          omega
        refine append_at d7 (fun h8 sb8 d8 => ?_) (by rw [sz]; omega)
        have k68 : ∀ b o, b ≠ D → b ≠ C → s6.heap.get? b = some o → h8.get? b = some o := fun b o n1 n2 q => (sb8.2 b n1).trans ((sb7.2 b n2).trans q)
        have c8 : h8.Ns C _ := n7.at' fun o q => (sb8.2 C (Ne.symm DC)).trans q
        have g6 : g < s6.gens.size := by
          have q : (s6.setGen g gs').gens.size = s6.gens.size := setGen_size _ _ _
          have q2 : g + 1 ≤ (s6.setGen g gs').gens.size := hsz
          omega
        have b8 : AllBare (s6.setGen g gs').gens := allBare_setGen b6 bare6
        obtain ⟨mc, ln, lx⟩ := l6
        have zz : Zzz [D, C] s6 (({ s6.setGen g gs' with toks := (s6.setGen g gs').toks + 1, heap := h8 } : Shared).setGen g .running) := by
          refine ⟨rfl, allBare_setGen (s := { s6.setGen g gs' with toks := (s6.setGen g gs').toks + 1, heap := h8 }) b8 rfl, fun b o hb q => ?_, fun z hz => ?_⟩
          · exact k68 b o (fun w => hb (by rw [w]; exact List.mem_cons_self)) (fun w => hb (by rw [w]; exact List.mem_cons_of_mem _ List.mem_cons_self)) q
          · rcases List.mem_cons.mp hz with w | w
            · rw [w]
              exact ⟨_, d8, fun v w => by cases w⟩
            · rw [List.mem_singleton.mp w]
              obtain ⟨o, es, ep, w1, w2, _⟩ := id c8
              exact ⟨o, w1, fun v w => by rw [w2] at w; cases w⟩
        have go8 := kap _ zz
        cases n with
        | zero => exact go8.elim
        | succ n =>
          have jj : j' = j := by omega
          subst jj
          refine ⟨n, Nat.lt_succ_self n, j' + 1, gs', acc.push v, cc + 1, _, by omega, setGen_at g6, go8, d8, ?_, c8, ⟨og, nm, qn, k68 a og aD aC g1, g2, g3, g4⟩, ⟨mc, ln.at' fun o q => k68 _ o sD sC q, lx⟩, o6, b8⟩
          rw [Array.toList_push, List.take_add_one, hy]
          exact v5.append (.cons rv .nil)
      · -- the end
        intro _
        obtain ⟨H', hn0, o6, b6, un6, hok6, st6, qq⟩ := hp
        obtain ⟨q1, oD, q2, q3⟩ := st6 D List.mem_cons_self
        obtain ⟨z1, oC, z2, z3⟩ := st6 C (List.mem_cons_of_mem _ List.mem_cons_self)
        have d6 : s6.heap.get? D = some (lstObj acc cc) := by
          rw [q3, ← q2]
          exact d5
        have c6 : s6.heap.Ns C m := c5.at' fun o eo => by
          have w : some oC = some o := z2.symm.trans eo
          rw [z3, w]
        have v6 : Vals xs acc.toList := by
          have w := v5
          rw [List.take_of_length_le (by omega)] at w
          exact w
        have J : Inv X pins σ (upd H' D (.lst xs)) { s6.setGen g .finished with heap := h' } :=
          I1.drained scD hxs (hk _ _ d6) v6 .nil o6 (allBare_setGen (s := s6) b6 rfl) (un6.trans (Un.kept hk)) (hok6.kept hk) q1
        have nC : (upd H' D (.lst xs)) C = none := by
          rw [upd_ne (Ne.symm DC)]
          exact z1
        obtain ⟨f0, f1, f2, f3, f4, f5⟩ := I1.fpOk scC nC
        refine ⟨m, c6.keeps hk, fun h9 sb9 => ⟨.ref D, _, J.turned (t' := s6.toks) (fun b o hb q => (sb9.2 b hb).trans q) f0 f1 f3 f4 f5, rfl, qq D q1⟩⟩
    · refine ⟨0, .fresh c, #[], 0, _, Nat.add_zero _, ?_, ⟨rfl, ?_⟩, eD, .nil, eC, isG.keeps k14, lim1.keeps k14, os4, by rw [gens4]; exact bare1⟩
      · rw [gens4]
        exact hgs
      · refine wake X.A.in1 [D, C] (s4.setGen g .running) hr.in1 I1.ok.frames (fun z hz => ?_) k14 os4 (allBare_setGen (s := s4) (by rw [gens4]; exact bare1) rfl)
        rcases List.mem_cons.mp hz with w | w
        · rw [w]
          exact ⟨Nat.le_of_eq hD, _, eD, fun v w => by cases w⟩
        · rw [List.mem_singleton.mp w]
          obtain ⟨o, es, ep, w1, w2, _⟩ := id eC
          exact ⟨by rw [hCD, hD]; exact Nat.le_succ D, o, w1, fun v w => by rw [w2] at w; cases w⟩
  exact codeAny_compStart_list loop (wpAny_pyIter_gen (isG.keeps k14) loop)
end
end L2

set_option Elab.async false
set_option linter.all false
set_option maxRecDepth 100000
set_option maxHeartbeats 2000000
/-! VxP: a value's type and what isinstance says of it, for values that are data. -/
namespace L2
open PySem PySem.Spec PyProof.Rows
def tyN : PyData → String
  | .none => "NoneType"
  | .bool _ => "bool"
  | .int _ => "int"
  | .str _ => "str"
  | .list _ => "list"
  | .tuple _ => "tuple"
  | .dict _ => "dict"
theorem ty_lst {K : PySem.W.Frag} {H : Hp} {a : Addr} {xs : List V} (h : SqL K H a xs) : TyX K H (.ref a) (.type "list") := by
  rcases h with h | ⟨o, its, n, e, c, _⟩
  · rcases h with h | ⟨o, h⟩
    · exact .base (.lst h)
    · exact .base (.frz h)
  · exact .kList e c
theorem ty_tup {K : PySem.W.Frag} {H : Hp} {a : Addr} {xs : List V} (h : SqT K H a xs) : TyX K H (.ref a) (.type "tuple") := by
  rcases h with h | ⟨o, its, n, e, c, _⟩
  · rcases h with h | ⟨o, h⟩
    · exact .base (.tup h)
    · exact .fTuple h
  · exact .kTuple e c
theorem Sd.ty {K : PySem.W.Frag} {H : Hp} {v : V} {d : PyData} (h : Sd K H v d) : TyX K H v (.type (tyN d)) := by
  cases h with
  | non => exact .base .non
  | bl b => exact .base (.bl b)
  | int i => exact .base (.int i)
  | str x => exact .base (.str x)
  | lst h _ => exact ty_lst h
  | tup h _ => exact ty_tup h
  | emp h => exact .base (.dK h)
  | one h _ => exact .base (.dK h)
/-- isinstance's answer -/
def isD (d : PyData) (t : String) : Bool := tyN d == t || (t == "int" && tyN d == "bool")
def plainT (t : String) : Bool := ["int", "bool", "str", "tuple", "list", "dict"].contains t
theorem kit_data {K : PySem.W.Frag} (d : PyData) {t : String} (h : plainT t = true) : PySem.W.kitOne K (.type (tyN d)) (.type t) = some (isD d t) := by
  have e : t = "int" ∨ t = "bool" ∨ t = "str" ∨ t = "tuple" ∨ t = "list" ∨ t = "dict" := by
    unfold plainT at h
    simpa using h
  have key : kitB (tyN d) t = some (isD d t) := by
    rcases e with rfl | rfl | rfl | rfl | rfl | rfl <;> cases d <;> first | decide +kernel | rfl
  exact kit_ty key
section
variable {X : Cx}
/-- isinstance(v, T) of data -/
def rIsD (K : PySem.W.Frag) : List V → Hp → VK → Prop := fun xs H Q => ∃ (v : V) (d : PyData) (t : String), xs = [v, .ty t] ∧ plainT t = true ∧ Sd K H v d ∧ Q (.bl (isD d t)) H
theorem call_isD : CallR X (.builtin "isinstance") (rIsD X.K) := by
  intro pins s σ H xs us Q I r h
  obtain ⟨v, d, t, rfl, ht, hv, q⟩ := h
  exact call_isi pins s σ H _ us Q I r ⟨v, .ty t, _, .type t, _, rfl, .ty t, hv.ty, kit_data d ht, q⟩
end
end L2

set_option Elab.async false
set_option linter.all false
set_option maxRecDepth 100000
/-! VxTy: != of built-in types. -/
namespace PySem.TypeEq
open Sem (wp)
theorem slot_type_ne : Slot "type" (cmpInfo .NotEq).2.1 "object.__ne__" :=
  .of (owner := "object") (n := "__ne__") (by rw [typeLookup_type, builtinLookup_eq_fast]; kernel_rfl) (by decide +kernel) (by decide +kernel) (by decide +kernel)
    (by first | exact .inl (by decide +kernel) | exact .inr (by decide +kernel)) (by rw [isSubtype_type]; kernel_rfl)
theorem slot_type_ne_refl : Slot "type" (cmpInfo .NotEq).2.2 "object.__ne__" :=
  .of (owner := "object") (n := "__ne__") (by rw [typeLookup_type, builtinLookup_eq_fast]; kernel_rfl) (by decide +kernel) (by decide +kernel) (by decide +kernel)
    (by first | exact .inl (by decide +kernel) | exact .inr (by decide +kernel)) (by rw [isSubtype_type]; kernel_rfl)
section
variable {prog : Program} {w : World} {A : Around} {E : Value → Shared → Prop} {s : Shared}
theorem ne_entry_same {X : String} (hX : ∀ s' : Shared, s'.TypeIs (.type X) "type") {Q : PySem.Fin → Shared → Prop} (q : Q (.done (.ret (.bool false))) s) : wpAny (model prog w) A (Builtin.«object.__ne__» ⟨[.type X, .type X], []⟩) Q E s := by
  unfold Builtin.«object.__ne__»
  repeat (first
    | with_reducible refine wpAny_cRoomFor_byValue rfl ?_
    | (refine wpAny_bind (m := callSpecialIfBound? (.type X) (Str.ofString "__eq__") [.type X])
        (wpAny_callSpecialIfBound?_slot (hX s) slot_type_eq (call_gives slot_type_eq (hX s) F.entry_object_eq (F.args_object_eq_2 _ _) (object_eq_same rfl (by simp)) ?_)))
    | wp_step)
  exact wpAny_bind (wpAny_truthy_bool (wpAny_pure q))
theorem ne_entry_other {X Y : String} (hX : ∀ s' : Shared, s'.TypeIs (.type X) "type") (hne : (Value.type X == Value.type Y) = false) {Q : PySem.Fin → Shared → Prop} (q : Q (.done (.ret .notImplemented)) s) : wpAny (model prog w) A (Builtin.«object.__ne__» ⟨[.type X, .type Y], []⟩) Q E s := by
  unfold Builtin.«object.__ne__»
  repeat (first
    | with_reducible refine wpAny_cRoomFor_byValue rfl ?_
    | (refine wpAny_bind (m := callSpecialIfBound? (.type X) (Str.ofString "__eq__") [.type Y])
        (wpAny_callSpecialIfBound?_slot (hX s) slot_type_eq (call_gives slot_type_eq (hX s) F.entry_object_eq (F.args_object_eq_2 _ _) (object_eq_other rfl hne) ?_)))
    | wp_step)
  exact wpAny_pure q
theorem ne_type_same {X : String} {Q : Value → Shared → Prop} (hX : ∀ s' : Shared, s'.TypeIs (.type X) "type") (h : Q (.bool false) s) : wpAny (model prog w) A (compareOp .NotEq (.type X) (.type X)) Q E s := by
  show wpAny _ A (richCompare .NotEq _ _) Q E s
  exact wpAny_richCompare_same (T := "type") (hX s) (hX s) slot_type_ne
    (wpAny_call_entry slot_type_ne (hX s) F.cmpEntry_ne (ne_entry_same hX ⟨_, rfl, (by intro e; cases e), h⟩) (F.cmpArgs_ne _ _))
theorem ne_type_other {X Y : String} {Q : Value → Shared → Prop} (hX : ∀ s' : Shared, s'.TypeIs (.type X) "type") (hY : ∀ s' : Shared, s'.TypeIs (.type Y) "type") (hne : (Value.type X == Value.type Y) = false) (h : Q (.bool true) s) : wpAny (model prog w) A (compareOp .NotEq (.type X) (.type Y)) Q E s := by
  have hne' : (Value.type Y == Value.type X) = false := by
    rw [Bool.eq_false_iff] at hne ⊢
    intro e
    exact hne (by rw [beq_iff_eq] at e ⊢; exact e.symm)
  show wpAny _ A (richCompare .NotEq _ _) Q E s
  simp only [richCompare, cmpInfo_NotEq, (hX s).oneThing_none]
  try with_reducible refine wpAny_holding ?_
  refine wpAny_bind (wpAny_cRoomFor_byValue rfl ?_)
  refine wpAny_bind (wpAny_typeOf (hX s) (wpAny_bind (wpAny_typeOf (hY s) ?_)))
  simp only [bne_self_eq_false, Bool.false_eq_true, if_false, pure_bind, Bool.not_false, if_true]
  refine wpAny_bind (wpAny_tryCompare_declines (hX s) slot_type_ne (wpAny_call_entry slot_type_ne (hX s) F.cmpEntry_ne (ne_entry_other hX hne ⟨_, rfl, rfl, ?_⟩) (F.cmpArgs_ne _ _)))
  refine wpAny_bind (wpAny_tryCompare_declines (hY s) slot_type_ne_refl (wpAny_call_entry slot_type_ne_refl (hY s) F.cmpEntry_ne (ne_entry_other hY hne' ⟨_, rfl, rfl, ?_⟩) (F.cmpArgs_ne _ _)))
  refine wpAny_bind (wpAny_rule (wpAny_bind (wpAny_of_eq (isSame_plain rfl) (wpAny_pure ?_))))
  rw [hne]
  exact h
end
end PySem.TypeEq

set_option Elab.async false
set_option linter.all false
set_option maxRecDepth 100000
set_option maxHeartbeats 2000000
/-! VxSt: type(v) of data, == and != of built-in types, set(t) of a tuple of integers, sorted of a set of any size. -/
namespace L2
open PySem PySem.Spec PyProof.Rows
/-- the heap has grown; nothing else is told of the two states -/
structure Grown (s s' : Shared) : Prop where
  old : ∀ b o, s.heap.get? b = some o → s'.heap.get? b = some o
  big : s.heap.objs.size ≤ s'.heap.objs.size
  gens : s'.gens = s.gens
  os : s'.os = s.os
section
variable {P : Program} {w : World} {A : Around} {E : Value → Shared → Prop} {s : Shared}
/-- sorted(x), where gathering x gives integers, however many -/
theorem sorted_gathered {x : Value} {ns : List Int} {Q : Value → Shared → Prop} (small : ns.length ≤ sizeLine)
    (gather : ∀ R : List Value → Shared → Prop, (∀ s1 vs ms, Grown s s1 → IntsAre vs ms → ms.Perm ns → R vs s1) → wpAny (model P w) A.in1 (collect x) R E s)
    (after : ∀ s' p out c ms, Grown s s' → s.heap.objs.size ≤ p → s'.heap.get? p = some (seqObj "list" (List.toArray out) c) → IntsAre out ms → ms.Perm ns → ms.Pairwise (· ≤ ·) → Q (.ref p) s') :
    wpAny (model P w) A (call (.builtin "sorted") [x]) Q E s := by
  apply Calls.call_function_entry kind_sorted plain_sorted entry_sorted (args_sorted1 x)
  unfold Builtin.«sorted»
  apply wpAny_bind
  apply wpAny_pure
  apply wpAny_bind
  apply gather
  intro s1 vs ms gr whole_ perm
  have room : vs.length ≤ sizeLine := by
    rw [whole_.length, perm.length_eq]
    exact small
  apply wpAny_bind
  refine wpAny_newList ?_ room
  have made : (s1.heap.push (seqObj "list" vs.toArray 0)).get? s1.heap.objs.size = some (seqObj "list" vs.toArray 0) := Heap.get?_push_size _ rfl
  apply wpAny_bind
  apply wpAny_holding
  refine wpAny_call_entry slot_list_sort ⟨_, made, rfl⟩ entry_list_sort ?_ (args_list_sort _)
  refine SrtO.list_sort_ord SrtO.swo_int made room (fun two => SrtO.ints_sortable whole_ two) fun out so st => ?_
  obtain ⟨i1, i2, i3⟩ := SrtO.ints_out whole_ so st
  obtain ⟨c, lies⟩ := sortedHeap_at (vs := vs) (out := out.toArray) made
  refine ⟨_, rfl, wpAny_pure ⟨_, rfl, after _ _ out c _ ⟨fun b u e => ?_, ?_, gr.gens, gr.os⟩ gr.big lies i1 (i2.trans perm) i3⟩⟩
  · have e1 := gr.old b u e
    have lt := Heap.lt_size e1
    have ne : b ≠ s1.heap.objs.size := Nat.ne_of_lt lt
    refine Eq.trans (sortedHeap_old ne ?_) (Heap.get?_push_of_some _ e1)
    rw [size_push']
    exact Nat.lt_succ_of_lt lt
  · exact Nat.le_trans gr.big (Nat.le_of_lt (Heap.lt_size lies))
theorem sorted_setN {a : Addr} {S : Int → Bool} {n : Nat} {Q : Value → Shared → Prop} (R : SetR w s.heap a S n) (hh : A.handled = none) (small : n ≤ sizeLine)
    (after : ∀ s' p out c (ms : List Int), Grown s s' → s.heap.objs.size ≤ p → s'.heap.get? p = some (seqObj "list" (List.toArray out) c) → IntsAre out ms → ms.Pairwise (· < ·) → (∀ k, k ∈ ms ↔ S k = true) → ms.length = n → Q (.ref p) s') :
    wpAny (model P w) A (call (.builtin "sorted") [.ref a]) Q E s := by
  obtain ⟨o, es, ep, t, at_, kind, data, keys, dis, mem, few, fit, count, ris, led⟩ := R
  have len : (es.toList.map keyOf).length = n := by
    rw [List.length_map, Array.length_toList]
    exact count
  refine sorted_gathered (ns := es.toList.map keyOf) (by rw [len]; exact small) (fun G more => ?_) fun s' p out c ms gr hp lies whole_ perm asc => ?_
  · refine collect_set (A := A.in1) hh ⟨o, at_, kind.1, data⟩ fit few ris led fun s1 vs keep big gens os perm => more s1 vs (vs.map Builtin.Re.reRawOf) ⟨keep, big, gens, os⟩ (ints_of vs fun v hv => ?_) ?_
    · obtain ⟨e, he, q⟩ := List.mem_map.mp (perm.mem_iff.mp hv)
      obtain ⟨k, tk, h1, _⟩ := keys e he
      exact ⟨k, tk, q ▸ h1⟩
    · have q := perm.map Builtin.Re.reRawOf
      rwa [List.map_map] at q
  · refine after s' p out c ms gr hp lies whole_ (lt_of_le_nodup _ asc (perm.nodup_iff.mpr dis)) (fun k => ?_) (perm.length_eq.trans len)
    rw [perm.mem_iff, ← mem k]
end
section
variable {X : Cx}
/-- set(t), a tuple of whole_ -/
def rSetT (K : PySem.W.Frag) (w : World) : List V → Hp → VK → Prop := fun vs H Q => ∃ (p : Addr) (ns : List Int), vs = [.ref p] ∧ SqT K H p (ns.map V.int) ∧ ns.length + 1 < scanBound ∧ ∀ a c, H a = none → c ≤ ns.length → Q (.ref a) (upd H a (SetO w a (fun j => decide (j ∈ ns)) c))
theorem cr_setT (hc : X.calm = true) : CallR X (.type "set") (rSetT X.K X.w) := by
  intro pins s σ H vs us Q I r h
  obtain ⟨p, ns, rfl, hq, hb, q⟩ := h
  rw [Vals.ref1 r]
  obtain ⟨its, rv, pt, hz⟩ := I.tuple hq
  refine call_set_tupI ns (I.ok.hd hc) (show s.heap.IsTuple p its.toArray from pt) (ints_of_vals rv) hb fun h' tk c R hcn k => ?_
  exact ⟨.ref _, upd H s.heap.objs.size (SetO X.w s.heap.objs.size (fun j => decide (j ∈ ns)) c), I.laid (t' := tk) k (Nat.le_refl _) (setO_new R), rfl, q _ c (I.hok.fresh (Nat.le_refl _)) hcn⟩
/-- sorted(found), a set of whole_ of any size -/
def rSortedSetN (w : World) : List V → Hp → VK → Prop := fun vs H Q => ∃ (a : Addr) (S : Int → Bool) (n : Nat), vs = [V.ref a] ∧ H a = some (SetO w a S n) ∧ n ≤ sizeLine ∧
  ∀ (ns : List Int) (p : Addr), ns.Pairwise (· < ·) → (∀ k : Int, k ∈ ns ↔ S k = true) → ns.length = n → H p = none → Q (.ref p) (upd H p (.lst (ns.map V.int)))
theorem cr_sortedSetN (hc : X.calm = true) : CallR X (.builtin "sorted") (rSortedSetN X.w) := by
  intro pins s σ H vs us Q I r h
  obtain ⟨a, S, n, rfl, ha, hz, q⟩ := h
  have R := setO_get I ha
  rw [Vals.ref1 r]
  refine sorted_setN R (I.ok.hd hc) hz fun s' p out c ns gr hp lies whole_ asc mem len => ?_
  have room : (ns.map V.int).length ≤ sizeLine := by
    rw [List.length_map, len]
    exact hz
  have fresh : H p = none := I.hok.fresh hp
  have whole : s' = { s with heap := s'.heap, gens := s'.gens, drawn := s'.drawn, toks := s'.toks } := by
    obtain ⟨_, _, _, _, os'⟩ := s'
    have eo : os' = s.os := gr.os
    rw [eo]
  rw [whole]
  refine ⟨.ref p, upd H p (.lst (ns.map V.int)), ?_, rfl, q ns p asc mem len fresh⟩
  exact I.call (ch := []) (Un.laid gr.old hp fresh) (I.hok.laid gr.old hp ⟨room, out, c, vals_of_ints whole_, lies⟩) (by rw [gr.gens]; exact I.bare) fun _ z => nomatch z
/-- type(v) of data -/
theorem sd_typeIs {pins : List (Addr × Obj)} {σ : L2.St} {H : Hp} {s : Shared} {v : V} {u : Value} {d : PyData} (I : Inv X pins σ H s) (r : RelV v u) (h : Sd X.K H v d) : s.TypeIs u (tyN d) := by
  cases h with
  | non => cases (show u = Value.none from r); exact rfl
  | bl b => cases (show u = Value.bool b from r); exact rfl
  | int i => obtain ⟨t, rfl⟩ := (show ∃ t, u = Value.int i t from r); exact rfl
  | str x => obtain ⟨t, rfl⟩ := (show ∃ t, u = Value.str x t from r); exact rfl
  | lst h _ =>
    obtain ⟨its, rv, hl, hz⟩ := I.list h
    obtain ⟨o, n, ho, hc, _⟩ := hl
    cases (show u = Value.ref _ from r)
    exact ⟨o, ho, hc⟩
  | tup h _ =>
    obtain ⟨its, rv, hl, hz⟩ := I.tuple h
    obtain ⟨o, ho, hc, _⟩ := hl
    cases (show u = Value.ref _ from r)
    exact ⟨o, ho, hc⟩
  | emp e =>
    cases (show u = Value.ref _ from r)
    obtain ⟨_, _, vs, _, o, es, ep, h1, h2, _⟩ := I.hok _ _ e
    exact ⟨o, h1, h2.1⟩
  | one e _ =>
    cases (show u = Value.ref _ from r)
    obtain ⟨_, _, vs, _, o, es, ep, h1, h2, _⟩ := I.hok _ _ e
    exact ⟨o, h1, h2.1⟩
def rTyD (K : PySem.W.Frag) : List V → Hp → VK → Prop := fun xs H Q => ∃ (v : V) (d : PyData), xs = [v] ∧ Sd K H v d ∧ Q (.ty (tyN d)) H
theorem call_tyD : CallR X (.type "type") (rTyD X.K) := by
  intro pins s σ H xs us Q I r h
  obtain ⟨v, d, rfl, hv, q⟩ := h
  obtain ⟨u, rfl, ru⟩ := vals1 r
  exact call_type_of (sd_typeIs I ru hv) (by cases d <;> simp only [tyN] <;> decide +kernel) ⟨.ty (tyN d), H, I, rfl, q⟩
/-- T != U of built-in types -/
def tyOk (t : String) : Bool := ["NoneType", "bool", "int", "str", "tuple", "list", "dict"].contains t
theorem meta_tyOk {t : String} (h : tyOk t = true) : ∀ s' : Shared, s'.TypeIs (.type t) "type" := by
  have e : t = "NoneType" ∨ t = "bool" ∨ t = "int" ∨ t = "str" ∨ t = "tuple" ∨ t = "list" ∨ t = "dict" := by
    unfold tyOk at h
    simpa using h
  rcases e with rfl | rfl | rfl | rfl | rfl | rfl | rfl
  · exact PySem.TypeEq.meta_NoneType
  · exact PySem.TypeEq.meta_bool
  · exact PySem.TypeEq.meta_int
  · exact PySem.TypeEq.meta_str
  · exact PySem.TypeEq.meta_tuple
  · exact PySem.TypeEq.meta_list
  · exact PySem.TypeEq.meta_dict
theorem tyN_ok (d : PyData) : tyOk (tyN d) = true := by cases d <;> simp only [tyN] <;> decide
def rNeTy : R2 := fun x y H Q => ∃ m n : String, x = .ty m ∧ y = .ty n ∧ tyOk m = true ∧ tyOk n = true ∧ Q (.bl (!decide (m = n))) H
theorem op_neTy : OpR X (compareOp .NotEq) rNeTy := by
  intro pins s σ H x y v u Q I rx ry h
  obtain ⟨m, n, rfl, rfl, hm, hn, q⟩ := h
  cases (show v = Value.type m from rx)
  cases (show u = Value.type n from ry)
  by_cases e : m = n
  · subst e
    exact PySem.TypeEq.ne_type_same (meta_tyOk hm) ⟨.bl false, H, I, rfl, by simpa using q⟩
  · exact PySem.TypeEq.ne_type_other (meta_tyOk hm) (meta_tyOk hn) (beq_eq_false_iff_ne.mpr fun z => e (Value.type.inj z)) ⟨.bl true, H, I, rfl, by simpa [e] using q⟩
end
end L2

set_option Elab.async false
set_option linter.all false
set_option maxRecDepth 100000
set_option maxHeartbeats 1000000
/-! VxI: == of objects of the program's classes without an own __eq__: the same object or not. -/
namespace VxS
open PySem PySem.W
section
variable {prog : Program} {w : World} {K : Frag} {A : Around} {E : Value → Shared → Prop} {s : Shared} {C D x y : Addr} {ox oy : Obj}
/-- what of the text a class must have -/
structure EqC (K : Frag) (C : Addr) : Prop where
  eq : findIn K (.ref C) "__eq__" = some (some (.builtin "object.__eq__"))
  top : mroIn K C (.type "object") = some true
theorem eq_check (X : K.In s.heap) (T : EqC K C) (hx : s.heap.get? x = some ox) (hc : ox.cls = .ref C) {b : Value} {Q : Unit → Shared → Prop} (q : Q () s) : wpAny (model prog w) A (checkBuiltinCall "object.__eq__" ⟨[.ref x, b], []⟩) Q E s := by
  simp only [checkBuiltinCall, F.cmpKind_eq, F.cmpSplit_eq]
  refine wpAny_bind ?_
  unfold isInstance
  refine wpAny_bind (wpAny_typeOf_ref hx ?_)
  rw [hc]
  refine (looks_mroIn X T.top).here ?_
  cases hsig : Manifest.signature? "object.__eq__" with
  | none => exact wpAny_pure q
  | some sig =>
    have ha := F.cmpArgs_eq (.ref x) b
    simp only [argsOk, hsig] at ha
    have h2 : Bind.checkArgs "object.__eq__" sig ⟨[.ref x, b], []⟩ = pure () := ha
    show wpAny _ A (Bind.checkArgs "object.__eq__" sig ⟨[.ref x, b], []⟩) Q E _
    rw [h2]
    exact wpAny_pure q
theorem F.objEq_other {M : Model} (hx : s.heap.get? x = some ox) (hy : s.heap.get? y = some oy) (hc : ox.cls = .ref C) (hxy : x ≠ y) {Q : Fin → Shared → Prop} (hq : Q (.done (.ret .notImplemented)) s) : wpAny M A (Builtin.«object.__eq__» ⟨[.ref x, .ref y], []⟩) Q E s :=
  objEq_entry_other hxy hx hy (by rw [hc]; exact fun z => nomatch z) hq
theorem eq_try (X : K.In s.heap) (T : EqC K C) (hx : s.heap.get? x = some ox) (hc : ox.cls = .ref C) (hy : s.heap.get? y = some oy) (hxy : x ≠ y) {Q : Option Value → Shared → Prop} (q : Q none s) : wpAny (model prog w) A (tryCompare (.ref x) "__eq__" (.ref y)) Q E s := by
  simp only [tryCompare, callSpecialIfBound?, bindSpecialIfBound?, specialOf]
  refine wpAny_bind (wpAny_holding (wpAny_bind (wpAny_bind (wpAny_bind (wpAny_typeOf_ref hx ?_)))))
  rw [hc]
  refine (looks_findIn X T.eq).here ?_
  have call_ : ∀ {Q : Value → Shared → Prop}, Q .notImplemented s → wpAny (model prog w) A (call (.builtin "object.__eq__") [.ref x, .ref y]) Q E s := fun {Q} q =>
    wpAny_call (codeAny_call_builtin F.cmp_object.eq.plain F.cmpEntry_eq (eq_check X T hx hc (F.objEq_other hx hy hc hxy q)))
  have bs : bindSpecial (.builtin "object.__eq__") (.ref x) = pure (.builtin "object.__eq__", [.ref x]) := F.cmp_object.eq.bind _
  dsimp only
  rw [bs]
  have fin : wpAny (model prog w) A (call (.builtin "object.__eq__") ([.ref x] ++ [.ref y]) >>= fun v => pure (some v)) (fun a s' => wpAny (model prog w) A (match a with
      | some Value.notImplemented => (pure none : Sem (Option Value))
      | none => pure none
      | some v => pure (some v)) Q E s') E s := wpAny_bind (call_ (wpAny_pure (wpAny_pure q)))
  refine wpAny_bind (wpAny_askSetting (wpAny_ite ?_))
  split
  · exact wpAny_bind (wpAny_pure (wpAny_pure fin))
  · exact wpAny_tryCatch (wpAny_bind (wpAny_pure (wpAny_pure fin)))
/-- x == y, two objects -/
theorem eq_other (hu : A.units < cLine) (X : K.In s.heap) (T : EqC K C) (U : EqC K D) {b : Bool} (sub : mroIn K D (.ref C) = some b) (hx : s.heap.get? x = some ox) (hc : ox.cls = .ref C) (hy : s.heap.get? y = some oy) (hd : oy.cls = .ref D) (hxy : x ≠ y) {Q : Value → Shared → Prop} (q : Q (.bool false) s) :
    wpAny (model prog w) A (compareOp .Eq (.ref x) (.ref y)) Q E s := by
  show wpAny _ _ (richCompare .Eq (.ref x) (.ref y)) _ _ _
  simp only [richCompare, cmpInfo_Eq, oneThing_ref]
  have nt : ox.cls ≠ .type "tuple" := by rw [hc]; exact fun z => nomatch z
  have t1 : ∀ {Q : Option Value → Shared → Prop}, Q none s → wpAny (model prog w) A (tryCompare (.ref x) "__eq__" (.ref y)) Q E s := fun {Q} q => eq_try X T hx hc hy hxy q
  have t2 : ∀ {Q : Option Value → Shared → Prop}, Q none s → wpAny (model prog w) A (tryCompare (.ref y) "__eq__" (.ref x)) Q E s := fun {Q} q => eq_try X U hy hd hx hxy.symm q
  have last : wpAny (model prog w) A (rule "compare.eq-identity" >>= fun _ => isSame (.ref x) (.ref y) >>= fun r => pure (Value.bool r)) Q E s := wpAny_bind (wpAny_rule (wpAny_bind (wpAny_isSame_ref_other hxy hx hy nt (wpAny_pure q))))
  refine wpAny_holding (wpAny_bind (wpAny_cRoomFor hu (wpAny_bind (wpAny_typeOf_ref hx ?_))))
  rw [hc]
  refine wpAny_bind (wpAny_typeOf_ref hy ?_)
  rw [hd]
  split
  · refine wpAny_bind ((looks_mroIn X sub).here ?_)
    cases b with
    | true => exact wpAny_bind (t2 (wpAny_bind (t1 last)))
    | false =>
      rw [if_neg Bool.false_ne_true]
      exact wpAny_bind (t1 (wpAny_bind (t2 last)))
  · refine wpAny_bind (wpAny_pure ?_)
    rw [if_neg Bool.false_ne_true]
    exact wpAny_bind (t1 (wpAny_bind (t2 last)))
theorem eq_same (hu : A.units < cLine) (X : K.In s.heap) (T : EqC K C) (hx : s.heap.get? x = some ox) (hc : ox.cls = .ref C) {Q : Value → Shared → Prop} (q : Q (.bool true) s) : wpAny (model prog w) A (compareOp .Eq (.ref x) (.ref x)) Q E s := by
  show wpAny _ _ (richCompare .Eq (.ref x) (.ref x)) _ _ _
  have call_ : ∀ {Q : Value → Shared → Prop}, Q (.bool true) s → wpAny (model prog w) A (call (.builtin "object.__eq__") [.ref x, .ref x]) Q E s := fun {Q} q =>
    wpAny_call (codeAny_call_builtin F.cmp_object.eq.plain F.cmpEntry_eq (eq_check X T hx hc (objEq_entry_same q)))
  have bs : bindSpecial (.builtin "object.__eq__") (.ref x) = pure (.builtin "object.__eq__", [.ref x]) := F.cmp_object.eq.bind _
  have t1 : wpAny (model prog w) A (tryCompare (.ref x) "__eq__" (.ref x)) (fun r s' => r = some (.bool true) ∧ s' = s) E s := by
    simp only [tryCompare, callSpecialIfBound?, bindSpecialIfBound?, specialOf]
    refine wpAny_bind (wpAny_holding (wpAny_bind (wpAny_bind (wpAny_bind (wpAny_typeOf_ref hx ?_)))))
    rw [hc]
    refine (looks_findIn X T.eq).here ?_
    dsimp only
    rw [bs]
    have fin : wpAny (model prog w) A (call (.builtin "object.__eq__") ([.ref x] ++ [.ref x]) >>= fun v => pure (some v)) (fun a s' => wpAny (model prog w) A (match a with
        | some Value.notImplemented => (pure none : Sem (Option Value))
        | none => pure none
        | some v => pure (some v)) (fun r s' => r = some (.bool true) ∧ s' = s) E s') E s := wpAny_bind (call_ (wpAny_pure (wpAny_pure ⟨rfl, rfl⟩)))
    refine wpAny_bind (wpAny_askSetting (wpAny_ite ?_))
    split
    · exact wpAny_bind (wpAny_pure (wpAny_pure fin))
    · exact wpAny_tryCatch (wpAny_bind (wpAny_pure (wpAny_pure fin)))
  simp only [richCompare, cmpInfo_Eq, oneThing_ref]
  refine wpAny_holding (wpAny_bind (wpAny_cRoomFor hu (wpAny_bind (wpAny_typeOf_ref hx ?_))))
  rw [hc]
  refine wpAny_bind (wpAny_typeOf_ref hx ?_)
  rw [hc, if_neg (by simp)]
  refine wpAny_bind (wpAny_pure (wpAny_bind (wpAny_mono t1 (fun r s' z => ?_) fun _ _ e => e)))
  obtain ⟨rfl, rfl⟩ := z
  exact wpAny_pure q
end
end VxS
namespace L2
open PySem PySem.Spec PyProof.Rows
/-- x == y, objects of the program's classes without __eq__ -/
def rEqO (K : PySem.W.Frag) : R2 := fun x y H Q => ∃ (a b C D da db : Addr) (fa fb : List (Str × V)) (r : Bool), x = .ref a ∧ y = .ref b ∧ H a = some (.ins C da fa) ∧ H b = some (.ins D db fb) ∧ VxS.EqC K C ∧ VxS.EqC K D ∧ PySem.W.mroIn K D (.ref C) = some r ∧ Q (.bl (decide (a = b))) H
theorem op_eqO {X : Cx} (hu : X.A.units < cLine) : OpR X (compareOp .Eq) (rEqO X.K) := by
  intro pins s σ H x y v u Q I rx ry h
  obtain ⟨a, b, C, D, da, db, fa, fb, r, rfl, rfl, ha, hb, T, U, sub, q⟩ := h
  cases rx
  cases ry
  obtain ⟨_, _, _, e1, _⟩ := I.hok a _ ha
  obtain ⟨_, _, _, e2, _⟩ := I.hok b _ hb
  by_cases z : a = b
  · subst z
    rw [decide_eq_true rfl] at q
    exact VxS.eq_same hu I.kIn T e1 rfl ⟨.bl true, H, I, rfl, q⟩
  · rw [decide_eq_false z] at q
    exact VxS.eq_other hu I.kIn T U sub e1 rfl e2 rfl z ⟨.bl false, H, I, rfl, q⟩
end L2

set_option Elab.async false
set_option linter.all false
set_option maxRecDepth 100000
set_option maxHeartbeats 1000000
/-! VxN: a generator method called; cls(*e), cls a local name of a class. -/
namespace L2
open PySem PySem.Spec PyProof.Rows StX
section
variable {X : Cx} {k i : Nat} {f C : Addr} {fd : FuncData} {ps : List Str} {sp : SpY} {x m : Str} {p pos apos : Pos} {o e : Expr} {ta te : TE} {E : XK}
/-- o.m() of a generator method -/
def tMethY (C : Addr) (m : Str) (sp : SpY) (E : XK) (ta : TE) : TYg := fun σ H xs Q => ta σ H fun y H1 => ∃ a dx fs, y = .ref a ∧ H1 a = some (.ins C dx fs) ∧ fs.lookup m = none ∧ sp [y] H1 xs Q E
theorem py_meth0 {pl : Sem Bool} (he : PE X o ta) (c : Cls X.K C) (hm : Meth X.K C m f) (F : YDef X.prog X.w X.K X.mg X.base k f fd ps sp) (hr : Room k X.A) (hb : Binds X.K fd ps [])
    (ht : eval (.Call (.Attribute o m apos) [] [] pos) X.env = (do
      let ov ← eval o X.env
      standAt apos.atName
      let (f, first) ← holding [ov] (getMethod ov m pl)
      callWith pos f first (backTo pos (starEach [] X.env)) (backToKw pos (keywordEach [] X.env))) := by rfl) :
    PY X k (.Call (.Attribute o m apos) [] [] pos) (tMethY C m sp E ta) E := by
  refine ⟨fun pins s σ H xs Q I h => PySem.W.methodCall_KW (pl := pl) (thn (he.run pins s σ H _ I h) fun u s1 hh => ?_) ht⟩
  obtain ⟨y, H1, I1, rx, a, dx, fs, rfl, ea, l, q⟩ := hh
  obtain rfl : u = Value.ref a := rx
  have hl : ([Value.ref a] ++ ([] : List Value)).length = ps.length := by
    have z := F.len _ _ _ _ _ q
    exact z
  refine getmeth_ok I1 ea c hm l (PySem.W.callWith_K0 (first := [.ref a]) I1.kIn hm.kp (wpAny_call (codeAny_mono (F.run X.A X.stack s1 H1 ⟨[.ref a], []⟩ [.ref a] [.ref a] xs Q E hr I1.env0 (hb s1 [.ref a] I1.kIn hl) (.cons rfl .nil) q) fun r s' hq => ?_)))
  cases r with
  | error e => exact False.elim hq
  | ok fl =>
    cases fl with
    | ret u => exact ⟨H1, s1, I1, hq⟩
    | next => exact False.elim hq
    | brk => exact False.elim hq
    | cont => exact False.elim hq
end
section
variable {X : Cx} {CX : CXT} {k i : Nat} {f C : Addr} {sp : Sp} {x : Str} {p spos pos : Pos} {e : Expr} {te : TE} {E : XK}
/-- cls(*e) -/
theorem pe_makeVS (M : Mk X.K C f) (F : FnR X.prog X.w X.K X.mg X.base CX k f sp) (hr : Room (k + 1) X.A) (hN : X.N[i]? = some x) (hv : Vis X.env.scope x) (hx : Passes CX X E) (he : PE X e te) (hd : (x == ("__debug__" : Str)) = false := by decide) (hcd : (x == ("__classdict__" : Str)) = false := by decide)
    (hst : starEach [.Starred e spos] X.env = [(true, eval e X.env)] := by rfl) :
    PE X (.Call (.Name x p) [.Starred e spos] [] pos) (fun σ H Q => σ[i]? = some (some (.ref C)) ∧ te σ H fun y H1 => ∃ a xs, y = V.ref a ∧ (SqT X.K H1 a xs ∨ SqL X.K H1 a xs) ∧
      ∀ n dx, H1 n = none → H1 dx = none → dx ≠ n → sp (V.ref n :: xs) (upd (upd H1 dx (.own n)) n (.ins C dx [])) (fun v H2 => v = .non ∧ Q (.ref n) H2) E) := by
  refine ⟨fun pins s σ H Q I h => ?_⟩
  obtain ⟨ec, h⟩ := h
  refine wpAny_Call_Name_kw (thn ((pe_var (pos := p) hN hv hd hcd).run pins s σ H (fun v H1 => v = .ref C ∧ H1 = H) I ⟨_, ec, rfl, rfl⟩) fun u s0 hh => ?_)
  obtain ⟨v, H0, I0, r0, rfl, rfl⟩ := hh
  obtain rfl : u = Value.ref C := r0
  refine PySem.W.callWith_S (h₀ := X.base) I.ok.mod.kin M.kp (thn (he.run pins s0 σ H0 _ I0 h) fun v s1 hh => ?_) hst
  obtain ⟨y, H1, I1, ry, a, xs, rfl, hxs, q⟩ := hh
  obtain rfl : v = Value.ref a := ry
  exact star_any I1 hxs fun us s2 I2 rv => ⟨I2.kIn, run_makeR M F hr hx I2 rv q⟩
end
end L2

set_option Elab.async false
set_option linter.all false
set_option maxRecDepth 100000
set_option maxHeartbeats 1000000
/-! VxM: ** of large ints, a text times an int, C() of a class whose __init__ has star parameters. -/
namespace L2
open PySem PySem.Spec PyProof.Rows StX ClX
theorem size_repA (a : Array Nat) : ∀ (n : Nat) (b : Array Nat), ((List.replicate n a).foldl (· ++ ·) b).size = b.size + n * a.size
  | 0, b => by simp
  | n + 1, b => by
    rw [List.replicate_succ, List.foldl_cons, size_repA a n, Array.size_append, Nat.add_mul]
    omega
theorem size_rep (a : Array Nat) (n : Nat) : ((List.replicate n a).foldl (· ++ ·) #[]).size = n * a.size := by
  rw [size_repA]
  simp
section
variable {X : Cx}
def CPowW (i j : Int) : Prop := 0 ≤ j ∧ (Builtin.Int.intBits i : Int) * j ≤ 2 ^ 27
theorem op_powW : OpR X (binaryOp .Pow) (rI CPowW fun i j => .int (i ^ j.toNat)) := opI fun _ _ _ _ _ _ _ hc q => pow_int hc.1 hc.2 q
/-- a text times an int of at least 2 -/
def rMulS : R2 := fun x y H Q => ∃ (z : Str) (k : Nat), x = .str z ∧ y = .int (k : Int) ∧ 2 ≤ k ∧ 0 < z.length ∧ z.length * k ≤ 1000000 ∧ Q (.str ⟨(List.replicate k z.cps).foldl (· ++ ·) #[]⟩) H
theorem op_mulS : OpR X (binaryOp .Mult) rMulS := by
  intro pins s σ H x y v u Q I rx ry h
  obtain ⟨z, k, rfl, rfl, h2, h0, hl, q⟩ := h
  obtain ⟨t, rfl⟩ := rx
  obtain ⟨t', rfl⟩ := ry
  have kb : (k : Int) ≤ 1000000 := by
    have : 1 * k ≤ z.length * k := Nat.mul_le_mul_right k h0
    omega
  refine PySem.P.mul_str ?_ (fun _ _ => ?_) (fun _ _ => ?_) ?_
  · rw [decide_eq_false (by omega), decide_eq_false (by omega)]
    rfl
  · have d : (z.length : Int) ≤ (2 ^ 63 - 1) / (k : Int) := by
      refine Int.le_ediv_of_mul_le (by omega) ?_
      have q2 : ((z.length * k : Nat) : Int) ≤ 1000000 := Int.ofNat_le.mpr hl
      rw [Int.natCast_mul] at q2
      omega
    omega
  · have e : (k : Int).toNat = k := rfl
    rw [e]
    exact decide_eq_false (by have q : (1000000 : Nat) ≤ sizeLine := by decide
                              omega)
  · rw [if_neg (by omega)]
    have e : ((k : Int) == 1 || z.length == 0) = false := by
      rw [Bool.or_eq_false_iff]
      exact ⟨beq_eq_false_iff_ne.mpr (by omega), beq_eq_false_iff_ne.mpr (by omega)⟩
    rw [e, if_neg Bool.false_ne_true]
    refine ⟨?_, .str _, H, I.tok _, ⟨_, rfl⟩, q⟩
    show Array.size _ ≤ sizeLine
    have e2 : ((k : Int).toNat) = k := rfl
    rw [e2, size_rep]
    have q3 : (1000000 : Nat) ≤ sizeLine := by decide
    have q4 : k * z.cps.size = z.length * k := Nat.mul_comm _ _
    omega
end
section
variable {X : Cx} {CX : CXT} {k : Nat} {f C p g : Addr} {fd : FuncData} {ps ks : List Str} {sp : Sp} {x m : Str} {np pos apos : Pos} {o : Expr} {kws : List Keyword} {ta : TE} {tk : TA} {E : XK} {mc : Value}
/-- C() -/
theorem pe_makeR0 (M : Mk X.K C f) (F : FnR X.prog X.w X.K X.mg X.base CX k f sp) (hr : Room (k + 1) X.A) (hg : Gl X x) (hm : X.mg x = some (.ref C)) (hx : Passes CX X E) (hdb : (x == ("__debug__" : Str)) = false := by decide) :
    PE X (.Call (.Name x np) [] [] pos) (fun _ H Q => ∀ n dx, H n = none → H dx = none → dx ≠ n → sp [V.ref n] (upd (upd H dx (.own n)) n (.ins C dx [])) (fun v H2 => v = .non ∧ Q (.ref n) H2) E) :=
  ⟨fun pins s σ H Q I h => wpAny_Call_Name_kw (ld_glob I hg hm (PySem.W.callWith_K0 (first := []) I.kIn M.kp (run_makeR (us := []) (vs := []) M F hr hx I .nil h)) hdb)⟩
/-- C.m(k = v, ..), m a classmethod -/
theorem pe_cmethK {pl : Sem Bool} {gv : List Value → List Value} {gV : List V → List V} (he : PE X o ta) (r : CRead X.K C mc) (c : CMet X.K C mc m p g) (F : FnOk X.prog X.w X.K X.mg X.base CX k g fd ps sp) (hr : Room k X.A) (hx : Passes CX X E)
    (hbd : ∀ (s : Shared) (ws : List Value), X.K.In s.heap → ws.length = ks.length → BindsTo s fd ⟨[Value.ref C], ks.zip ws⟩ (ps.zip (Value.ref C :: gv ws))) (rel : ∀ {zs : List V} {ws : List Value}, Vals zs ws → Vals (gV zs) (gv ws)) (hkw : PK X kws tk)
    (hall : (backToKw pos (keywordEach kws X.env)).all (·.1.isSome) = true := by rfl) (hks : (backToKw pos (keywordEach kws X.env)).filterMap (·.1) = ks := by rfl)
    (hpl : ((backTo pos (starEach [] X.env)).any (·.1) || (backToKw pos (keywordEach kws X.env)).any (·.1.isNone)) = false := by rfl)
    (ht : eval (.Call (.Attribute o m apos) [] kws pos) X.env = (do
      let ov ← eval o X.env
      standAt apos.atName
      let (f, first) ← holding [ov] (getMethod ov m pl)
      callWith pos f first (backTo pos (starEach [] X.env)) (backToKw pos (keywordEach kws X.env))) := by rfl) :
    PE X (.Call (.Attribute o m apos) [] kws pos) (fun σ H Q => ta σ H fun y H1 => y = .ref C ∧ tk σ H1 fun zs H2 => zs.length = ks.length ∧ sp (.ref C :: gV zs) H2 Q E) := by
  refine ⟨fun pins s σ H Q I h => PySem.W.methodCall_KW (pl := pl) (thn (he.run pins s σ H _ I h) fun u s1 hh => ?_) ht⟩
  obtain ⟨y, H1, I1, rx, rfl, q⟩ := hh
  obtain rfl : u = Value.ref C := rx
  refine getmethcm_ok I1 r c fun s2 I2 => ?_
  refine PySem.W.callWith_of hpl (PySem.W.keeps_M (K := X.K) (self := .ref C) c.fi) (evalArgs_kw2_nil hall (thn (hkw.run pos _ s2 σ H1 _ I2 q) fun ws s3 hh => ?_))
  obtain ⟨zs, H2, I3, rz, hl, q2⟩ := hh
  refine ⟨⟨pin_at I3, I3.kIn⟩, ?_⟩
  rw [hks]
  have z : wpAny (model X.prog X.w) X.A (call (.ref s1.heap.objs.size) ([] ++ []) (ks.zip ws)) (EP X ((s1.heap.objs.size, PySem.W.methodObj (.ref g) (.ref C)) :: pins) σ Q) X.xe s3 := by
    refine wpAny_call (PySem.W.method_call (pin_at I3) (codeAny_mono (F.run X.A X.stack s3 H2 ⟨[.ref C], ks.zip ws⟩ (.ref C :: gv ws) (.ref C :: gV zs) Q E hr I3.env0 (hbd s3 ws I3.kIn (by rw [← rz.length]; exact hl)) (.cons rfl (rel rz)) q2) fun rs s' hq => ?_))
    cases rs with
    | error er => exact hx _ σ H2 s3 er s' I3 hq
    | ok fl =>
      cases fl with
      | ret u => exact I3.after hq
      | next => exact hq.elim
      | brk => exact hq.elim
      | cont => exact hq.elim
  exact thn z fun _ _ y => unpinE y
end
end L2

set_option Elab.async false
set_option linter.all false
set_option maxRecDepth 100000
set_option maxHeartbeats 1000000
/-! VxJ: within a try whose clause looks at the slots: C(e, ..) and C.m(e, ..), what they let out told at the slots of the call. -/
namespace L2
open PySem PySem.Spec PyProof.Rows StX ClX
section
variable {X : Cx} {CX : CXT} {k : Nat} {f C p g : Addr} {mc : Value} {fd : FuncData} {ps : List Str} {sp : Sp} {dvs : List V} {ds : List Value} {E : St → XK} {x m : Str} {pp pos apos : Pos} {e o : Expr} {es : List Expr} {ta : TE} {t : TA}
theorem run_makeS {pins : List (Addr × Obj)} {σ : St} {H : Hp} {s : Shared} {Q : VK} {us : List Value} {vs : List V} {E : XK} (M : Mk X.K C f) (F : FnOk X.prog X.w X.K X.mg X.base CX k f fd ps sp) (hr : Room (k + 1) X.A) (hb : Binds X.K fd ps ds) (hd : Vals dvs ds)
    (hx : PassesAt CX X σ E) (I : Inv X pins σ H s) (r : Vals vs us)
    (h : ∀ x dx, H x = none → H dx = none → dx ≠ x → sp (.ref x :: (vs ++ dvs)) (upd (upd H dx (.own x)) x (.ins C dx [])) (fun v H2 => v = .non ∧ Q (.ref x) H2) E) :
    wpAny (model X.prog X.w) X.A (call (.ref C) us) (EP X pins σ Q) X.xe s := by
  have hq := h (s.heap.objs.size + 1) s.heap.objs.size (I.hok.fresh (Nat.le_succ _)) (I.hok.fresh (Nat.le_refl _)) (Nat.ne_of_lt (Nat.lt_succ_self _))
  have J := Inv.made (C := C) I
  have rr : Vals (V.ref (s.heap.objs.size + 1) :: (vs ++ dvs)) (Value.ref (s.heap.objs.size + 1) :: (us ++ ds)) := .cons rfl (r.append hd)
  have hl : (Value.ref (s.heap.objs.size + 1) :: us ++ ds).length = ps.length := by
    have z := rr.length
    rw [F.len _ _ _ _ hq] at z
    exact z.symm
  refine wpAny_call (make_map (f := f) I.kIn M.makes M.init (beq_iff_eq.mp M.fn) (codeAny_mono (F.run _ X.stack _ _ ⟨Value.ref (s.heap.objs.size + 1) :: us, []⟩ (Value.ref (s.heap.objs.size + 1) :: (us ++ ds)) _ _ E (hr.make C us [])
    (J.env0.make C us []) (hb _ (Value.ref (s.heap.objs.size + 1) :: us) J.kIn hl) rr hq) fun rs s' z => ?_))
  cases rs with
  | error er => exact hx pins _ _ er s' J z
  | ok fl =>
    cases fl with
    | ret u =>
      obtain ⟨v, H', J2, rv, ev, q⟩ := J.after z
      subst ev
      exact ⟨rv, ⟨V.ref (s.heap.objs.size + 1), H', J2, rfl, q⟩⟩
    | next => exact z.elim
    | brk => exact z.elim
    | cont => exact z.elim
/-- C(e, ..) -/
theorem pe_makeSg (M : Mk X.K C f) (F : FnOk X.prog X.w X.K X.mg X.base CX k f fd ps sp) (hr : Room (k + 1) X.A) (hg : Gl X x) (hm : X.mg x = some (.ref C)) (hb : Binds X.K fd ps ds) (hd : Vals dvs ds) (hx : ∀ σ, PassesAt CX X σ (E σ))
    (ha : PA X (e :: es) t) (hdb : (x == ("__debug__" : Str)) = false := by decide) (he : starEach (e :: es) X.env = (false, eval e X.env) :: starEach es X.env := by rfl) (hpl : (backTo pos (starEach es X.env)).any (·.1) = false := by rfl) :
    PE X (.Call (.Name x pp) (e :: es) [] pos) (fun σ H Q => tMake C sp dvs (E σ) t σ H Q) :=
  ⟨fun pins s σ H Q I h => wpAny_Call_Name_kw (ld_glob I hg hm (PySem.W.callWith_K (h₀ := X.base) I.ok.mod.kin M.kp (thn (ha.run pos pins s σ H _ I h) fun us s1 z => by
    obtain ⟨vs, H1, J, r, q⟩ := z
    exact ⟨J.kIn, run_makeS M F hr hb hd (hx σ) J r q⟩) he hpl) hdb)⟩
/-- C.m(e, ..), m a classmethod -/
theorem pe_cmethSg {pl : Sem Bool} (he : PE X o ta) (r : CRead X.K C mc) (c : CMet X.K C mc m p g) (F : FnOk X.prog X.w X.K X.mg X.base CX k g fd ps sp) (hr : Room k X.A) (hb : Binds X.K fd ps []) (hx : ∀ σ, PassesAt CX X σ (E σ)) (ha : PA X (e :: es) t)
    (hst : starEach (e :: es) X.env = (false, eval e X.env) :: starEach es X.env := by rfl) (hpl : (backTo pos (starEach es X.env)).any (·.1) = false := by rfl)
    (ht : eval (.Call (.Attribute o m apos) (e :: es) [] pos) X.env = (do
      let ov ← eval o X.env
      standAt apos.atName
      let (f, first) ← holding [ov] (getMethod ov m pl)
      callWith pos f first (backTo pos (starEach (e :: es) X.env)) (backToKw pos (keywordEach [] X.env))) := by rfl) :
    PE X (.Call (.Attribute o m apos) (e :: es) [] pos) (fun σ H Q => tCMeth C sp (E σ) ta t σ H Q) := by
  refine ⟨fun pins s σ H Q I h => PySem.W.methodCall_KW (pl := pl) (thn (he.run pins s σ H _ I h) fun u s1 hh => ?_) ht⟩
  obtain ⟨y, H1, I1, rx, rfl, q⟩ := hh
  obtain rfl : u = Value.ref C := rx
  refine getmethcm_ok I1 r c fun s2 I2 => ?_
  refine callwith_cm I2 (base_none I1 (Nat.le_refl _)) c.fi (thn (ha.run pos _ s2 σ H1 _ I2 q) fun us s3 hh => ?_) hst hpl
  obtain ⟨vs, H2, I3, rv, q2⟩ := hh
  refine ⟨⟨pin_at I3, I3.kIn⟩, ?_⟩
  have b := hb s3 (Value.ref C :: us) I3.kIn (by
    have l := F.len _ _ _ _ q2
    have l2 := rv.length
    rw [List.append_nil, List.length_cons, ← l2]
    exact l)
  rw [List.append_nil] at b
  have z : wpAny (model X.prog X.w) X.A (call (.ref s1.heap.objs.size) us) (EP X ((s1.heap.objs.size, PySem.W.methodObj (.ref g) (.ref C)) :: pins) σ Q) X.xe s3 := by
    refine wpAny_call (PySem.W.method_call (pin_at I3) (codeAny_mono (F.run X.A X.stack s3 H2 ⟨.ref C :: us, []⟩ (.ref C :: us) (.ref C :: vs) Q (E σ) hr I3.env0 b (.cons rfl rv) q2) fun rs s' hq => ?_))
    cases rs with
    | error er => exact hx σ _ H2 s3 er s' I3 hq
    | ok fl =>
      cases fl with
      | ret u => exact I3.after hq
      | next => exact hq.elim
      | brk => exact hq.elim
      | cont => exact hq.elim
  exact thn z fun _ _ y => unpinE y
end
end L2

set_option Elab.async false
set_option linter.all false
set_option maxRecDepth 100000
set_option maxHeartbeats 1000000
/-! VxL: a list of anything == [] and != []. -/
namespace L2
open PySem PySem.Spec PyProof.Rows
section
variable {X : Cx}
def rEqN (K : PySem.W.Frag) : R2 := fun x y H Q => ∃ (a b : Addr) (xs : List V), x = .ref a ∧ y = .ref b ∧ SqL K H a xs ∧ SqL K H b [] ∧ Q (.bl xs.isEmpty) H
theorem op_eqN (hu : X.A.units < cLine) : OpR X (compareOp .Eq) (rEqN X.K) := by
  intro pins s σ H x y v u Q I rx ry h
  obtain ⟨a, b, xs, rfl, rfl, ha, hb, q⟩ := h
  cases rx
  cases ry
  obtain ⟨us, r1, p1, _⟩ := I.list ha
  obtain ⟨ws, r2, p2, _⟩ := I.list hb
  cases r2
  by_cases z : xs = []
  · subst z
    cases r1
    refine SeqAt.eq_listAt (e := fun _ => true) p1.isList p2.isList rfl hu ?_ ?_
    · intro j h1
      simp at h1
    · exact ⟨.bl true, H, I, rfl, q⟩
  · refine SeqAt.eq_list_lengthsAt p1.isList p2.isList ?_ hu ?_
    · have e : us ≠ [] := fun w => z (by
        subst w
        cases r1
        rfl)
      cases us with
      | nil => exact absurd rfl e
      | cons _ _ => simp
    · cases xs with
      | nil => exact absurd rfl z
      | cons _ _ => exact ⟨.bl false, H, I, rfl, q⟩
def rNeN (K : PySem.W.Frag) : R2 := fun x y H Q => ∃ (a b : Addr) (xs : List V), x = .ref a ∧ y = .ref b ∧ SqL K H a xs ∧ SqL K H b [] ∧ Q (.bl !xs.isEmpty) H
theorem op_neN (hu : X.A.units < cLine) : OpR X (compareOp .NotEq) (rNeN X.K) := by
  intro pins s σ H x y v u Q I rx ry h
  obtain ⟨a, b, xs, rfl, rfl, ha, hb, q⟩ := h
  cases rx
  cases ry
  obtain ⟨us, r1, p1, _⟩ := I.list ha
  obtain ⟨ws, r2, p2, _⟩ := I.list hb
  cases r2
  by_cases z : xs = []
  · subst z
    cases r1
    refine SeqAt.RcNeAt.lists (e := fun _ => true) p1.isList p2.isList rfl hu ?_ X.prog X.w _ _ ?_
    · intro j h1
      simp at h1
    · exact ⟨.bl false, H, I, rfl, q⟩
  · refine SeqAt.RcNeAt.lists_lengths p1.isList p2.isList ?_ hu X.prog X.w _ _ ?_
    · have e : us ≠ [] := fun w => z (by
        subst w
        cases r1
        rfl)
      cases us with
      | nil => exact absurd rfl e
      | cons _ _ => simp
    · cases xs with
      | nil => exact absurd rfl z
      | cons _ _ => exact ⟨.bl true, H, I, rfl, q⟩
end
end L2

set_option Elab.async false
set_option linter.all false
set_option maxRecDepth 100000
set_option maxHeartbeats 2000000
namespace Ky
open PySem PySem.Spec PyProof.Rows L2
def top (i : Nat) : Stmt := PySem.Challenge.pw_brinejar_k02_octets_and_bags.main.body.getD i (.Pass ⟨0, 0, 0, 0⟩)
abbrev FnP (K : PySem.W.Frag) (x : Str) (st : Stmt) (f : Addr) (fd : FuncData) : Prop := FunD K x x (defArgs st) (defBody st) (defScope st) [] [] f fd
/-- 10 ** 300 -/
def big : Int := (10 ^ 60) ^ 5
def isI : PyData → Bool
  | .int _ => true
  | _ => false
def isT : PyData → Bool
  | .str x => decide (x.length ≤ 2000)
  | _ => false
def isK : PyData → Bool
  | .int i => decide (-big < i) && decide (i < big)
  | .str x => decide (x.length ≤ 2000)
  | _ => false
def fits (d : PyData) : Prop := ∀ x, d = .str x → x.length ≤ sizeLine
/-- a test of data by a def -/
def spTest (K : PySem.W.Frag) (t : PyData → Bool) : Sp := fun vs H Q _ => ∃ (v : V) (d : PyData), vs = [v] ∧ Sd K H v d ∧ fits d ∧ Q (.bl (t d)) H
section
variable {P : Program} {w : World} {K : PySem.W.Frag} {mg : Str → Option Value} {base : Heap}
abbrev sIsInt : Stmt := top 4
abbrev sIsText : Stmt := top 5
abbrev sIsKey : Stmt := top 6
theorem scIsInt : FnScope ["thing"] ["thing"] (defScope sIsInt) := ⟨rfl, rfl, rfl, by decide +kernel, rfl, by decide +kernel, by decide +kernel⟩
theorem scIsText : FnScope ["thing"] ["thing"] (defScope sIsText) := ⟨rfl, rfl, rfl, by decide +kernel, rfl, by decide +kernel, by decide +kernel⟩
theorem scIsKey : FnScope ["thing"] ["thing"] (defScope sIsKey) := ⟨rfl, rfl, rfl, by decide +kernel, rfl, by decide +kernel, by decide +kernel⟩
/-- the built-in names and the constants -/
structure Nm (mg : Str → Option Value) : Prop where
  isi : mg "isinstance" = none
  int : mg "int" = none
  bool : mg "bool" = none
  str : mg "str" = none
  tuple : mg "tuple" = none
  len : mg "len" = none
  all : mg "all" = none
  sorted : mg "sorted" = none
  type : mg "type" = none
  set : mg "set" = none
  list : mg "list" = none
  repr : mg "repr" = none
  rng : mg "range" = none
  min : mg "min" = none
  atom : ∃ t, mg "ATOM_LIMIT" = some (.int big t)
  text : ∃ t, mg "TEXT_LIMIT" = some (.int 2000 t)
  nums : ∃ t, mg "NUMBERS_LIMIT" = some (.int 2000 t)
  num : ∃ t, mg "OCTET_LIMIT" = some (.int 256 t)
theorem ok_isInt {f : Addr} {fd : FuncData} (F : FnP K "is_integer" sIsInt f fd) (N : Nm mg) : FnOk P w K mg base CX0 1 f fd ["thing"] (spTest K isI) := by
  refine F.ok scIsInt (fun vs H Q E h => ?_) (fun cdv A outer s H vs Q E hr h => ?_)
  · obtain ⟨v, d, rfl, _⟩ := h
    rfl
  · refine ⟨_, PSs.nox (pss_one (ps_ret (pe_and (pe_callB call_isD (by rfl) N.isi (by decide +kernel) (pa_cons (pv 0) (pa_cons (pe_bltn (v := .ty "int") (by rfl) N.int (by decide +kernel) rfl) pa_nil)))
      (pe_one (pe_not (pe_callB call_isD (by rfl) N.isi (by decide +kernel) (pa_cons (pv 0) (pa_cons (pe_bltn (v := .ty "bool") (by rfl) N.bool (by decide +kernel) rfl) pa_nil)))))))), ?_⟩
    obtain ⟨v, d, rfl, hv, hf, k⟩ := h
    refine ⟨_, rfl, v, d, "int", rfl, rfl, hv, _, rfl, ?_⟩
    cases d with
    | int i => exact ⟨_, rfl, v, _, "bool", rfl, rfl, hv, _, rfl, k⟩
    | bool b => exact ⟨_, rfl, v, _, "bool", rfl, rfl, hv, _, rfl, k⟩
    | none => exact k
    | str _ => exact k
    | list _ => exact k
    | tuple _ => exact k
    | dict _ => exact k
theorem ok_isText {f : Addr} {fd : FuncData} (F : FnP K "is_text" sIsText f fd) (N : Nm mg) : FnOk P w K mg base CX0 1 f fd ["thing"] (spTest K isT) := by
  obtain ⟨tt, gt⟩ := N.text
  refine F.ok scIsText (fun vs H Q E h => ?_) (fun cdv A outer s H vs Q E hr h => ?_)
  · obtain ⟨v, d, rfl, _⟩ := h
    rfl
  · refine ⟨_, PSs.nox (pss_one (ps_ret (pe_and (pe_callB call_isD (by rfl) N.isi (by decide +kernel) (pa_cons (pv 0) (pa_cons (pe_bltn (v := .ty "str") (by rfl) N.str (by decide +kernel) rfl) pa_nil)))
      (pe_one (pe_cmpR op_le (pe_callB call_len (by rfl) N.len PySem.boot_len (pa_cons (pv 0) pa_nil)) (pe_glob (v := .int 2000) (by rfl) gt ⟨_, rfl⟩) (nomark _)))))), ?_⟩
    obtain ⟨v, d, rfl, hv, hf, k⟩ := h
    refine ⟨_, rfl, v, d, "str", rfl, rfl, hv, _, rfl, ?_⟩
    cases d with
    | str x =>
      cases hv
      refine ⟨_, rfl, _, x.length, rfl, ⟨hf x rfl, rfl⟩, _, _, rfl, rfl, ?_⟩
      have e : decide ((x.length : Int) ≤ 2000) = isT (.str x) := by
        show _ = decide (x.length ≤ 2000)
        rw [Bool.eq_iff_iff, decide_eq_true_iff, decide_eq_true_iff]
        omega
      rw [← e] at k
      exact k
    | int i => exact k
    | bool b => exact k
    | none => exact k
    | list _ => exact k
    | tuple _ => exact k
    | dict _ => exact k
theorem ok_isKey {f fi ft : Addr} {fd fdi fdt : FuncData} (F : FnP K "is_key" sIsKey f fd) (FI : FnP K "is_integer" sIsInt fi fdi) (gI : mg "is_integer" = some (.ref fi)) (FT : FnP K "is_text" sIsText ft fdt) (gT : mg "is_text" = some (.ref ft)) (N : Nm mg) : FnOk P w K mg base CX0 2 f fd ["thing"] (spTest K isK) := by
  have GI : FnOk P w K mg base CX0 1 fi fdi ["thing"] (spTest K isI) := ok_isInt FI N
  have GT : FnOk P w K mg base CX0 1 ft fdt ["thing"] (spTest K isT) := ok_isText FT N
  have bI : Binds K fdi ["thing"] [] := FI.bindsN fun _ _ _ _ _ _ us hl => match us, hl with | [_], _ => rfl
  have bT : Binds K fdt ["thing"] [] := FT.bindsN fun _ _ _ _ _ _ us hl => match us, hl with | [_], _ => rfl
  obtain ⟨ta, ga⟩ := N.atom
  refine F.ok scIsKey (fun vs H Q E h => ?_) (fun cdv A outer s H vs Q E hr h => ?_)
  · obtain ⟨v, d, rfl, _⟩ := h
    rfl
  · refine ⟨_, PSs.nox (pss_cons (ps_if (pt_val (pe_call GI hr (by rfl) gI FI.kp bI .nil pass0 (pa_cons (pv 0) pa_nil)))
        (pss_one (ps_ret (pe_chain op_lt op_lt (pe_un un_neg (pe_glob (v := .int big) (by rfl) ga ⟨_, rfl⟩)) (pv 0) (pe_glob (v := .int big) (by rfl) ga ⟨_, rfl⟩)))) pss_nil)
      (pss_one (ps_ret (pe_call GT hr (by rfl) gT FT.kp bT .nil pass0 (pa_cons (pv 0) pa_nil))))), ?_⟩
    obtain ⟨v, d, rfl, hv, hf, k⟩ := h
    refine ⟨_, rfl, v, d, rfl, hv, hf, _, rfl, ?_⟩
    cases d with
    | int i =>
      cases hv
      refine iteT ?_
      refine ⟨_, rfl, _, rfl, _, _, rfl, rfl, _, rfl, ?_⟩
      by_cases c : -big < i
      · rw [decide_eq_true c]
        refine iteT ?_
        refine ⟨_, _, rfl, rfl, ?_⟩
        have e : isK (.int i) = decide (i < big) := by
          show (decide (-big < i) && decide (i < big)) = _
          rw [decide_eq_true c, Bool.true_and]
        rw [e] at k
        exact k
      · rw [decide_eq_false c]
        refine iteF ?_
        have e : isK (.int i) = false := by
          show (decide (-big < i) && decide (i < big)) = _
          rw [decide_eq_false c, Bool.false_and]
        rw [e] at k
        exact k
    | str x => exact ⟨_, rfl, v, _, rfl, hv, hf, k⟩
    | bool b => exact ⟨_, rfl, v, _, rfl, hv, hf, k⟩
    | none => exact ⟨_, rfl, v, _, rfl, hv, hf, k⟩
    | list _ => exact ⟨_, rfl, v, _, rfl, hv, hf, k⟩
    | tuple _ => exact ⟨_, rfl, v, _, rfl, hv, hf, k⟩
    | dict _ => exact ⟨_, rfl, v, _, rfl, hv, hf, k⟩
end
end Ky

set_option Elab.async false
set_option linter.all false
set_option maxRecDepth 100000
set_option maxHeartbeats 2000000
namespace Ky
open PySem PySem.Spec PyProof.Rows L2
theorem yesT {σ : L2.St} {H : Hp} {A B : Hp → Prop} (h : A H) : tYes σ H fun b H3 => if b = true then A H3 else B H3 := @iteT (A H) (B H) h
theorem same_updN {H H' : Hp} {p : Addr} {o : HO} (s : Same H H') (n : H p = none) : Same H (upd H' p o) := fun b u e => by
  rw [upd_ne (ne_of_none e n)]
  exact s b u e
theorem sdall_len {K : PySem.W.Frag} {H : Hp} : ∀ {xs : List V} {ds : List PyData}, SdAll K H xs ds → xs.length = ds.length
  | _, _, .nil => rfl
  | _, _, .cons _ h => by rw [List.length_cons, List.length_cons, sdall_len h]
theorem sdall_get {K : PySem.W.Frag} {H : Hp} : ∀ {xs : List V} {ds : List PyData} {i : Nat} {x : V}, SdAll K H xs ds → xs[i]? = some x → ∃ d, ds[i]? = some d ∧ Sd K H x d
  | _, _, 0, _, .cons h _, e => by
    cases e
    exact ⟨_, rfl, h⟩
  | _, _, i + 1, _, .cons _ h, e => sdall_get (i := i) h e
theorem sqT_to {K : PySem.W.Frag} {H H' : Hp} {a : Addr} {xs : List V} (s : Same H H') (h : SqT K H a xs) : SqT K H' a xs := by
  rcases h with h | h
  · rcases h with h | ⟨o, h⟩
    · exact .inl (.inl (s _ _ h))
    · exact .inl (.inr ⟨o, s _ _ h⟩)
  · exact .inr h
theorem sd_to {K : PySem.W.Frag} {H H' : Hp} {v : V} {d : PyData} (h : Sd K H v d) (s : Same H H') : Sd K H' v d := Sd.same s (fun z => sqT_to s z) h
theorem sdall_to {K : PySem.W.Frag} {H H' : Hp} {xs : List V} {ds : List PyData} (h : SdAll K H xs ds) (s : Same H H') : SdAll K H' xs ds := SdAll.same s (fun z => sqT_to s z) h
def isOct : PyData → Bool
  | .int i => decide (0 ≤ i) && decide (i < 256)
  | _ => false
def isNums : PyData → Bool
  | .tuple ds => decide (ds.length ≤ 2000) && ds.all isOct
  | _ => false
def fitsAll (d : PyData) : Prop := ∀ ds, d = .tuple ds → ∀ e ∈ ds, fits e
def spNums (K : PySem.W.Frag) : Sp := fun vs H Q _ => ∃ (v : V) (d : PyData), vs = [v] ∧ Sd K H v d ∧ fitsAll d ∧ ∀ H', Same H H' → Q (.bl (isNums d)) H'
/-- the same test, by the program: with the limit -/
def spOcts (K : PySem.W.Frag) : Sp := fun vs H Q _ => ∃ (v : V) (d : PyData), vs = [v, .int 2000] ∧ Sd K H v d ∧ fitsAll d ∧ ∀ H', Same H H' → Q (.bl (isNums d)) H'
/-- the key is tested: nothing, or an error with it -/
def spReq (K : PySem.W.Frag) (C : Addr) : Sp := fun vs H Q E => ∃ (v : V) (d : PyData), vs = [v] ∧ Sd K H v d ∧ fits d ∧ (isK d = true → Q .non H) ∧ (isK d = false → ∀ dd H', H dd = none → Same H H' → H' dd = some (.xd [("key", v)]) → E (.ref C) (some dd) H')
section
variable {P : Program} {w : World} {K : PySem.W.Frag} {mg : Str → Option Value} {base : Heap}
abbrev sReq : Stmt := top 20
abbrev sNums : Stmt := top 7
theorem scReq : FnScope ["key"] ["key"] (defScope sReq) := ⟨rfl, rfl, rfl, by decide +kernel, rfl, by decide +kernel, by decide +kernel⟩
theorem scNums : FnScope ["thing", "limit", "others", "item"] ["thing", "limit"] (defScope sNums) := ⟨rfl, rfl, rfl, by decide +kernel, rfl, by decide +kernel, by decide +kernel⟩
abbrev gC (K : PySem.W.Frag) (x : Str) : Addr := He.ga K x
/-- the tests -/
structure Ts (K : PySem.W.Frag) (mg : Str → Option Value) : Prop where
  isI : ∃ f fd, FnP K "is_integer" sIsInt f fd ∧ mg "is_integer" = some (.ref f)
  isT : ∃ f fd, FnP K "is_text" sIsText f fd ∧ mg "is_text" = some (.ref f)
  isK : ∃ f fd, FnP K "is_key" sIsKey f fd ∧ mg "is_key" = some (.ref f)
  req : ∃ f fd, FnP K "require_key" sReq f fd ∧ mg "require_key" = some (.ref f)
  nums : ∃ f fd, FnP K "are_octets" sNums f fd ∧ mg "are_octets" = some (.ref f)
/-- the error classes -/
structure Es (P : Program) (w : World) (K : PySem.W.Frag) (mg : Str → Option Value) (base : Heap) : Prop where
  nums : XK1 P w K mg base "InvalidNumbers" "value" (gC K "InvalidNumbers")
  key : XK1 P w K mg base "InvalidKey" "key" (gC K "InvalidKey")
  taken : XK1 P w K mg base "KeyTaken" "key" (gC K "KeyTaken")
theorem ok_req {f : Addr} {fd : FuncData} (F : FnP K "require_key" sReq f fd) (N : Nm mg) (T : Ts K mg) (S : Es P w K mg base) : FnOk P w K mg base (L2.CX P w) 3 f fd ["key"] (spReq K (gC K "InvalidKey")) := by
  obtain ⟨fi, di, FI, gI⟩ := T.isI
  obtain ⟨ft, dt, FT, gT⟩ := T.isT
  obtain ⟨fk, dk, FK, gK⟩ := T.isK
  have GK : FnOk P w K mg base CX0 2 fk dk ["thing"] (spTest K isK) := ok_isKey FK FI gI FT gT N
  have bK : Binds K dk ["thing"] [] := FK.bindsN fun _ _ _ _ _ _ us hl => match us, hl with | [_], _ => rfl
  refine F.ok scReq (fun vs H Q E h => ?_) (fun cdv A outer s H vs Q E hr h => ?_)
  · obtain ⟨v, d, rfl, _⟩ := h
    rfl
  · refine ⟨_, pss_one (ps_if (pt_not (pt_val (pe_call GK hr (by rfl) gK FK.kp bK .nil pass0 (pa_cons (pv 0) pa_nil)))) (pss_one (ps_x1 rfl (takes_of rfl rfl rfl rfl) S.key hr (by rfl) (pv 0))) pss_nil), ?_⟩
    obtain ⟨v, d, rfl, hv, hf, k1, k2⟩ := h
    refine ⟨_, rfl, v, d, rfl, hv, hf, _, rfl, ?_⟩
    cases e : isK d with
    | true => exact iteF (k1 e)
    | false => exact iteT ⟨_, rfl, v, rfl, fun dd H' n s x => k2 e dd H' n s x⟩
theorem sdall_snoc {K : PySem.W.Frag} {H : Hp} : ∀ {xs : List V} {ds : List PyData} {x : V} {d : PyData}, SdAll K H xs ds → Sd K H x d → SdAll K H (xs ++ [x]) (ds ++ [d])
  | _, _, _, _, .nil, h => .cons h .nil
  | _, _, _, _, .cons a r, h => .cons a (sdall_snoc r h)
/-- no plain integer -/
def notI (d : PyData) : Bool := !isI d
theorem tyN_int (d : PyData) : (!decide (tyN d = "int")) = notI d := by
  cases d <;> simp only [tyN] <;> rfl
theorem all_ints : ∀ {K : PySem.W.Frag} {H : Hp} {xs : List V} {ds : List PyData}, SdAll K H xs ds → ds.filter notI = [] → ∃ ns : List Int, xs = ns.map V.int ∧ ds = ns.map PyData.int
  | _, _, _, _, .nil, _ => ⟨[], rfl, rfl⟩
  | _, _, _, _, .cons (d := d) a r, h => by
    cases d with
    | int i =>
      have h2 := h
      rw [List.filter_cons_of_neg (by simp [notI, isI])] at h2
      obtain ⟨ns, e1, e2⟩ := all_ints r h2
      cases a
      exact ⟨i :: ns, by rw [e1]; rfl, by rw [e2]; rfl⟩
    | _ => rw [List.filter_cons_of_pos rfl] at h; cases h
theorem nums_others {ds : List PyData} (h : ds.filter notI ≠ []) : ds.all isOct = false := by
  obtain ⟨d, hd⟩ := List.exists_mem_of_ne_nil _ h
  obtain ⟨m, e⟩ := List.mem_filter.mp hd
  rw [List.all_eq_false]
  refine ⟨d, m, ?_⟩
  cases d with
  | int i => cases e
  | _ => simp [isOct]
theorem nums_ints {ns out : List Int} (h : ∀ k, k ∈ out ↔ k ∈ ns) : (out.map fun z => decide (0 ≤ z) && decide (z < 256)).all id = (ns.map PyData.int).all isOct := by
  rw [Bool.eq_iff_iff, List.all_eq_true, List.all_eq_true]
  constructor
  · intro a d hd
    obtain ⟨z, hz, rfl⟩ := List.mem_map.mp hd
    exact a _ (List.mem_map.mpr ⟨z, (h z).mpr hz, rfl⟩)
  · intro a b hb
    obtain ⟨z, hz, rfl⟩ := List.mem_map.mp hb
    exact a (.int z) (List.mem_map.mpr ⟨z, (h z).mp hz, rfl⟩)
theorem others_all {es : List PyData} (h : ∀ e ∈ es, notI e = true) : (es.map isI).all id = es.isEmpty := by
  cases es with
  | nil => rfl
  | cons e r =>
    have z := h e List.mem_cons_self
    have z2 : isI e = false := by
      unfold notI at z
      simpa using z
    simp [z2]
theorem ok_nums {f : Addr} {fd : FuncData} (F : FnP K "are_octets" sNums f fd) (N : Nm mg) (T : Ts K mg) : FnOk P w K mg base CX0 2 f fd ["thing", "limit"] (spOcts K) := by
  obtain ⟨fi, di, FI, gI⟩ := T.isI
  obtain ⟨tn, gn⟩ := N.num
  have GI : FnOk P w K mg base CX0 1 fi di ["thing"] (spTest K isI) := ok_isInt FI N
  have bI : Binds K di ["thing"] [] := FI.bindsN fun _ _ _ _ _ _ us hl => match us, hl with | [_], _ => rfl
  refine F.ok scNums (fun vs H Q E h => ?_) (fun cdv A outer s H vs Q E hr h => ?_)
  · obtain ⟨v, d, rfl, _⟩ := h
    rfl
  · refine ⟨_, PSs.nox (pss_cons (ps_if (PW.pt (pw_or (pt_not (pt_val (pe_callB call_isD (by rfl) N.isi (by decide +kernel) (pa_cons (pv 0) (pa_cons (pe_bltn (v := .ty "tuple") (by rfl) N.tuple (by decide +kernel) rfl) pa_nil)))))
        (pw_or1 (pt_cmpR op_gt (pe_callB call_len (by rfl) N.len PySem.boot_len (pa_cons (pv 0) pa_nil)) (pv 1) (nomark _))))) (pss_one (ps_ret pe_bl)) pss_nil)
      (pss_cons (ps_setLc (i := 2) (own := [("item", 3)]) (g := gName 3) rfl scNums.nd rfl rfl (sw_true rfl rfl rfl rfl) (pi_tup (pv 0)) (blkOk_by (own := [("item", 3)]) (N := ["thing", "limit", "others", "item"]) (sc := defScope sNums) (by decide +kernel))
        (fun _ _ _ _ _ => pg_name (i := 3) scNums.nd rfl (Or.inl rfl)) (fun _ _ _ _ _ => pts_one (pt_cmpR op_neTy (pe_callTy (show CallR _ (.type "type") (rTyD K) from call_tyD) (by rfl) N.type (by decide +kernel) (pa_cons (pv 3) pa_nil)) (pe_bltn (v := .ty "int") (by rfl) N.int (by decide +kernel) rfl) (nomark _)))
        (fun _ _ _ _ _ => pv 3))
      (pss_one (ps_ret (pe_and (pe_callB (cr_all rfl) (by rfl) N.all (by decide +kernel) (pa_cons (pe_lc (own := [("item", 3)]) (g := gName 3) (tt := tYes) rfl scNums.nd (pi_list (pv 2)) (blkOk_by (own := [("item", 3)]) (N := ["thing", "limit", "others", "item"]) (sc := defScope sNums) (by decide +kernel))
          (fun _ _ _ _ _ => pg_name (i := 3) scNums.nd rfl (Or.inl rfl)) (fun _ _ _ _ _ => pts_nil) (fun _ _ _ _ _ => pe_call GI hr (by rfl) gI FI.kp bI .nil pass0 (pa_cons (pv 3) pa_nil))) pa_nil))
        (pe_one (pe_callB (cr_all rfl) (by rfl) N.all (by decide +kernel) (pa_cons (pe_lc (own := [("item", 3)]) (g := gName 3) (tt := tYes) rfl scNums.nd
          (pi_list (pe_callB (cr_sortedSetN rfl) (by rfl) N.sorted (by decide +kernel) (pa_cons (pe_callTy (cr_setT rfl) (by rfl) N.set (by decide +kernel) (pa_cons (pv 0) pa_nil)) pa_nil)))
          (blkOk_by (own := [("item", 3)]) (N := ["thing", "limit", "others", "item"]) (sc := defScope sNums) (by decide +kernel))
          (fun _ _ _ _ _ => pg_name (i := 3) scNums.nd rfl (Or.inl rfl)) (fun _ _ _ _ _ => pts_nil) (fun _ _ _ _ _ => pe_chain op_le op_lt pe_int (pv 3) (pe_glob (v := .int 256) (by rfl) gn ⟨_, rfl⟩))) pa_nil)))))))), ?_⟩
    obtain ⟨v, d, rfl, hv, hf, k⟩ := h
    refine ⟨_, rfl, v, d, "tuple", rfl, rfl, hv, _, rfl, ?_⟩
    cases d with
    | none => exact iteT (iteT (k _ Same.refl'))
    | bool b => exact iteT (iteT (k _ Same.refl'))
    | int b => exact iteT (iteT (k _ Same.refl'))
    | str b => exact iteT (iteT (k _ Same.refl'))
    | list b => exact iteT (iteT (k _ Same.refl'))
    | dict b => exact iteT (iteT (k _ Same.refl'))
    | tuple ds =>
      refine iteF ?_
      cases hv with
      | @tup a xs _ hq ha =>
        have hl := sdall_len ha
        refine ⟨_, rfl, _, xs.length, rfl, .inr ⟨xs, hq, rfl⟩, _, rfl, _, _, rfl, rfl, _, rfl, ?_⟩
        by_cases big : (2000 : Int) < (xs.length : Int)
        · rw [decide_eq_true big]
          have e : isNums (.tuple ds) = false := by
            show (decide (ds.length ≤ 2000) && ds.all isOct) = false
            rw [decide_eq_false (by omega), Bool.false_and]
          rw [e] at k
          exact iteT (k _ Same.refl')
        · rw [decide_eq_false big]
          refine iteF ?_
          have small : ds.length ≤ 2000 := by omega
          have sm2 : 2000 < sizeLine := by decide
          have eN : isNums (.tuple ds) = ds.all isOct := by
            show (decide (ds.length ≤ 2000) && ds.all isOct) = _
            rw [decide_eq_true small, Bool.true_and]
          rw [eN] at k
          refine ⟨_, rfl, a, rfl, ⟨xs, hq⟩, fun D nD => lc_it walk_tup (fun i H' => Same H H' ∧ ∃ ys, SdAll K H ys ((ds.take i).filter notI) ∧ H' D = some (.lst ys)) ⟨same_new nD, [], .nil, upd_same⟩ (fun i H' _ z => sqT_to z.1 hq) ?_ ?_⟩
          · rintro i x H' H'' hi ⟨s1, ys, hys, hD⟩ ⟨rfl, hx⟩
            obtain ⟨e, he, hxe⟩ := sdall_get ha hx
            refine ⟨rfl, ?_⟩
            refine ⟨_, rfl, x, e, rfl, sd_to hxe s1, _, _, rfl, rfl, tyN_ok e, rfl, _, rfl, ?_⟩
            rw [tyN_int e]
            have et : (ds.take (i + 1)).filter notI = (ds.take i).filter notI ++ (if notI e = true then [e] else []) := by
              rw [List.take_add_one, he, List.filter_append]
              congr 1
              show List.filter notI [e] = _
              cases z : notI e <;> simp [z]
            have hlen : ys.length < sizeLine := by
              rw [sdall_len hys]
              refine Nat.lt_of_le_of_lt (List.length_filter_le _ _) (Nat.lt_of_le_of_lt ?_ sm2)
              rw [List.length_take]
              exact Nat.le_trans (Nat.min_le_right _ _) small
            cases z : notI e with
            | true =>
              rw [z] at et
              refine iteT ⟨_, rfl, _, hD, hlen, same_updN s1 nD, ys ++ [x], ?_, upd_same⟩
              rw [et]
              exact sdall_snoc hys hxe
            | false =>
              rw [z] at et
              refine iteF ⟨s1, ys, ?_, hD⟩
              rw [et]
              simpa using hys
          · rintro H1 ⟨s1, ys, hys, hD⟩
            rw [hl, List.take_length] at hys
            have hyl := sdall_len hys
            have hys1 : ys.length ≤ 2000 := by
              rw [hyl]
              exact Nat.le_trans (List.length_filter_le _ _) small
            refine ⟨_, rfl, D, rfl, ⟨ys, SqL.of hD⟩, fun D2 nD2 => lc_it walk_list (fun i H' => Same H1 H' ∧ H' D2 = some (.lst ((((ds.filter notI).take i).map isI).map V.bl))) ⟨same_new nD2, upd_same⟩ (fun i H' _ z => SqL.of (z.1 _ _ hD)) ?_ ?_⟩
            · rintro i x H' H'' hi ⟨s2, hD2⟩ ⟨rfl, hx⟩
              obtain ⟨e, he, hxe⟩ := sdall_get hys hx
              refine ⟨rfl, ?_⟩
              refine yesT ?_
              have hmem : e ∈ ds := (List.mem_filter.mp (List.mem_of_getElem? he)).1
              refine ⟨_, rfl, x, e, rfl, sd_to hxe (s1.tr s2), hf ds rfl e hmem, _, hD2, ?_, same_updN s2 nD2, ?_⟩
              · rw [List.length_map, List.length_map, List.length_take]
                exact Nat.lt_of_le_of_lt (Nat.min_le_left _ _) (by omega)
              · rw [upd_same, List.take_add_one, he, List.map_append, List.map_append]
                rfl
            · rintro H2 ⟨s2, hD2⟩
              rw [hyl, List.take_length] at hD2
              refine ⟨D2, (ds.filter notI).map isI, rfl, SqL.of hD2, ?_⟩
              have eo := others_all (es := ds.filter notI) fun e m => (List.mem_filter.mp m).2
              refine ⟨_, rfl, ?_⟩
              rw [eo]
              cases z : (ds.filter notI).isEmpty with
              | false =>
                refine iteF ?_
                have z2 : ds.filter notI ≠ [] := fun y => by
                  rw [y] at z
                  cases z
                rw [nums_others z2] at k
                exact k _ (s1.tr s2)
              | true =>
                refine iteT ?_
                obtain ⟨ns, e1, e2⟩ := all_ints ha (List.isEmpty_iff.mp z)
                subst e1
                subst e2
                have nl : ns.length ≤ 2000 := by
                  rw [List.length_map] at small
                  exact small
                refine ⟨_, rfl, a, ns, rfl, sqT_to (s1.tr s2) hq, Nat.lt_of_le_of_lt (Nat.succ_le_succ nl) (by decide), fun S c nS hc => ?_⟩
                refine ⟨S, _, c, rfl, upd_same, Nat.le_trans (Nat.le_trans hc nl) (Nat.le_of_lt sm2), fun out p pw mem ol np => ?_⟩
                have s3 := same_new (o := SetO w S (fun j => decide (j ∈ ns)) c) nS
                have s4 := same_new (o := .lst (out.map V.int)) np
                have mem2 : ∀ k, k ∈ out ↔ k ∈ ns := fun k => by rw [mem k, decide_eq_true_eq]
                refine ⟨p, rfl, ⟨out.map V.int, SqL.of upd_same⟩, fun D3 nD3 => lc_it walk_list (fun i H' => Same (upd (upd H2 S (SetO w S (fun j => decide (j ∈ ns)) c)) p (.lst (out.map V.int))) H' ∧ H' D3 = some (.lst (((out.take i).map fun z => decide (0 ≤ z) && decide (z < 256)).map V.bl))) ⟨same_new nD3, upd_same⟩ (fun i H' _ z => SqL.of (z.1 _ _ upd_same)) ?_ ?_⟩
                · rintro i x H' H'' hi ⟨s5, hD3⟩ ⟨rfl, hx⟩
                  rw [List.getElem?_map] at hx
                  obtain ⟨z, ez, rfl⟩ := Option.map_eq_some_iff.mp hx
                  refine ⟨rfl, ?_⟩
                  refine yesT ?_
                  have ollen : ((((out.take i).map fun z => decide (0 ≤ z) && decide (z < 256)).map V.bl)).length < sizeLine := by
                    rw [List.length_map, List.length_map, List.length_take]
                    exact Nat.lt_of_le_of_lt (Nat.min_le_right _ _) (by omega)
                  refine ⟨_, rfl, _, _, rfl, rfl, _, rfl, ?_⟩
                  by_cases c0 : 0 ≤ z
                  · rw [decide_eq_true c0]
                    refine iteT ⟨_, _, rfl, rfl, _, hD3, ollen, same_updN s5 nD3, ?_⟩
                    rw [upd_same, List.take_add_one, ez, List.map_append, List.map_append]
                    simp [c0]
                  · rw [decide_eq_false c0]
                    refine iteF ⟨_, hD3, ollen, same_updN s5 nD3, ?_⟩
                    rw [upd_same, List.take_add_one, ez, List.map_append, List.map_append]
                    simp [c0]
                · rintro H4 ⟨s5, hD3⟩
                  rw [List.length_map, List.take_length] at hD3
                  refine ⟨D3, _, rfl, SqL.of hD3, ?_⟩
                  rw [nums_ints mem2]
                  exact k _ ((s1.tr s2).tr (s3.tr (s4.tr s5)))
end
end Ky

set_option Elab.async false
set_option linter.all false
set_option maxRecDepth 100000
set_option maxHeartbeats 2000000
namespace Ky
open PySem PySem.Spec PyProof.Rows L2
abbrev sNode : Stmt := top 17
abbrev sOct : Stmt := top 18
abbrev sBagC : Stmt := top 19
abbrev sShape : Stmt := inClass sNode 1
abbrev sChildren : Stmt := inClass sNode 2
abbrev sCont0 : Stmt := inClass sNode 3
abbrev sOctI : Stmt := inClass sOct 1
abbrev sOctN : Stmt := inClass sOct 2
/-- a method -/
abbrev FnM (K : PySem.W.Frag) (x qual : Str) (st : Stmt) (dvs : List V) (f : Addr) (fd : FuncData) : Prop := FunD K x qual (defArgs st) (defBody st) (defScope st) dvs [] f fd
theorem scOctI : FnScope ["self", "numbers"] ["self", "numbers"] (defScope sOctI) := ⟨rfl, rfl, rfl, by decide +kernel, rfl, by decide +kernel, by decide +kernel⟩
theorem scSelf1 : FnScope ["self"] ["self"] (defScope sOctN) := ⟨rfl, rfl, rfl, by decide +kernel, rfl, by decide +kernel, by decide +kernel⟩
theorem scShape : FnScope ["self"] ["self"] (defScope sShape) := ⟨rfl, rfl, rfl, by decide +kernel, rfl, by decide +kernel, by decide +kernel⟩
theorem scCont0 : FnScope ["self"] ["self"] (defScope sCont0) := ⟨rfl, rfl, rfl, by decide +kernel, rfl, by decide +kernel, by decide +kernel⟩
theorem gsChildren : GScope ["self"] ["self"] (defScope sChildren) := ⟨rfl, rfl, rfl, by decide +kernel, rfl, by decide +kernel, by decide +kernel⟩
/-- the error with the object, to be raised at a heap that has grown -/
def Err (C : Addr) (fld : Str) (v : V) (H : Hp) (E : XK) : Prop := ∀ dd H', H dd = none → Same H H' → H' dd = some (.xd [(fld, v)]) → E (.ref C) (some dd) H'
def spOctI (K : PySem.W.Frag) (C CE : Addr) : Sp := fun vs H Q E => ∃ (a dx : Addr) (v : V) (d : PyData), vs = [.ref a, v] ∧ H a = some (.ins C dx []) ∧ Sd K H v d ∧ fitsAll d ∧ (isNums d = true → ∀ H', Same H H' → Q .non (upd H' a (.ins C dx [("_numbers", v)]))) ∧ (isNums d = false → Err CE "value" v H E)
/-- a field, read -/
def spFld (C : Addr) (f : Str) : Sp := fun vs H Q _ => ∃ (a dx : Addr) (fs : List (Str × V)) (v : V), vs = [.ref a] ∧ H a = some (.ins C dx fs) ∧ fs.lookup f = some v ∧ Q v H
section
variable {P : Program} {w : World} {K : PySem.W.Frag} {mg : Str → Option Value} {base : Heap} {C : Addr}
theorem none_of {H H' : Hp} {b : Addr} (s : Same H H') (n : H' b = none) : H b = none := by
  cases e : H b with
  | none => rfl
  | some o =>
    rw [s _ _ e] at n
    cases n
theorem ok_octI {f : Addr} {fd : FuncData} (c : Cls K C) (na : NoAttr K C "_numbers") {dv : List V} (F : FnM K "__init__" "Octets.__init__" sOctI dv f fd) (N : Nm mg) (T : Ts K mg) (S : Es P w K mg base) : FnOk P w K mg base (L2.CX P w) 3 f fd ["self", "numbers"] (spOctI K C (gC K "InvalidNumbers")) := by
  obtain ⟨fn, dn, FN, gN⟩ := T.nums
  obtain ⟨tl, gl⟩ := N.nums
  have GN : FnOk P w K mg base CX0 2 fn dn ["thing", "limit"] (spOcts K) := ok_nums FN N T
  have bN : Binds K dn ["thing", "limit"] [] := FN.bindsN fun _ _ _ _ _ _ us hl => match us, hl with | [_, _], _ => rfl
  refine F.ok scOctI (fun vs H Q E h => ?_) (fun cdv A outer s H vs Q E hr h => ?_)
  · obtain ⟨a, dx, v, d, rfl, _⟩ := h
    rfl
  · refine ⟨_, pss_cons (ps_if (pt_not (pt_val (pe_call GN hr (by rfl) gN FN.kp bN .nil pass0 (pa_cons (pv 1) (pa_cons (pe_glob (v := .int 2000) (by rfl) gl ⟨_, rfl⟩) pa_nil))))) (pss_one (ps_x1 rfl (takes_of rfl rfl rfl rfl) S.nums hr (by rfl) (pv 1))) pss_nil)
      (pss_one (ps_fld (pv 0) (pv 1) (by rfl))), ?_⟩
    obtain ⟨a, dx, v, d, rfl, ha, hv, hf, k1, k2⟩ := h
    refine ⟨_, rfl, v, d, rfl, hv, hf, fun H1 s1 => ⟨_, rfl, ?_⟩⟩
    cases e : isNums d with
    | true =>
      refine iteF ?_
      exact ⟨_, rfl, _, rfl, a, C, dx, [], rfl, s1 _ _ ha, c, na, by decide, k1 e _ s1⟩
    | false => exact iteT ⟨_, rfl, v, rfl, fun dd H' n s x => k2 e dd H' (none_of s1 n) (s1.tr s) x⟩
theorem ok_fld {f : Addr} {fd : FuncData} {g : Str} {x qual : Str} {st : Stmt} {p1 p2 p3 : Pos} (hb : defBody st = [.Return (some (.Attribute (.Name "self" p1) g p2)) p3]) (sc : FnScope ["self"] ["self"] (defScope st)) (hvis : Vis (defScope st) "self") (c : Cls K C) (na : NoAttr K C g) (F : FnM K x qual st [] f fd) : FnOk P w K mg base CX0 1 f fd ["self"] (spFld C g) := by
  refine F.ok sc (fun vs H Q E h => ?_) (fun cdv A outer s H vs Q E hr h => ?_)
  · obtain ⟨a, dx, fs, v, rfl, _⟩ := h
    rfl
  · rw [hb]
    refine ⟨_, PSs.nox (pss_one (ps_ret (pe_fld (pe_var (i := 0) rfl hvis) (by rfl)))), ?_⟩
    obtain ⟨a, dx, fs, v, rfl, ha, hl, k⟩ := h
    exact ⟨_, rfl, a, C, dx, fs, v, rfl, ha, c, na, hl, k⟩
/-- the contents are handed out: spC is the promise of the class's _contents -/
def spKids (C : Addr) (spC : Sp) : SpY := fun vs H xs Q E => ∃ (a dx : Addr) (fs : List (Str × V)), vs = [.ref a] ∧ H a = some (.ins C dx fs) ∧ fs.lookup ("_contents" : Str) = none ∧ spC [.ref a] H (fun v H1 => ∃ t, v = .ref t ∧ H1 t = some (.tup xs) ∧ Q H1) E0
theorem ok_kids {k : Nat} {f fc : Addr} {fd fdc : FuncData} {spC : Sp} (c : Cls K C) (hm : Meth K C "_contents" fc) (F : FnM K "children" "Node.children" sChildren [] f fd) (FC : FnOk P w K mg base CX0 k fc fdc ["self"] spC) (bC : Binds K fdc ["self"] []) (mono : ∀ vs H (Q Q' : VK) E, (∀ v H, Q v H → Q' v H) → spC vs H Q E → spC vs H Q' E) : YDef P w K mg base (k + 1) f fd ["self"] (spKids C spC) := by
  refine F.okY gsChildren (fun vs H xs Q E h => ?_) (fun cdv A outer s H vs xs Q E pn hr h => ?_)
  · obtain ⟨a, dx, fs, rfl, _⟩ := h
    rfl
  · refine ⟨_, yss_cons (ys_from (yf_tup (pe_meth0 (pe_var (i := 0) rfl (by first | exact .inl rfl | rfl)) c hm FC hr bC .nil pass0)) hr.hd) yss_nil, ?_⟩
    obtain ⟨a, dx, fs, rfl, ha, hl, q⟩ := h
    refine ⟨_, rfl, a, dx, fs, rfl, ha, hl, mono _ _ _ _ _ (fun v H1 z => ?_) q⟩
    obtain ⟨t, rfl, ht, q2⟩ := z
    exact ⟨t, xs, rfl, ht, fun i y e => by rw [Nat.zero_add]; exact e, Nat.zero_add _, q2⟩
/-- nothing -/
def spNone (C : Addr) : Sp := fun vs H Q _ => ∃ (a dx : Addr) (fs : List (Str × V)), vs = [.ref a] ∧ H a = some (.ins C dx fs) ∧ ∀ p, H p = none → Q (.ref p) (upd H p (.tup []))
theorem ok_cont0 {f : Addr} {fd : FuncData} (F : FnM K "_contents" "Node._contents" sCont0 [] f fd) : FnOk P w K mg base CX0 1 f fd ["self"] (spNone C) := by
  refine F.ok scCont0 (fun vs H Q E h => ?_) (fun cdv A outer s H vs Q E hr h => ?_)
  · obtain ⟨a, dx, fs, rfl, _⟩ := h
    rfl
  · refine ⟨_, PSs.nox (pss_one (ps_ret (pe_tup pa_nil))), ?_⟩
    obtain ⟨a, dx, fs, rfl, ha, k⟩ := h
    exact ⟨Nat.zero_le _, fun p hp => k p hp⟩
/-- the shape: the class's word -/
def spShape (C : Addr) (z : Str) : Sp := fun vs H Q _ => ∃ (a dx : Addr) (fs : List (Str × V)), vs = [.ref a] ∧ H a = some (.ins C dx fs) ∧ fs.lookup ("SHAPE" : Str) = none ∧ Q (.str z) H
theorem ok_shape {f : Addr} {fd : FuncData} {z : Str} {u : Value} (c : Cls K C) (w1 : Con K C "SHAPE" (.str z) u) (F : FnM K "shape" "Node.shape" sShape [] f fd) : FnOk P w K mg base CX0 1 f fd ["self"] (spShape C z) := by
  refine F.ok scShape (fun vs H Q E h => ?_) (fun cdv A outer s H vs Q E hr h => ?_)
  · obtain ⟨a, dx, fs, rfl, _⟩ := h
    rfl
  · refine ⟨_, PSs.nox (pss_one (ps_ret (pe_con (pv 0) (by rfl)))), ?_⟩
    obtain ⟨a, dx, fs, rfl, ha, hl, k⟩ := h
    exact ⟨_, rfl, a, C, dx, fs, _, u, rfl, ha, c, w1, hl, k⟩
end
end Ky

set_option Elab.async false
set_option linter.all false
set_option maxRecDepth 100000
set_option maxHeartbeats 2000000
namespace Ky
open PySem PySem.Spec PyProof.Rows L2 StX
def intsOf : List Key → List Int
  | [] => []
  | .inl i :: r => i :: intsOf r
  | .inr _ :: r => intsOf r
def strsOf : List Key → List Str
  | [] => []
  | .inl _ :: r => strsOf r
  | .inr x :: r => x :: strsOf r
theorem intsOf_app : ∀ (a b : List Key), intsOf (a ++ b) = intsOf a ++ intsOf b
  | [], _ => rfl
  | .inl i :: r, b => by simp only [List.cons_append, intsOf, intsOf_app r b]
  | .inr _ :: r, b => by simp only [List.cons_append, intsOf, intsOf_app r b]
theorem strsOf_app : ∀ (a b : List Key), strsOf (a ++ b) = strsOf a ++ strsOf b
  | [], _ => rfl
  | .inl i :: r, b => by simp only [List.cons_append, strsOf, strsOf_app r b]
  | .inr _ :: r, b => by simp only [List.cons_append, strsOf, strsOf_app r b]
theorem intsOf_len : ∀ a : List Key, (intsOf a).length ≤ a.length
  | [] => Nat.le_refl _
  | .inl i :: r => Nat.succ_le_succ (intsOf_len r)
  | .inr _ :: r => Nat.le_succ_of_le (intsOf_len r)
theorem strsOf_len : ∀ a : List Key, (strsOf a).length ≤ a.length
  | [] => Nat.le_refl _
  | .inl i :: r => Nat.le_succ_of_le (strsOf_len r)
  | .inr _ :: r => Nat.succ_le_succ (strsOf_len r)
/-- keys as a Bag can have them -/
def KeysOk (ks : List Key) : Prop := ks.length ≤ 60 ∧ ∀ k ∈ ks, isK (keyD k) = true
theorem fits_key {k : Key} (h : isK (keyD k) = true) : fits (keyD k) := by
  intro x e
  cases k with
  | inl i => cases e
  | inr y =>
    cases e
    exact Nat.le_trans (of_decide_eq_true h) (by decide)
theorem sd_key {K : PySem.W.Frag} {H : Hp} (k : Key) : Sd K H (kV k) (keyD k) := by
  cases k with
  | inl i => exact .int i
  | inr x => exact .str x
abbrev sAsc : Stmt := top 21
theorem scAsc : FnScope ["keys", "integers", "texts", "key"] ["keys"] (defScope sAsc) := ⟨rfl, rfl, rfl, by decide +kernel, rfl, by decide +kernel, by decide +kernel⟩
/-- ascending: integers, then texts -/
def Asc (ks : List Key) (rs : List V) : Prop := ∃ (is : List Int) (xs : List Str), rs = is.map V.int ++ xs.map V.str ∧ is.Perm (intsOf ks) ∧ is.Pairwise (· ≤ ·) ∧ xs.Perm (strsOf ks) ∧ sortedS xs = true
def spAsc (K : PySem.W.Frag) : Sp := fun vs H Q _ => ∃ (t : Addr) (ks : List Key), vs = [.ref t] ∧ SqL K H t (ks.map kV) ∧ KeysOk ks ∧ ∀ rs p H', Asc ks rs → Same H H' → H' p = some (.tup rs) → Q (.ref p) H'
section
variable {P : Program} {w : World} {K : PySem.W.Frag} {mg : Str → Option Value} {base : Heap} {C : Addr}
theorem ok_asc {f : Addr} {fd : FuncData} (F : FnP K "ascending" sAsc f fd) (N : Nm mg) (T : Ts K mg) : FnOk P w K mg base CX0 2 f fd ["keys"] (spAsc K) := by
  obtain ⟨fi, di, FI, gI⟩ := T.isI
  obtain ⟨ft, dt, FT, gT⟩ := T.isT
  have GI : FnOk P w K mg base CX0 1 fi di ["thing"] (spTest K isI) := ok_isInt FI N
  have GT : FnOk P w K mg base CX0 1 ft dt ["thing"] (spTest K isT) := ok_isText FT N
  have bI : Binds K di ["thing"] [] := FI.bindsN fun _ _ _ _ _ _ us hl => match us, hl with | [_], _ => rfl
  have bT : Binds K dt ["thing"] [] := FT.bindsN fun _ _ _ _ _ _ us hl => match us, hl with | [_], _ => rfl
  refine F.ok scAsc (fun vs H Q E h => ?_) (fun cdv A outer s H vs Q E hr h => ?_)
  · obtain ⟨t, ks, rfl, _⟩ := h
    rfl
  · refine ⟨_, PSs.nox (pss_cons (ps_set (i := 1) scAsc.nd rfl (Or.inl rfl) (pe_callB cr_sorted (by rfl) N.sorted (by decide +kernel) (pa_cons (pe_lc (own := [("key", 3)]) (g := gName 3) rfl scAsc.nd (pi_list (pv 0)) (blkOk_by (own := [("key", 3)]) (N := ["keys", "integers", "texts", "key"]) (sc := defScope sAsc) (by decide +kernel))
          (fun _ _ _ _ _ => pg_name (i := 3) scAsc.nd rfl (Or.inl rfl)) (fun _ _ _ _ _ => pts_one (pt_val (pe_call GI hr (by rfl) gI FI.kp bI .nil pass0 (pa_cons (pv 3) pa_nil)))) (fun _ _ _ _ _ => pv 3)) pa_nil)))
      (pss_cons (ps_set (i := 2) scAsc.nd rfl (Or.inl rfl) (pe_callB cr_sortedS (by rfl) N.sorted (by decide +kernel) (pa_cons (pe_lc (own := [("key", 3)]) (g := gName 3) rfl scAsc.nd (pi_list (pv 0)) (blkOk_by (own := [("key", 3)]) (N := ["keys", "integers", "texts", "key"]) (sc := defScope sAsc) (by decide +kernel))
          (fun _ _ _ _ _ => pg_name (i := 3) scAsc.nd rfl (Or.inl rfl)) (fun _ _ _ _ _ => pts_one (pt_val (pe_call GT hr (by rfl) gT FT.kp bT .nil pass0 (pa_cons (pv 3) pa_nil)))) (fun _ _ _ _ _ => pv 3)) pa_nil)))
      (pss_one (ps_ret (pe_tup (pa_star (pv 1) (pa_star (pv 2) pa_nil))))))), ?_⟩
    obtain ⟨t, ks, rfl, hq, hk, k⟩ := h
    have lt := hk.1
    refine ⟨_, rfl, t, rfl, ⟨_, hq⟩, fun D nD => lc_it walk_list (fun i H' => Same H H' ∧ H' D = some (.lst ((intsOf (ks.take i)).map V.int))) ⟨same_new nD, upd_same⟩ (fun i H' _ z => z.1.seq hq) ?_ ?_⟩
    · rintro i x H' H'' hi ⟨s1, hD⟩ ⟨rfl, hx⟩
      rw [List.getElem?_map] at hx
      obtain ⟨kk, ek, rfl⟩ := Option.map_eq_some_iff.mp hx
      have hmem : kk ∈ ks := List.mem_of_getElem? ek
      refine ⟨rfl, ?_⟩
      refine ⟨_, rfl, kV kk, keyD kk, rfl, sd_key kk, fits_key (hk.2 kk hmem), _, rfl, ?_⟩
      cases kk with
      | inl z =>
        refine iteT ?_
        refine ⟨_, rfl, _, hD, ?_, same_updN s1 nD, ?_⟩
        · rw [List.length_map]
          exact Nat.lt_of_le_of_lt (intsOf_len _) (by rw [List.length_take]; exact Nat.lt_of_le_of_lt (Nat.min_le_right _ _) (Nat.lt_of_le_of_lt lt (by decide)))
        · rw [upd_same, List.take_add_one, ek]
          show some (HO.lst (_ ++ [V.int z])) = some (.lst ((intsOf (ks.take i ++ [Sum.inl z])).map V.int))
          rw [intsOf_app, List.map_append]
          rfl
      | inr z =>
        refine iteF ⟨s1, ?_⟩
        rw [hD, List.take_add_one, ek]
        show _ = some (HO.lst ((intsOf (ks.take i ++ [Sum.inr z])).map V.int))
        rw [intsOf_app]
        simp [intsOf]
    · rintro H1 ⟨s1, hD⟩
      rw [List.length_map, List.take_length] at hD
      refine ⟨D, intsOf ks, rfl, SqL.of hD, Nat.lt_of_le_of_lt (intsOf_len ks) (by omega), fun is p1 perm1 pair1 np1 => ?_⟩
      have s2 := s1.tr (same_new (o := .lst (is.map V.int)) np1)
      refine ⟨_, rfl, t, rfl, ⟨_, s2.seq hq⟩, fun D2 nD2 => lc_it walk_list (fun i H' => Same (upd H1 p1 (.lst (is.map V.int))) H' ∧ H' D2 = some (.lst ((strsOf (ks.take i)).map V.str))) ⟨same_new nD2, upd_same⟩ (fun i H' _ z => (s2.tr z.1).seq hq) ?_ ?_⟩
      · rintro i x H' H'' hi ⟨s3, hD⟩ ⟨rfl, hx⟩
        rw [List.getElem?_map] at hx
        obtain ⟨kk, ek, rfl⟩ := Option.map_eq_some_iff.mp hx
        have hmem : kk ∈ ks := List.mem_of_getElem? ek
        refine ⟨rfl, ?_⟩
        refine ⟨_, rfl, kV kk, keyD kk, rfl, sd_key kk, fits_key (hk.2 kk hmem), _, rfl, ?_⟩
        cases kk with
        | inr z =>
          have ez : isT (keyD (Sum.inr z)) = true := hk.2 _ hmem
          rw [ez]
          refine iteT ?_
          refine ⟨_, rfl, _, hD, ?_, same_updN s3 nD2, ?_⟩
          · rw [List.length_map]
            exact Nat.lt_of_le_of_lt (strsOf_len _) (by rw [List.length_take]; exact Nat.lt_of_le_of_lt (Nat.min_le_right _ _) (Nat.lt_of_le_of_lt lt (by decide)))
          · rw [upd_same, List.take_add_one, ek]
            show some (HO.lst (_ ++ [V.str z])) = some (.lst ((strsOf (ks.take i ++ [Sum.inr z])).map V.str))
            rw [strsOf_app, List.map_append]
            rfl
        | inl z =>
          refine iteF ⟨s3, ?_⟩
          rw [hD, List.take_add_one, ek]
          show _ = some (HO.lst ((strsOf (ks.take i ++ [Sum.inl z])).map V.str))
          rw [strsOf_app]
          simp [strsOf]
      · rintro H2 ⟨s3, hD⟩
        rw [List.length_map, List.take_length] at hD
        refine ⟨D2, strsOf ks, rfl, SqL.of hD, Nat.lt_of_le_of_lt (strsOf_len ks) (by omega), fun xs p2 perm2 sor2 np2 => ?_⟩
        have s4 := same_new (o := .lst (xs.map V.str)) np2
        refine ⟨_, rfl, p1, _, rfl, .inr (SqL.of ((s3.tr s4) _ _ upd_same)), _, rfl, p2, _, rfl, .inr (SqL.of upd_same), ?_, fun p np => ?_⟩
        · have a1 := perm1.length_eq
          have a2 := perm2.length_eq
          have b1 := intsOf_len ks
          have b2 := strsOf_len ks
          rw [List.length_append, List.length_append, List.length_map, List.length_map]
          show _ ≤ sizeLine
          have e : (1000 : Nat) ≤ sizeLine := by decide
          simp only [List.length_nil]
          omega
        · refine k _ p _ ⟨is, xs, ?_, perm1, pair1, perm2, sor2⟩ ((s2.tr (s3.tr s4)).tr (same_new np)) upd_same
          rw [List.append_nil]
end
end Ky

set_option Elab.async false
set_option linter.all false
set_option maxRecDepth 100000
set_option maxHeartbeats 2000000
namespace Ky
open PySem PySem.Spec PyProof.Rows L2 StX
abbrev sBagI : Stmt := inClass sBagC 1
abbrev sBagOf : Stmt := inClass sBagC 2
abbrev sBagM : Stmt := inClass sBagC 3
abbrev sBagK : Stmt := inClass sBagC 4
/-- the key that a datum is, if it is one -/
def keyOf (d : PyData) : Option Key := match d with
  | .int i => if isK (.int i) = true then some (.inl i) else none
  | .str x => if isK (.str x) = true then some (.inr x) else none
  | _ => none
theorem keyOf_some {d : PyData} {k : Key} (h : keyOf d = some k) : d = keyD k ∧ isK d = true := by
  unfold keyOf at h
  split at h
  · split at h
    · cases h
      exact ⟨rfl, by assumption⟩
    · cases h
  · split at h
    · cases h
      exact ⟨rfl, by assumption⟩
    · cases h
  · cases h
theorem keyOf_none {d : PyData} (h : keyOf d = none) : isK d = false := by
  unfold keyOf at h
  split at h
  · split at h
    · cases h
    · rename_i c
      exact Bool.eq_false_iff.mpr c
  · split at h
    · cases h
    · rename_i c
      exact Bool.eq_false_iff.mpr c
  · rename_i a b
    cases d with
    | int i => exact absurd rfl (a i)
    | str i => exact absurd rfl (b i)
    | none => rfl
    | bool _ => rfl
    | list _ => rfl
    | tuple _ => rfl
    | dict _ => rfl
theorem keyOf_of {d : PyData} (h : isK d = true) : ∃ k, keyOf d = some k := by
  cases d with
  | int i => exact ⟨.inl i, if_pos h⟩
  | str x => exact ⟨.inr x, if_pos h⟩
  | none => cases h
  | bool _ => cases h
  | list _ => cases h
  | tuple _ => cases h
  | dict _ => cases h
theorem keyOf_no {d : PyData} (h : isK d = false) : keyOf d = none := by
  cases e : keyOf d with
  | none => rfl
  | some k =>
    rw [(keyOf_some e).2] at h
    cases h
theorem sd_keyV {K : PySem.W.Frag} {H : Hp} {x : V} {k : Key} (h : Sd K H x (keyD k)) : x = kV k := by
  cases k with
  | inl i =>
    cases h
    rfl
  | inr z =>
    cases h
    rfl
theorem sd_keysV {K : PySem.W.Frag} {H : Hp} : ∀ {ks : List Key} {xs : List V}, SdAll K H xs (ks.map keyD) → xs = ks.map kV
  | [], _, h => by
    cases h
    rfl
  | k :: ks, _, h => by
    cases h with
    | cons h1 h2 => rw [sd_keyV h1, sd_keysV h2, List.map_cons]
/-- the first wrong one: its place, and whether it is no key (else it is taken) -/
def due : List Key → Nat → List PyData → Option (Nat × Bool)
  | _, _, [] => none
  | seen, n, d :: r => match keyOf d with
    | none => some (n, true)
    | some k => if (seen.any fun j => decide (j = k)) = true then some (n, false) else due (seen ++ [k]) (n + 1) r
theorem due_keysA : ∀ (ds : List PyData) (seen : List Key) (n : Nat), due seen n ds = none → ∀ d ∈ ds, isK d = true
  | [], _, _, _ => fun _ m => (List.not_mem_nil m).elim
  | d :: r, seen, n, h => fun e m => by
    unfold due at h
    cases q : keyOf d with
    | none =>
      rw [q] at h
      cases h
    | some k =>
      rw [q] at h
      dsimp only at h
      split at h
      · cases h
      · rcases List.mem_cons.mp m with m | m
        · rw [m]
          exact (keyOf_some q).2
        · exact due_keysA r _ _ h e m
theorem due_keys {ds : List PyData} (h : due [] 0 ds = none) : ∀ d ∈ ds, isK d = true := due_keysA ds [] 0 h
def allKeys (ks : List Key) : List PyData := ks.map keyD
def entD (ks : List Key) : List (Key × V) := ks.map fun k => (k, V.bl true)
/-- a new Bag's __init__: H0 is the heap before the Bag was there -/
def spBagI (K : PySem.W.Frag) (C CK CT : Addr) : Sp := fun vs H Q E => ∃ (a dx : Addr) (ws : List V) (ds : List PyData) (H0 : Hp), vs = .ref a :: ws ∧ H a = some (.ins C dx []) ∧ H0 a = none ∧ Same H0 H ∧ SdAll K H0 ws ds ∧ ws.length ≤ 60 ∧ (∀ d ∈ ds, fits d) ∧
  (∀ ks : List Key, due [] 0 ds = none → ds = allKeys ks → ks.Nodup → ∀ p H', Same H0 H' → H' a = some (.ins C dx [("_entries", .ref p)]) → H' p = some (.dK (entD ks)) → Q .non H') ∧
  (∀ n v, due [] 0 ds = some (n, true) → ws[n]? = some v → Err CK "key" v H0 E) ∧ (∀ n v, due [] 0 ds = some (n, false) → ws[n]? = some v → Err CT "key" v H0 E)
/-- add_members: the dict is the Bag's own -/
def spAdd (K : PySem.W.Frag) (C CK CT : Addr) : Sp := fun vs H Q E => ∃ (a dx t p : Addr) (ws : List V) (ds : List PyData) (H0 : Hp), vs = [.ref a, .ref t] ∧ H a = some (.ins C dx [("_entries", .ref p)]) ∧ H t = some (.tup ws) ∧ H p = some (.dK []) ∧ H0 a = none ∧ H0 p = none ∧ Same H0 H ∧ SdAll K H0 ws ds ∧ ws.length ≤ 60 ∧ (∀ d ∈ ds, fits d) ∧
  (∀ ks : List Key, due [] 0 ds = none → ds = allKeys ks → ks.Nodup → ∀ H', Same H0 H' → H' a = some (.ins C dx [("_entries", .ref p)]) → H' p = some (.dK (entD ks)) → Q .non H') ∧
  (∀ n v, due [] 0 ds = some (n, true) → ws[n]? = some v → Err CK "key" v H0 E) ∧ (∀ n v, due [] 0 ds = some (n, false) → ws[n]? = some v → Err CT "key" v H0 E)
theorem val_ent (ks : List Key) (k : Key) : (valV (entD ks) k).isSome = ks.any fun j => decide (j = k) := by
  unfold entD
  rw [← valV_any, List.any_map]
  rfl
section
variable {P : Program} {w : World} {K : PySem.W.Frag} {mg : Str → Option Value} {base : Heap} {C : Addr}
abbrev sAdd : Stmt := top 22
theorem scAdd : FnScope ["bag", "keys", "key"] ["bag", "keys"] (defScope sAdd) := ⟨rfl, rfl, rfl, by decide +kernel, rfl, by decide +kernel, by decide +kernel⟩
theorem ok_add {f : Addr} {fd : FuncData} (c : Cls K C) (na : NoAttr K C "_entries") (F : FnP K "add_members" sAdd f fd) (N : Nm mg) (T : Ts K mg) (S : Es P w K mg base) : FnOk P w K mg base (L2.CX P w) 4 f fd ["bag", "keys"] (spAdd K C (gC K "InvalidKey") (gC K "KeyTaken")) := by
  obtain ⟨fq, dq, FQ, gQ⟩ := T.req
  have GQ : FnOk P w K mg base (L2.CX P w) 3 fq dq ["key"] (spReq K (gC K "InvalidKey")) := ok_req FQ N T S
  have bQ : Binds K dq ["key"] [] := FQ.bindsN fun _ _ _ _ _ _ us hl => match us, hl with | [_], _ => rfl
  refine F.ok scAdd (fun vs H Q E h => ?_) (fun cdv A outer s H vs Q E hr h => ?_)
  · obtain ⟨a, dx, t, p, ws, ds, H0, rfl, _⟩ := h
    rfl
  · have hu := hu_of hr
    refine ⟨_, pss_one (ps_for (passes_of rfl) rfl (pi_tup (pv 1)) (pg_name (i := 2) scAdd.nd rfl (Or.inl rfl))
        (pss_cons (ps_expr (pe_callS GQ hr (by rfl) gQ FQ.kp bQ (fun σ => passAt (takes_of rfl rfl rfl rfl) σ) (pa_cons (pv 2) pa_nil)))
        (pss_cons (ps_if (pt_cmp (pc_din hu (pv 2) (pe_fld (pv 0) (by rfl)))) (pss_one (ps_x1 rfl (takes_of rfl rfl rfl rfl) S.taken (hr.mono (by decide)) (by rfl) (pv 2))) pss_nil)
        (pss_one (ps_dput hu (pe_fld (pv 0) (by rfl)) (pv 2) pe_bl rfl))))), ?_⟩
    obtain ⟨a, dx, t, p, ws, ds, H0, rfl, ha, ht, hp, a0, p0, s0, hs, hl, hf, k0, k1, k2⟩ := h
    have hlen := sdall_len hs
    have npa : a ≠ p := ne_of ha hp (by intro z; cases z)
    have npt : t ≠ p := ne_of ht hp (by intro z; cases z)
    refine ⟨_, rfl, t, rfl, ⟨ws, SqT.of ht⟩, for_it (walk_tup (xs := ws)) (fun i σ H' => ∃ (ks : List Key) (t3 : Option V), σ = [some (.ref a), some (.ref t), t3] ∧ ds.take i = allKeys ks ∧ ks.Nodup ∧ due [] 0 ds = due ks i (ds.drop i) ∧ H' p = some (.dK (entD ks)) ∧ H' a = some (.ins C dx [("_entries", .ref p)]) ∧ H' t = some (.tup ws) ∧ Same H0 H' ∧ ks.length ≤ i)
      ⟨[], none, rfl, rfl, .nil, rfl, hp, ha, ht, s0, Nat.le_refl _⟩ (fun i σ H' _ z => ?_) ?_ ?_⟩
    · obtain ⟨_, _, _, _, _, _, _, _, h1, _⟩ := z
      exact SqT.of h1
    · rintro i x σ H' H'' hi ⟨ks, t3, rfl, e1, e2, e3, e4, ea, et, s1, e5⟩ ⟨rfl, hx⟩
      obtain ⟨d, ed, sx⟩ := sdall_get hs hx
      have hdrop : ds.drop i = d :: ds.drop (i + 1) := by
        obtain ⟨h1, h2⟩ := List.getElem?_eq_some_iff.mp ed
        rw [List.drop_eq_getElem_cons h1, h2]
      rw [hdrop] at e3
      have hmem : d ∈ ds := List.mem_of_getElem? ed
      refine ⟨_, rfl, x, d, rfl, sd_to sx s1, hf d hmem, fun hk => ?_, fun hk => ?_⟩
      · -- a key
        obtain ⟨k, ek⟩ := keyOf_of hk
        obtain ⟨rfl, _⟩ := keyOf_some ek
        have ex : x = kV k := sd_keyV sx
        subst ex
        refine ⟨_, rfl, _, rfl, a, C, dx, _, _, rfl, ea, c, na, rfl, p, _, rfl, DGet.k e4, _, rfl, ?_⟩
        rw [val_ent]
        cases e7 : ks.any fun j => decide (j = k) with
        | true =>
          refine iteT ⟨_, rfl, kV k, rfl, fun dd H2 n s x2 => ?_⟩
          refine k2 i (kV k) ?_ hx dd H2 (none_of s1 n) (s1.tr s) x2
          rw [e3]
          simp only [due, ek, e7, if_true]
        | false =>
          refine iteF ⟨_, rfl, a, C, dx, _, _, rfl, ea, c, na, rfl, _, rfl, p, _, rfl, DPut.k e4 ?_, ?_⟩
          · unfold entD
            rw [List.length_map]
            exact Nat.lt_of_le_of_lt e5 (Nat.lt_of_lt_of_le hi (Nat.le_trans hl (by decide)))
          · have e8 : valV (entD ks) k = none := by
              have e6 := val_ent ks k
              rw [e7] at e6
              cases q : valV (entD ks) k with
              | none => rfl
              | some u =>
                rw [q] at e6
                cases e6
            refine ⟨ks ++ [k], _, rfl, ?_, ?_, ?_, ?_, ?_, ?_, ?_, ?_⟩
            · rw [List.take_add_one, ed, e1]
              show ks.map keyD ++ [keyD k] = (ks ++ [k]).map keyD
              rw [List.map_append]
              rfl
            · refine List.nodup_append.mpr ⟨e2, by simp, fun y hy z hz => ?_⟩
              rw [List.mem_singleton.mp hz]
              intro e
              have q : (ks.any fun j => decide (j = k)) = true := List.any_eq_true.mpr ⟨y, hy, decide_eq_true e⟩
              rw [e7] at q
              cases q
            · rw [e3]
              simp only [due, ek, e7]
              rfl
            · rw [upd_same, putK_new _ e8]
              unfold entD
              rw [List.map_append]
              rfl
            · rw [upd_ne npa]
              exact ea
            · rw [upd_ne npt]
              exact et
            · exact same_updN s1 p0
            · rw [List.length_append]
              exact Nat.succ_le_succ e5
      · -- no key
        intro dd H2 n s x2
        refine k1 i x ?_ hx dd H2 (none_of s1 n) (s1.tr s) x2
        rw [e3]
        simp only [due, keyOf_no hk]
    · rintro σ H' ⟨ks, t3, rfl, e1, e2, e3, e4, ea, et, s1, e5⟩
      have e6 : ds = allKeys ks := by
        rw [← e1, hlen, List.take_length]
      have e7 : due [] 0 ds = none := by
        rw [e3, hlen, List.drop_length]
        rfl
      exact k0 ks e7 e6 e2 H' s1 ea e4
theorem scBagI : FnScope ["self", "members"] ((["self"] : List Str) ++ (["members"] : List Str)) (defScope sBagI) := ⟨rfl, rfl, rfl, by decide +kernel, rfl, by decide +kernel, by decide +kernel⟩
theorem ok_bagI {f : Addr} {fd : FuncData} (c : Cls K C) (na : NoAttr K C "_entries") (F : FnM K "__init__" "Bag.__init__" sBagI [] f fd) (N : Nm mg) (T : Ts K mg) (S : Es P w K mg base) (add : ∃ f fd, FnP K "add_members" sAdd f fd ∧ mg "add_members" = some (.ref f)) : FnR P w K mg base (L2.CX P w) 5 f (spBagI K C (gC K "InvalidKey") (gC K "KeyTaken")) := by
  obtain ⟨fa, da, FA, gA⟩ := add
  have GA : FnOk P w K mg base (L2.CX P w) 4 fa da ["bag", "keys"] (spAdd K C (gC K "InvalidKey") (gC K "KeyTaken")) := ok_add c na FA N T S
  have bA : Binds K da ["bag", "keys"] [] := FA.bindsN fun _ _ _ _ _ _ us hl => match us, hl with | [_, _], _ => rfl
  obtain ⟨oc, od, dV, kV', doc, pm, an, cdv, ct, osl, rfl, lk, hcd, hD, hK⟩ := F.ex
  obtain rfl : dV = .none := hD.elim (fun z => z.2) fun z => absurd rfl z.1
  have R := fn_star (P := P) (w := w) (mg := mg) (base := base) (CX := L2.CX P w) (k := 4) (ps := ["self"]) (pv := "members") lk hcd scBagI cxUp (fun us rest hl => ?bind) (sp := fun vs H Q E => ∃ (a t dx : Addr) (ws : List V) (ds : List PyData) (H0 : Hp), vs = [.ref a, .ref t] ∧ H t = some (.tup ws) ∧ H a = some (.ins C dx []) ∧ H0 a = none ∧ Same H0 H ∧ SdAll K H0 ws ds ∧ ws.length ≤ 60 ∧ (∀ d ∈ ds, fits d) ∧
    (∀ ks : List Key, due [] 0 ds = none → ds = allKeys ks → ks.Nodup → ∀ p H', Same H0 H' → H' a = some (.ins C dx [("_entries", .ref p)]) → H' p = some (.dK (entD ks)) → Q .non H') ∧
    (∀ n v, due [] 0 ds = some (n, true) → ws[n]? = some v → Err (gC K "InvalidKey") "key" v H0 E) ∧ (∀ n v, due [] 0 ds = some (n, false) → ws[n]? = some v → Err (gC K "KeyTaken") "key" v H0 E)) fun A outer s H vs Q E hr h => ?body
  case bind =>
    match us, hl with
    | [u], _ => exact bind_star1 (B := fun us => bindArgs (PySem.W.fnOf "__init__" "Bag.__init__" (defArgs sBagI) (defBody sBagI) (defScope sBagI) .none kV' doc pm an cdv ct) ⟨us, []⟩) (fun _ => rfl) (fun _ _ _ => rfl) [u] rest rfl
  case body =>
    refine ⟨_, pss_cons (ps_fld (pv 0) pe_dnewK (by rfl))
      (pss_one (ps_expr (pe_callS GA hr (by rfl) gA FA.kp bA (fun σ => passAt (takes_of rfl rfl rfl rfl) σ) (pa_cons (pv 0) (pa_cons (pv 1) pa_nil))))), ?_⟩
    obtain ⟨a, t, dx, ws, ds, H0, rfl, ht, ha, a0, s0, hs, hl, hf, k0, k1, k2⟩ := h
    refine fun p np => ?_
    have p0 : H0 p = none := none_of s0 np
    have nap : a ≠ p := ne_of_none ha np
    have nat : t ≠ a := ne_of ht ha (by intro z; cases z)
    have ntp : t ≠ p := ne_of_none ht np
    refine ⟨_, rfl, a, C, dx, [], rfl, (by rw [upd_ne nap]; exact ha), c, na, by decide, ?_⟩
    refine ⟨_, rfl, _, rfl, a, dx, t, p, ws, ds, H0, rfl, upd_same, (by rw [upd_ne nat, upd_ne ntp]; exact ht), (by rw [upd_ne nap.symm, upd_same]), a0, p0, same_updN (same_updN s0 p0) a0, hs, hl, hf, fun ks e1 e2 e3 H' s1 h1 h2 => k0 ks e1 e2 e3 p H' s1 h1 h2, fun n v e1 e2 => k1 n v e1 e2, fun n v e1 e2 => k2 n v e1 e2⟩
  intro A outer s H us vs Q E hr e0 r hsp
  obtain ⟨a, dx, ws, ds, H0, rfl, ha, a0, s0, hs, hl, hf, k0, k1, k2⟩ := hsp
  refine R A outer s H us _ Q E hr e0 r ⟨[.ref a], ws, rfl, rfl, Nat.le_trans hl (by decide), fun p np => ?_⟩
  have s1 := same_new (o := .tup ws) np
  exact ⟨a, p, dx, ws, ds, H0, rfl, upd_same, s1 _ _ ha, a0, s0.tr s1, hs, hl, hf, k0, k1, k2⟩
end
end Ky

set_option Elab.async false
set_option linter.all false
set_option maxRecDepth 100000
set_option maxHeartbeats 2000000
namespace Ky
open PySem PySem.Spec PyProof.Rows L2 StX
def BagAt (C : Addr) (H : Hp) (n : Addr) (ks : List Key) : Prop := ∃ dx p, H n = some (.ins C dx [("_entries", .ref p)]) ∧ H p = some (.dK (entD ks))
/-- a Bag is made of ws, or the error that is due comes -/
def MkBag (K : PySem.W.Frag) (C CK CT : Addr) (ws : List V) (ds : List PyData) (H : Hp) (Q : VK) (E : XK) : Prop :=
  SdAll K H ws ds ∧ ws.length ≤ 60 ∧ (∀ d ∈ ds, fits d) ∧ (∀ ks : List Key, due [] 0 ds = none → ds = allKeys ks → ks.Nodup → ∀ n H', Same H H' → H n = none → BagAt C H' n ks → Q (.ref n) H') ∧
  (∀ n v, due [] 0 ds = some (n, true) → ws[n]? = some v → Err CK "key" v H E) ∧ (∀ n v, due [] 0 ds = some (n, false) → ws[n]? = some v → Err CT "key" v H E)
theorem err_to {C : Addr} {f : Str} {v : V} {H H' : Hp} {E : XK} (s : Same H H') (h : Err C f v H E) : Err C f v H' E := fun dd H2 n s2 x => h dd H2 (none_of s n) (s.tr s2) x
theorem mkBag {K : PySem.W.Frag} {C CK CT : Addr} {ws : List V} {ds : List PyData} {H : Hp} {Q : VK} {E : XK} (m : MkBag K C CK CT ws ds H Q E) (n dx : Addr) (hn : H n = none) (hd : H dx = none) (ne : dx ≠ n) :
    spBagI K C CK CT (V.ref n :: ws) (upd (upd H dx (.own n)) n (.ins C dx [])) (fun v H2 => v = .non ∧ Q (.ref n) H2) E := by
  obtain ⟨m1, m2, m3, m4, m5, m6⟩ := m
  have s : Same H (upd (upd H dx (.own n)) n (.ins C dx [])) := fun b o e => by
    rw [upd_ne (ne_of_none e hn), upd_ne (ne_of_none e hd)]
    exact e
  exact ⟨n, dx, ws, ds, H, rfl, upd_same, hn, s, m1, m2, m3, fun ks e1 e2 e3 p H' h1 h2 h3 => ⟨rfl, m4 ks e1 e2 e3 n H' h1 hn ⟨dx, p, h2, h3⟩⟩, m5, m6⟩
/-- Bag.of -/
def spOf (K : PySem.W.Frag) (C CK CT : Addr) : Sp := fun vs H Q E => ∃ (v : V) (d : PyData), vs = [.ref C, v] ∧ Sd K H v d ∧ ((isD d "tuple" = false ∧ Err CK "key" v H E) ∨ ∃ t ws ds, v = .ref t ∧ d = .tuple ds ∧ SqT K H t ws ∧ MkBag K C CK CT ws ds H Q E)
section
variable {P : Program} {w : World} {K : PySem.W.Frag} {mg : Str → Option Value} {base : Heap} {C : Addr}
theorem scOf : FnScope ["cls", "members"] ["cls", "members"] (defScope sBagOf) := ⟨rfl, rfl, rfl, by decide +kernel, rfl, by decide +kernel, by decide +kernel⟩
theorem ok_of {f fi : Addr} {fd : FuncData} {CT : Addr} (F : FnM K "of" "Bag.of" sBagOf [] f fd) (N : Nm mg) (S : Es P w K mg base) (M : Mk K C fi) (FI : FnR P w K mg base (L2.CX P w) 5 fi (spBagI K C (gC K "InvalidKey") CT)) : FnOk P w K mg base (L2.CX P w) 7 f fd ["cls", "members"] (spOf K C (gC K "InvalidKey") CT) := by
  refine F.ok scOf (fun vs H Q E h => ?_) (fun cdv A outer s H vs Q E hr h => ?_)
  · obtain ⟨v, d, rfl, _⟩ := h
    rfl
  · refine ⟨_, pss_cons (ps_if (pt_not (pt_val (pe_callB call_isD (by rfl) N.isi (by decide +kernel) (pa_cons (pv 1) (pa_cons (pe_bltn (v := .ty "tuple") (by rfl) N.tuple (by decide +kernel) rfl) pa_nil))))) (pss_one (ps_x1 rfl (takes_of rfl rfl rfl rfl) S.key (hr.mono (by decide)) (by rfl) (pv 1))) pss_nil)
      (pss_one (ps_ret (pe_makeVS (i := 0) (E := E) M FI hr rfl (Or.inl rfl) (passes_call (takes_of rfl rfl rfl rfl) fun _ _ _ _ h => h) (pv 1)))), ?_⟩
    obtain ⟨v, d, rfl, hv, h⟩ := h
    refine ⟨_, rfl, v, d, "tuple", rfl, rfl, hv, _, rfl, ?_⟩
    rcases h with ⟨e, k⟩ | ⟨t, ws, ds, rfl, rfl, hq, m⟩
    · rw [e]
      exact iteT ⟨_, rfl, v, rfl, fun dd H' n s x => k dd H' n s x⟩
    · refine iteF ⟨rfl, _, rfl, t, ws, rfl, .inl hq, fun n dx hn hd ne => mkBag m n dx hn hd ne⟩
/-- the contents of a Bag: its members, ascending -/
def spMem (C : Addr) : Sp := fun vs H Q _ => ∃ (a dx p : Addr) (ks : List Key), vs = [.ref a] ∧ H a = some (.ins C dx [("_entries", .ref p)]) ∧ H p = some (.dK (entD ks)) ∧ KeysOk ks ∧ ∀ rs q H', Asc ks rs → Same H H' → H' q = some (.tup rs) → Q (.ref q) H'
theorem spMem_mono {C : Addr} {vs : List V} {H : Hp} {Q Q' : VK} {E : XK} (i : ∀ v H, Q v H → Q' v H) (h : spMem C vs H Q E) : spMem C vs H Q' E := by
  obtain ⟨a, dx, p, ks, e1, e2, e3, e4, k⟩ := h
  exact ⟨a, dx, p, ks, e1, e2, e3, e4, fun rs q H' z1 z2 z3 => i _ _ (k rs q H' z1 z2 z3)⟩
theorem scBagM : FnScope ["self"] ["self"] (defScope sBagM) := ⟨rfl, rfl, rfl, by decide +kernel, rfl, by decide +kernel, by decide +kernel⟩
theorem ok_bagM {f : Addr} {fd : FuncData} (c : Cls K C) (na : NoAttr K C "_entries") (F : FnM K "members" "Bag.members" sBagM [] f fd) (N : Nm mg) (T : Ts K mg) (asc : ∃ f fd, FnP K "ascending" sAsc f fd ∧ mg "ascending" = some (.ref f)) : FnOk P w K mg base CX0 3 f fd ["self"] (spMem C) := by
  obtain ⟨fa, da, FA, gA⟩ := asc
  have GA : FnOk P w K mg base CX0 2 fa da ["keys"] (spAsc K) := ok_asc FA N T
  have bA : Binds K da ["keys"] [] := FA.bindsN fun _ _ _ _ _ _ us hl => match us, hl with | [_], _ => rfl
  refine F.ok scBagM (fun vs H Q E h => ?_) (fun cdv A outer s H vs Q E hr h => ?_)
  · obtain ⟨a, dx, p, ks, rfl, _⟩ := h
    rfl
  · refine ⟨_, PSs.nox (pss_one (ps_ret (pe_call GA hr (by rfl) gA FA.kp bA .nil pass0 (pa_cons (pe_callTy (call_list_dK rfl) (by rfl) N.list (by decide +kernel) (pa_cons (pe_fld (pv 0) (by rfl)) pa_nil)) pa_nil)))), ?_⟩
    obtain ⟨a, dx, p, ks, rfl, ha, hp, hk, k⟩ := h
    refine ⟨_, rfl, a, C, dx, _, _, rfl, ha, c, na, rfl, p, _, rfl, hp, fun q nq => ?_⟩
    have e : ((entD ks).map fun kv => kV kv.1) = ks.map kV := by
      unfold entD
      rw [List.map_map]
      rfl
    rw [e]
    have s1 := same_new (o := .lst (ks.map kV)) nq
    exact ⟨q, ks, rfl, SqL.of upd_same, hk, fun rs r H' h1 h2 h3 => k rs r H' h1 (s1.tr h2) h3⟩
theorem scBagK : FnScope ["self"] ["self"] (defScope sBagK) := ⟨rfl, rfl, rfl, by decide +kernel, rfl, by decide +kernel, by decide +kernel⟩
theorem ok_bagK {f p g : Addr} {fd fdg : FuncData} (c : Cls K C) (hp : PropOf K C "members" p g) (F : FnM K "_contents" "Bag._contents" sBagK [] f fd) (FG : FnOk P w K mg base CX0 3 g fdg ["self"] (spMem C)) (bG : Binds K fdg ["self"] []) : FnOk P w K mg base CX0 5 f fd ["self"] (spMem C) := by
  refine F.ok scBagK (fun vs H Q E h => ?_) (fun cdv A outer s H vs Q E hr h => ?_)
  · obtain ⟨a, dx, p, ks, rfl, _⟩ := h
    rfl
  · refine ⟨_, PSs.nox (pss_one (ps_ret (pe_prop (pv 0) c hp FG hr bG .nil pass0 (by rfl)))), ?_⟩
    obtain ⟨a, dx, p, ks, rfl, ha, hq, hk, k⟩ := h
    exact ⟨_, rfl, a, dx, _, rfl, ha, a, dx, p, ks, rfl, ha, hq, hk, k⟩
end
end Ky

set_option Elab.async false
set_option linter.all false
set_option maxRecDepth 100000
set_option maxHeartbeats 4000000
namespace Ky
open PySem PySem.Spec PyProof.Rows L2
/-- the cells' list of the draws at p stands at l -/
def CellsAt (H : Hp) (p l : Addr) : Prop := ∃ a b c : Int, H p = some (.dK (drawKv l a b c))
/-- all that was tracked but p stands, and the cells' list is the same -/
structure Keep (p : Addr) (H H' : Hp) : Prop where
  old : L2.Keep p H H'
  cells : ∀ l, CellsAt H p l → CellsAt H' p l
instance {p : Addr} {H H' : Hp} : CoeFun (Keep p H H') (fun _ => ∀ c o, H c = some o → c ≠ p → H' c = some o) := ⟨Keep.old⟩
theorem Keep.refl {p : Addr} {H : Hp} : Keep p H H := ⟨L2.Keep.refl, fun _ h => h⟩
theorem Keep.trans {p : Addr} {H H1 H2 : Hp} (a : Keep p H H1) (b : Keep p H1 H2) : Keep p H H2 := ⟨a.old.trans b.old, fun l h => b.cells l (a.cells l h)⟩
theorem Keep.of {p : Addr} {H H' : Hp} (s : Same H H') : Keep p H H' := ⟨L2.Keep.of s, fun _ ⟨a, b, c, h⟩ => ⟨a, b, c, s _ _ h⟩⟩
theorem cells_one {H : Hp} {p l l' : Addr} (h : CellsAt H p l) (k : CellsAt H p l') : l = l' := by
  obtain ⟨a, b, c, h⟩ := h
  obtain ⟨a', b', c', k⟩ := k
  rw [h] at k
  have z := congrArg (fun o => match o with
    | some (HO.dK ((_, V.ref x) :: _)) => x
    | _ => 0) k
  exact z
theorem Keep.upd {p l : Addr} {x y z : Int} {H : Hp} (h : CellsAt H p l) : Keep p H (upd H p (.dK (drawKv l x y z))) := ⟨L2.Keep.upd, fun l' k => by
  cases cells_one h k
  exact ⟨x, y, z, upd_same⟩⟩
def spNext : Sp := fun vs H Q _ => ∃ (p : Addr) (b : Int) (N : Nat), vs = [.ref p, .int b] ∧ DrawAt H p N ∧ N < 1000000000 ∧ 0 < b ∧ b < 1073741824 ∧ ∀ (r : Int) (H' : Hp), 0 ≤ r → r < b → DrawAt H' p (N + 1) → Keep p H H' → Q (.int r) H'
abbrev sBegin : Stmt := top 24
abbrev sMixed : Stmt := top 25
abbrev sNext : Stmt := top 26
section
variable {P : Program} {w : World} {K : PySem.W.Frag} {mg : Str → Option Value} {base : Heap}
theorem scBegin : FnScope ["script"] ["script"] (defScope sBegin) := ⟨rfl, rfl, rfl, by decide +kernel, rfl, by decide +kernel, by decide +kernel⟩
theorem scMixed : FnScope ["cell", "k", "mixed"] ["cell", "k"] (defScope sMixed) := ⟨rfl, rfl, rfl, by decide +kernel, rfl, by decide +kernel, by decide +kernel⟩
theorem scNext : FnScope ["draw", "bound", "found", "cells", "cell"] ["draw", "bound"] (defScope sNext) := ⟨rfl, rfl, rfl, by decide +kernel, rfl, by decide +kernel, by decide +kernel⟩
theorem ok_begin {f : Addr} {fd : FuncData} (F : FnP K "_law_begin" sBegin f fd) : FnOk P w K mg base CX0 1 f fd ["script"] (spBegin K) := by
  refine F.ok scBegin (fun vs H Q E h => ?_) (fun cdv A outer s H vs Q E hr h => ⟨_, PSs.nox (pss_one (ps_ret (pe_disp (pps_cons pe_str (pe_op op_catS (pv 0) (pe_lst (pa_cons pe_int pa_nil)))
    (pps_cons pe_str pe_int (pps_cons pe_str pe_int (pps_cons pe_str pe_int pps_nil)))) (by rfl) (by rfl) (fun z => by cases z) (by decide)))), ?_⟩)
  · obtain ⟨a, ns, rfl, _⟩ := h
    rfl
  · obtain ⟨a, ns, rfl, hS, hl, k⟩ := h
    intro p hp
    refine ⟨_, rfl, (by show 1 ≤ sizeLine; decide), fun q hq => ?_⟩
    have npq : p ≠ q := fun z => by rw [z, upd_same] at hq; cases hq
    have hq' : H q = none := by rw [← hq, upd_ne npq.symm]
    have s1 : Same H (upd (upd H p (.dK [])) q (.lst [V.int 0])) := fun b o e => by
      rw [upd_ne (ne_of_none e hq'), upd_ne (ne_of_none e hp)]
      exact e
    refine ⟨a, q, ns.map V.int, [V.int 0], rfl, rfl, s1.seq hS, SqL.of upd_same, (by rw [List.length_map]; show ns.length + 1 ≤ sizeLine; exact Nat.le_trans (Nat.succ_le_succ hl) (by decide)), fun l hlz => ?_⟩
    have nl : l ≠ p := fun z => by rw [z, upd_ne npq, upd_same] at hlz; cases hlz
    have nlq : l ≠ q := fun z => by rw [z, upd_same] at hlz; cases hlz
    have hl' : H l = none := by rw [upd_ne nlq, upd_ne nl] at hlz; exact hlz
    refine ⟨(by rw [upd_ne nl.symm, upd_ne npq, upd_same]), [(kCells, .ref l), (kAt, .int 0), (kLeft, .int 0), (kUsed, .int 0)], rfl, (by show 4 ≤ 15; decide), ?_⟩
    have em : mergeK [] [(kCells, V.ref l), (kAt, .int 0), (kLeft, .int 0), (kUsed, .int 0)] = drawKv l 0 0 0 := by kernel_rfl
    rw [em]
    refine k p _ hp (fun b o e => ?_) ⟨l, ns ++ [0], 0, 0, 0, upd_same, ?_, ?_, ?_, by decide, by decide, by decide, by decide, by decide⟩
    · rw [upd_ne (ne_of_none e hp), upd_ne (ne_of_none e hl')]
      exact s1 b o e
    · rw [upd_ne nl, upd_same, List.map_append]
      rfl
    · rw [List.length_append]
      exact Nat.succ_pos _
    · rw [List.length_append]
      exact Nat.succ_le_succ hl
theorem mix_lo (x : Int) : 0 ≤ x % 2147483647 / 7 := by omega
theorem mix_hi (x : Int) : x % 2147483647 / 7 < 2147483648 := by omega
theorem ok_mixed {f : Addr} {fd : FuncData} (F : FnP K "_law_mixed" sMixed f fd) : FnOk P w K mg base CX0 1 f fd ["cell", "k"] spMixed := by
  refine F.ok scMixed (fun vs H Q E h => ?_) (fun cdv A outer s H vs Q E hr h => ⟨_, PSs.nox (pss_cons (ps_set (i := 2) scMixed.nd rfl (Or.inl rfl)
      (pe_op op_mod (pe_op op_add (pe_op op_add (pe_op op_add (pe_op op_mod (pv 0) pe_int) (pe_op op_mul (pe_op op_mul pe_int (pv 1)) (pv 1))) (pe_op op_mul pe_int (pv 1))) pe_int) pe_int))
    (pss_cons (ps_set (i := 2) scMixed.nd rfl (Or.inl rfl) (pe_op op_mod (pe_op op_mul (pe_op op_mod (pe_op op_mul (pv 2) (pv 2)) pe_int) (pv 2)) pe_int))
    (pss_one (ps_ret (pe_op op_fdiv (pe_op op_mod (pe_op op_mul (pv 2) (pe_op op_add pe_int (pe_op op_mul pe_int (pe_op op_mod (pv 1) pe_int)))) pe_int) pe_int))))), ?_⟩)
  · obtain ⟨c, k, rfl, _⟩ := h
    rfl
  · obtain ⟨c, k, rfl, k0, k1, kq⟩ := h
    refine ⟨_, rfl, _, _, rfl, rfl, (by show (0 : Int) < 1000000007; decide), _, rfl, _, _, rfl, rfl, .inl ⟨by decide, by decide⟩, _, rfl, _, _, rfl, rfl, .inl ⟨by omega, by omega⟩, _, _, rfl, rfl, _, rfl, _, _, rfl, rfl, .inl ⟨by decide, by decide⟩, _, _, rfl, rfl,
      _, _, rfl, rfl, _, _, rfl, rfl, (by show (0 : Int) < 2147483647; decide), ?_⟩
    refine ⟨_, rfl, _, rfl, _, _, rfl, rfl, .inl ⟨by omega, by omega⟩, _, _, rfl, rfl, (by show (0 : Int) < 2147483647; decide), _, rfl, _, _, rfl, rfl, .inl ⟨by omega, by omega⟩, _, _, rfl, rfl, (by show (0 : Int) < 2147483629; decide), ?_⟩
    refine ⟨_, rfl, _, rfl, _, _, rfl, rfl, (by show (0 : Int) < 1000; decide), _, _, rfl, rfl, .inl ⟨by decide, by decide⟩, _, _, rfl, rfl, _, _, rfl, rfl, .inl ⟨by omega, by omega⟩, _, _, rfl, rfl, (by show (0 : Int) < 2147483647; decide), _, _, rfl, rfl, ⟨by decide, by decide⟩, ?_⟩
    exact kq _ (mix_lo _) (mix_hi _)
theorem ok_next {f fm : Addr} {fd fdm : FuncData} (F : FnP K "_law_next" sNext f fd) (FM : FnP K "_law_mixed" sMixed fm fdm) (gM : mg "_law_mixed" = some (.ref fm)) (gL : mg "len" = none) : FnOk P w K mg base CX0 2 f fd ["draw", "bound"] spNext := by
  have GM : FnOk P w K mg base CX0 1 fm fdm ["cell", "k"] spMixed := ok_mixed FM
  have bM : Binds K fdm ["cell", "k"] [] := FM.bindsN fun _ _ _ _ _ _ us hl => match us, hl with | [_, _], _ => rfl
  refine F.ok scNext (fun vs H Q E h => ?_) (fun cdv A outer s H vs Q E hr h => ?_)
  · obtain ⟨p, b, N, rfl, _⟩ := h
    rfl
  · have hu := hu_of hr
    refine ⟨_, PSs.nox (pss_cons (ps_if (pt_cmpR op_gt (pe_dget hu (pv 0) pe_str (fun _ _ => rfl)) pe_int (nomark _))
        (pss_cons (ps_set (i := 2) scNext.nd rfl (Or.inl rfl) (pe_op op_mod (pe_dget hu (pv 0) pe_str (fun _ _ => rfl)) (pv 1)))
        (pss_cons (ps_dput hu (pv 0) pe_str (pe_op op_fdiv (pe_dget hu (pv 0) pe_str (fun _ _ => rfl)) (pv 1)) rfl)
        (pss_one (ps_ret (pv 2))))) pss_nil)
      (pss_cons (ps_set (i := 3) scNext.nd rfl (Or.inl rfl) (pe_dget hu (pv 0) pe_str (fun _ _ => rfl)))
      (pss_cons (ps_set (i := 4) scNext.nd rfl (Or.inl rfl) (pe_ix ix_list (pv 3) (pe_op op_mod (pe_dget hu (pv 0) pe_str (fun _ _ => rfl)) (pe_callB call_len (by rfl) gL PySem.boot_len (pa_cons (pv 3) pa_nil))) (fun _ _ => rfl)))
      (pss_cons (ps_dput hu (pv 0) pe_str (pe_op op_add (pe_dget hu (pv 0) pe_str (fun _ _ => rfl)) pe_int) rfl)
      (pss_cons (ps_if (PW.pt (pw_and (pt_cmpR op_ge (pv 4) (pe_op op_pow pe_int pe_int) (nomark _)) (pw_and1 (pt_cmpR op_le (pe_dget hu (pv 0) pe_str (fun _ _ => rfl)) (pe_callB call_len (by rfl) gL PySem.boot_len (pa_cons (pv 3) pa_nil)) (nomark _)))))
        (pss_cons (ps_dput hu (pv 0) pe_str (pe_op op_fdiv (pv 4) (pv 1)) rfl) (pss_one (ps_ret (pe_op op_mod (pv 4) (pv 1))))) pss_nil)
      (pss_cons (ps_dput hu (pv 0) pe_str (pe_op op_add (pe_dget hu (pv 0) pe_str (fun _ _ => rfl)) pe_int) rfl)
      (pss_one (ps_ret (pe_op op_mod (pe_call GM hr (by rfl) gM FM.kp bM .nil pass0 (pa_cons (pe_call GM hr (by rfl) gM FM.kp bM .nil pass0 (pa_cons (pv 4) (pa_cons (pe_dget hu (pv 0) pe_str (fun _ _ => rfl)) pa_nil))) (pa_cons (pe_dget hu (pv 0) pe_str (fun _ _ => rfl)) pa_nil))) (pv 1)))))))))), ?_⟩
    obtain ⟨p, b, N, rfl, D, hN, b0, b1, k⟩ := h
    obtain ⟨l, cs, a, lf, us, hp, hl, l0, l1, a0, a1, f0, u0, u1⟩ := D
    have npl : l ≠ p := ne_of hl hp (by intro z; cases z)
    have hl' : ∀ o, (upd H p o) l = some (.lst (cs.map V.int)) := fun o => by rw [upd_ne npl]; exact hl
    -- if draw['left'] > 0
    refine ⟨_, rfl, p, _, rfl, (by rw [← dk_left]; exact DGet.k (k := kLeft) hp), _, _, rfl, rfl, _, rfl, ?_⟩
    have hz4 : ∀ x y z, (drawKv l x y z).length < sizeLine := fun x y z => by show 4 < sizeLine; decide
    refine ite2 (fun c => ?_) (fun c => ?_)
    · -- found = draw['left'] % bound; draw['left'] = draw['left'] // bound; return found
      have c' : 0 < lf := of_decide_eq_true c
      refine ⟨_, rfl, p, _, rfl, (by rw [← dk_left]; exact DGet.k (k := kLeft) hp), _, rfl, _, _, rfl, rfl, b0, ?_⟩
      refine ⟨_, rfl, p, _, rfl, (by rw [← dk_left]; exact DGet.k (k := kLeft) hp), _, rfl, _, _, rfl, rfl, ⟨b0, b1⟩, _, rfl, p, _, rfl, DPut.k (k := kLeft) hp (hz4 _ _ _), ?_⟩
      rw [dp_left]
      refine ⟨_, rfl, k _ _ (Int.emod_nonneg _ (by omega)) (Int.emod_lt_of_pos _ b0) ⟨l, cs, a, lf / b, us, upd_same, hl' _, l0, l1, a0, by omega, Int.ediv_nonneg (by omega) (by omega), u0, by omega⟩ (Keep.upd ⟨_, _, _, hp⟩)⟩
    · -- cells = draw['cells']; cell = cells[draw['at'] % len(cells)]
      refine ⟨_, rfl, p, _, rfl, (by rw [← dk_cells]; exact DGet.k (k := kCells) hp), ?_⟩
      have ix0 : 0 ≤ a % (cs.length : Int) := Int.emod_nonneg _ (by omega)
      have ix1 : a % (cs.length : Int) < (cs.length : Int) := Int.emod_lt_of_pos _ (by omega)
      have hlt : (a % (cs.length : Int)).toNat < cs.length := by omega
      obtain ⟨z, hz⟩ : ∃ z, cs[(a % (cs.length : Int)).toNat]? = some z := ⟨_, List.getElem?_eq_getElem hlt⟩
      refine ⟨_, rfl, _, rfl, p, _, rfl, (by rw [← dk_at]; exact DGet.k (k := kAt) hp), _, rfl, _, (cs.map V.int).length, rfl, .inl ⟨_, SqL.of hl, rfl⟩, _, _, rfl, rfl, (by rw [List.length_map]; omega), ?_⟩
      refine ⟨l, _, _, V.int z, rfl, rfl, SqL.of hl, at_of (j := (a % (cs.length : Int)).toNat) (by rw [List.length_map]; omega) (by rw [List.getElem?_map, hz]; rfl), ?_⟩
      -- draw['at'] = draw['at'] + 1
      refine ⟨_, rfl, p, _, rfl, (by rw [← dk_at]; exact DGet.k (k := kAt) hp), _, _, rfl, rfl, _, rfl, p, _, rfl, DPut.k (k := kAt) hp (hz4 _ _ _), ?_⟩
      rw [dp_at]
      have hp1 := (upd_same (H := H) (a := p) (o := .dK (drawKv l (a + 1) lf us)))
      -- the test
      refine ⟨_, rfl, _, _, rfl, rfl, ⟨by decide, by decide, by decide⟩, _, _, rfl, rfl, _, rfl, ?_⟩
      have last : ∀ H1 : Hp, H1 p = some (.dK (drawKv l (a + 1) lf us)) → H1 l = some (.lst (cs.map V.int)) → Keep p H H1 → True := fun _ _ _ _ => True.intro
      refine ite2 (fun c1 => ?_) (fun c1 => ?_)
      · refine ⟨_, rfl, p, _, rfl, (by rw [← dk_at]; exact DGet.k (k := kAt) hp1), _, rfl, _, (cs.map V.int).length, rfl, .inl ⟨_, SqL.of (hl' _), rfl⟩, _, _, rfl, rfl, _, rfl, ?_⟩
        refine ite2 (fun c2 => ?_) (fun c2 => ?_)
        · have z0 : (1000000000000000000 : Int) ≤ z := of_decide_eq_true c1
          refine ⟨_, rfl, _, rfl, _, _, rfl, rfl, ⟨b0, b1⟩, _, rfl, p, _, rfl, DPut.k (k := kLeft) hp1 (hz4 _ _ _), ?_⟩
          rw [dp_left]
          refine ⟨_, rfl, _, rfl, _, _, rfl, rfl, b0, ?_⟩
          exact k _ _ (Int.emod_nonneg _ (by omega)) (Int.emod_lt_of_pos _ b0) ⟨l, cs, a + 1, z / b, us, upd_same, by rw [upd_ne npl]; exact hl' _, l0, l1, by omega, by omega, Int.ediv_nonneg (by omega) (by omega), u0, by omega⟩ ((Keep.upd ⟨_, _, _, hp⟩).trans (Keep.upd ⟨_, _, _, upd_same⟩))
        · refine ⟨_, rfl, p, _, rfl, (by rw [← dk_used]; exact DGet.k (k := kUsed) hp1), _, _, rfl, rfl, _, rfl, p, _, rfl, DPut.k (k := kUsed) hp1 (hz4 _ _ _), ?_⟩
          rw [dp_used]
          have hp2 := (upd_same (H := upd H p (.dK (drawKv l (a + 1) lf us))) (a := p) (o := .dK (drawKv l (a + 1) lf (us + 1))))
          refine ⟨_, rfl, _, rfl, p, _, rfl, (by rw [← dk_at]; exact DGet.k (k := kAt) hp2), _, _, rfl, by omega, by omega, fun r1 _ _ => ?_⟩
          refine ⟨_, rfl, p, _, rfl, (by rw [← dk_used]; exact DGet.k (k := kUsed) hp2), _, _, rfl, by omega, by omega, fun r2 _ _ => ?_⟩
          refine ⟨_, rfl, _, _, rfl, rfl, b0, ?_⟩
          exact k _ _ (Int.emod_nonneg _ (by omega)) (Int.emod_lt_of_pos _ b0) ⟨l, cs, a + 1, lf, us + 1, hp2, by rw [upd_ne npl]; exact hl' _, l0, l1, by omega, by omega, f0, by omega, by omega⟩ ((Keep.upd ⟨_, _, _, hp⟩).trans (Keep.upd ⟨_, _, _, upd_same⟩))
      · refine iteF ?_
        refine ⟨_, rfl, p, _, rfl, (by rw [← dk_used]; exact DGet.k (k := kUsed) hp1), _, _, rfl, rfl, _, rfl, p, _, rfl, DPut.k (k := kUsed) hp1 (hz4 _ _ _), ?_⟩
        rw [dp_used]
        have hp2 := (upd_same (H := upd H p (.dK (drawKv l (a + 1) lf us))) (a := p) (o := .dK (drawKv l (a + 1) lf (us + 1))))
        refine ⟨_, rfl, _, rfl, p, _, rfl, (by rw [← dk_at]; exact DGet.k (k := kAt) hp2), _, _, rfl, by omega, by omega, fun r1 _ _ => ?_⟩
        refine ⟨_, rfl, p, _, rfl, (by rw [← dk_used]; exact DGet.k (k := kUsed) hp2), _, _, rfl, by omega, by omega, fun r2 _ _ => ?_⟩
        refine ⟨_, rfl, _, _, rfl, rfl, b0, ?_⟩
        exact k _ _ (Int.emod_nonneg _ (by omega)) (Int.emod_lt_of_pos _ b0) ⟨l, cs, a + 1, lf, us + 1, hp2, by rw [upd_ne npl]; exact hl' _, l0, l1, by omega, by omega, f0, by omega, by omega⟩ ((Keep.upd ⟨_, _, _, hp⟩).trans (Keep.upd ⟨_, _, _, upd_same⟩))
end
end Ky

set_option Elab.async false
set_option linter.all false
set_option maxRecDepth 100000
set_option maxHeartbeats 2000000
namespace Ky
open PySem PySem.Spec PyProof.Rows L2 StX
abbrev sAtom : Stmt := top 27
theorem scAtom : FnScope ["draw", "great", "some"] ["draw"] (defScope sAtom) := ⟨rfl, rfl, rfl, by decide +kernel, rfl, by decide +kernel, by decide +kernel⟩
/-- a text of real signs -/
def lowS (x : Str) : Bool := x.cps.toList.all fun c => decide (c < 16 ^ 8)
/-- an atom -/
inductive At : V → PyData → Prop
  | non : At .non .none
  | bl (b : Bool) : At (.bl b) (.bool b)
  | int (i : Int) : -big < i → i < big → At (.int i) (.int i)
  | str (x : Str) : x.length ≤ 2000 → lowS x = true → At (.str x) (.str x)
def spAtom : Sp := fun vs H Q _ => ∃ (p : Addr) (N : Nat), vs = [.ref p] ∧ DrawAt H p N ∧ N < 100000 ∧ ∀ v d H', At v d → DrawAt H' p (N + 4) → Keep p H H' → Q v H'
/-- the defs that draw -/
structure Dr (K : PySem.W.Frag) (mg : Str → Option Value) : Prop where
  begin_ : ∃ f fd, FnP K "_law_begin" sBegin f fd ∧ mg "_law_begin" = some (.ref f)
  mixed : ∃ f fd, FnP K "_law_mixed" sMixed f fd ∧ mg "_law_mixed" = some (.ref f)
  next : ∃ f fd, FnP K "_law_next" sNext f fd ∧ mg "_law_next" = some (.ref f)
theorem low_app {x y : Str} (h : lowS x = true) (k : lowS y = true) : lowS (x ++ y) = true := by
  show (x.cps ++ y.cps).toList.all _ = true
  rw [Array.toList_append, List.all_append]
  have a : (x.cps.toList.all fun c => decide (c < 16 ^ 8)) = true := h
  have b : (y.cps.toList.all fun c => decide (c < 16 ^ 8)) = true := k
  rw [a, b]
  rfl
theorem low_repA (a : Array Nat) (h : (a.toList.all fun c => decide (c < 16 ^ 8)) = true) : ∀ (n : Nat) (b : Array Nat), (b.toList.all fun c => decide (c < 16 ^ 8)) = true → (((List.replicate n a).foldl (· ++ ·) b).toList.all fun c => decide (c < 16 ^ 8)) = true
  | 0, b, k => k
  | n + 1, b, k => by
    rw [List.replicate_succ, List.foldl_cons]
    refine low_repA a h n _ ?_
    rw [Array.toList_append, List.all_append, k, h]
    rfl
theorem low_rep (n : Nat) : lowS ⟨(List.replicate n ("x" : Str).cps).foldl (· ++ ·) #[]⟩ = true := low_repA _ (by decide +kernel) n #[] rfl
theorem low_key {r : Int} (h : 0 ≤ r) (k : r < 12) : lowS ("key" ++ (toString r : Str)) = true := by
  refine low_app (by decide +kernel) ?_
  obtain ⟨j, rfl⟩ := Int.eq_ofNat_of_zero_le h
  have hj : j < 12 := by omega
  match j, hj with
  | 0, _ => decide +kernel
  | 1, _ => decide +kernel
  | 2, _ => decide +kernel
  | 3, _ => decide +kernel
  | 4, _ => decide +kernel
  | 5, _ => decide +kernel
  | 6, _ => decide +kernel
  | 7, _ => decide +kernel
  | 8, _ => decide +kernel
  | 9, _ => decide +kernel
  | 10, _ => decide +kernel
  | 11, _ => decide +kernel
theorem sz (n : Nat) (h : n ≤ 1000) : n ≤ sizeLine := Nat.le_trans h (by decide)
section
variable {P : Program} {w : World} {K : PySem.W.Frag} {mg : Str → Option Value} {base : Heap}
theorem ok_atom {f : Addr} {fd : FuncData} (F : FnP K "_law_atom" sAtom f fd) (N : Nm mg) (D : Dr K mg) : FnOk P w K mg base CX0 3 f fd ["draw"] spAtom := by
  obtain ⟨fX, dX, FX, gX⟩ := D.next
  obtain ⟨fM, dM, FM, gM⟩ := D.mixed
  have GX : FnOk P w K mg base CX0 2 fX dX ["draw", "bound"] spNext := ok_next FX FM gM N.len
  have bX : Binds K dX ["draw", "bound"] [] := FX.bindsN fun _ _ _ _ _ _ us hl => match us, hl with | [_, _], _ => rfl
  refine F.ok scAtom (fun vs H Q E h => ?_) (fun cdv A outer s H vs Q E hr h => ?_)
  · obtain ⟨p, N, rfl, _⟩ := h
    rfl
  · refine ⟨_, PSs.nox (pss_cons (ps_set (i := 1) scAtom.nd rfl (Or.inl rfl) (pe_op op_sub (pe_op op_powW (pe_op op_pow pe_int pe_int) pe_int) pe_int))
      (pss_cons (ps_set (i := 2) scAtom.nd rfl (Or.inl rfl) (pe_lst (pa_cons pe_non (pa_cons pe_bl (pa_cons pe_bl (pa_cons (pe_op op_sub (pe_call GX hr (by rfl) gX FX.kp bX .nil pass0 (pa_cons (pv 0) (pa_cons pe_int pa_nil))) pe_int) (pa_cons (pv 1) (pa_cons (pe_op op_sub pe_int (pv 1))
          (pa_cons (pe_op op_add (pe_op op_pow pe_int pe_int) (pe_call GX hr (by rfl) gX FX.kp bX .nil pass0 (pa_cons (pv 0) (pa_cons pe_int pa_nil)))) pa_nil)))))))))
      (pss_cons (ps_set (i := 2) scAtom.nd rfl (Or.inl rfl) (pe_op op_catS (pv 2) (pe_lst (pa_cons pe_str (pa_cons pe_str (pa_cons pe_str (pa_cons pe_str (pa_cons pe_str (pa_cons (pe_op op_mulS pe_str pe_int) (pa_cons (pe_op op_add_str pe_str (pe_callTy call_str_int (by rfl) N.str (by decide +kernel) (pa_cons (pe_call GX hr (by rfl) gX FX.kp bX .nil pass0 (pa_cons (pv 0) (pa_cons pe_int pa_nil))) pa_nil)))
          (pa_cons pe_int (pa_cons pe_int pa_nil))))))))))))
      (pss_one (ps_ret (pe_ix ix_list (pv 2) (pe_call GX hr (by rfl) gX FX.kp bX .nil pass0 (pa_cons (pv 0) (pa_cons pe_int pa_nil))) (fun _ _ => rfl))))))), ?_⟩
    obtain ⟨p, n, rfl, D0, hn, k⟩ := h
    refine ⟨_, _, rfl, rfl, ⟨by decide, by decide, by decide⟩, _, _, rfl, rfl, ⟨by decide, by decide +kernel⟩, _, _, rfl, rfl, ?_⟩
    have eg : (10 ^ (60 : Int).toNat : Int) ^ (5 : Int).toNat - 1 = big - 1 := by decide +kernel
    refine ⟨_, rfl, p, 600, n, rfl, D0, by omega, by decide, by decide, fun r1 H1 a1 b1 D1 k1 => ?_⟩
    refine ⟨_, _, rfl, rfl, _, rfl, _, rfl, _, _, rfl, rfl, _, _, rfl, rfl, ⟨by decide, by decide, by decide⟩, _, rfl, p, 9, n + 1, rfl, D1, by omega, by decide, by decide, fun r2 H2 a2 b2 D2 k2 => ?_⟩
    refine ⟨_, _, rfl, rfl, sz 7 (by decide), fun l1 n1 => ?_⟩
    have s3 := same_new (o := .lst [.non, .bl true, .bl false, .int (r1 - 300), .int ((10 ^ (60 : Int).toNat : Int) ^ (5 : Int).toNat - 1), .int (0 - ((10 ^ (60 : Int).toNat : Int) ^ (5 : Int).toNat - 1)), .int (10 ^ (40 : Int).toNat + r2)]) n1
    refine ⟨_, rfl, _, 2000, rfl, rfl, by decide, by decide +kernel, by decide +kernel, _, rfl, p, 12, n + 2, rfl, D2.same s3, by omega, by decide, by decide, fun r3 H3 a3 b3 D3 k3 => ?_⟩
    have lg : r3.natAbs.log2 < 1920 := Nat.lt_of_le_of_lt (Nat.log2_le_self _) (by omega)
    have tl : ((toString r3 : Str)).length ≤ 1921 := int_text_len_1921 lg
    refine ⟨r3, rfl, lg, _, _, rfl, rfl, Nat.le_trans (Nat.add_le_add_left tl _) (by decide +kernel), sz 9 (by decide), fun l2 n2 => ?_⟩
    have nl1 : l1 ≠ p := (D2.same s3).ne upd_same fun kvs z => by cases z
    have h3 := k3 l1 _ upd_same nl1
    have s4 := same_new (o := .lst [.str "", .str "a", .str "salt", .str "two\nlines", .str "q\"\\", .str ⟨(List.replicate 2000 ("x" : Str).cps).foldl (· ++ ·) #[]⟩, .str ("key" ++ (toString r3 : Str)), .int 0, .int 1]) n2
    refine ⟨l1, l2, _, _, rfl, rfl, SqL.of (s4 _ _ h3), SqL.of upd_same, sz 16 (by decide), fun l3 n3 => ?_⟩
    have s5 := same_new (o := .lst ([.non, .bl true, .bl false, .int (r1 - 300), .int ((10 ^ (60 : Int).toNat : Int) ^ (5 : Int).toNat - 1), .int (0 - ((10 ^ (60 : Int).toNat : Int) ^ (5 : Int).toNat - 1)), .int (10 ^ (40 : Int).toNat + r2)] ++ [.str "", .str "a", .str "salt", .str "two\nlines", .str "q\"\\", .str ⟨(List.replicate 2000 ("x" : Str).cps).foldl (· ++ ·) #[]⟩, .str ("key" ++ (toString r3 : Str)), .int 0, .int 1])) n3
    have D5 := (D3.same s4).same s5
    refine ⟨_, rfl, _, rfl, p, 16, n + 3, rfl, D5, by omega, by decide, by decide, fun r4 H4 a4 b4 D4 k4 => ?_⟩
    have nl3 : l3 ≠ p := D5.ne upd_same fun kvs z => by cases z
    have h5 := k4 l3 _ upd_same nl3
    have kp : Keep p H H4 := k1.trans (k2.trans ((Keep.of s3).trans (k3.trans ((Keep.of s4).trans ((Keep.of s5).trans k4)))))
    obtain ⟨j, rfl⟩ := Int.eq_ofNat_of_zero_le a4
    have hj : j < 16 := by omega
    rw [eg] at h5
    have key : ∃ v d, ([.non, .bl true, .bl false, .int (r1 - 300), .int (big - 1), .int (0 - (big - 1)), .int (10 ^ (40 : Int).toNat + r2)] ++ [.str "", .str "a", .str "salt", .str "two\nlines", .str "q\"\\", .str ⟨(List.replicate 2000 ("x" : Str).cps).foldl (· ++ ·) #[]⟩, .str ("key" ++ (toString r3 : Str)), .int 0, .int 1] : List V)[j]? = some v ∧ At v d := by
      have c1 : (1000 : Int) < big := by decide +kernel
      have c2 : (10 ^ (40 : Int).toNat : Int) + 1000 < big := by decide +kernel
      have c3 : (0 : Int) ≤ 10 ^ (40 : Int).toNat := by decide +kernel
      match j, hj with
      | 0, _ => exact ⟨_, _, rfl, .non⟩
      | 1, _ => exact ⟨_, _, rfl, .bl _⟩
      | 2, _ => exact ⟨_, _, rfl, .bl _⟩
      | 3, _ => exact ⟨_, _, rfl, .int _ (by omega) (by omega)⟩
      | 4, _ => exact ⟨_, _, rfl, .int _ (by omega) (by omega)⟩
      | 5, _ => exact ⟨_, _, rfl, .int _ (by omega) (by omega)⟩
      | 6, _ => exact ⟨_, _, rfl, .int _ (by omega) (by omega)⟩
      | 7, _ => exact ⟨_, _, rfl, .str _ (by decide) (by decide +kernel)⟩
      | 8, _ => exact ⟨_, _, rfl, .str _ (by decide) (by decide +kernel)⟩
      | 9, _ => exact ⟨_, _, rfl, .str _ (by decide) (by decide +kernel)⟩
      | 10, _ => exact ⟨_, _, rfl, .str _ (by decide) (by decide +kernel)⟩
      | 11, _ => exact ⟨_, _, rfl, .str _ (by decide) (by decide +kernel)⟩
      | 12, _ => exact ⟨_, _, rfl, .str _ (by show Array.size _ ≤ 2000; rw [size_rep]; decide) (low_rep 2000)⟩
      | 13, _ => exact ⟨_, _, rfl, .str _ (by rw [strLen_append]; exact Nat.le_trans (Nat.add_le_add_left tl _) (by decide)) (low_key a3 b3)⟩
      | 14, _ => exact ⟨_, _, rfl, .int _ (by omega) (by omega)⟩
      | 15, _ => exact ⟨_, _, rfl, .int _ (by omega) (by omega)⟩
    obtain ⟨v, d, hv, ha⟩ := key
    exact ⟨l3, _, _, v, rfl, rfl, SqL.of h5, at_of rfl hv, k v d H4 ha D4 kp⟩
end
end Ky

set_option Elab.async false
set_option linter.all false
set_option maxRecDepth 100000
set_option maxHeartbeats 2000000
namespace Ky
open PySem PySem.Spec PyProof.Rows L2 StX
abbrev sLOct : Stmt := top 29
abbrev sLKey : Stmt := top 31
theorem scLOct : FnScope ["what", "one"] ["what"] (defScope sLOct) := ⟨rfl, rfl, rfl, by decide +kernel, rfl, by decide +kernel, by decide +kernel⟩
theorem scLKey : FnScope ["what"] ["what"] (defScope sLKey) := ⟨rfl, rfl, rfl, by decide +kernel, rfl, by decide +kernel, by decide +kernel⟩
section
variable {P : Program} {w : World} {K : PySem.W.Frag} {mg : Str → Option Value} {base : Heap}
theorem big_eq : (10 ^ (60 : Int).toNat : Int) ^ (5 : Int).toNat = big := by decide +kernel
theorem ok_lkey {f : Addr} {fd : FuncData} (F : FnP K "_law_is_key" sLKey f fd) (N : Nm mg) : FnOk P w K mg base CX0 1 f fd ["what"] (spTest K isK) := by
  refine F.ok scLKey (fun vs H Q E h => ?_) (fun cdv A outer s H vs Q E hr h => ?_)
  · obtain ⟨v, d, rfl, _⟩ := h
    rfl
  · refine ⟨_, PSs.nox (pss_cons (ps_if (pt_val (pe_callB call_isD (by rfl) N.isi (by decide +kernel) (pa_cons (pv 0) (pa_cons (pe_bltn (v := .ty "str") (by rfl) N.str (by decide +kernel) rfl) pa_nil)))) (pss_one (ps_ret (pe_cmpR op_le (pe_callB call_len (by rfl) N.len PySem.boot_len (pa_cons (pv 0) pa_nil)) pe_int (nomark _)))) pss_nil)
      (pss_cons (ps_if (PW.pt (pw_or (pt_not (pt_val (pe_callB call_isD (by rfl) N.isi (by decide +kernel) (pa_cons (pv 0) (pa_cons (pe_bltn (v := .ty "int") (by rfl) N.int (by decide +kernel) rfl) pa_nil)))))
          (pw_or1 (pt_val (pe_callB call_isD (by rfl) N.isi (by decide +kernel) (pa_cons (pv 0) (pa_cons (pe_bltn (v := .ty "bool") (by rfl) N.bool (by decide +kernel) rfl) pa_nil))))))) (pss_one (ps_ret pe_bl)) pss_nil)
      (pss_one (ps_ret (pe_chain op_lt op_lt (pe_op op_sub pe_int (pe_op op_powW (pe_op op_pow pe_int pe_int) pe_int)) (pv 0) (pe_op op_powW (pe_op op_pow pe_int pe_int) pe_int)))))), ?_⟩
    obtain ⟨v, d, rfl, hv, hf, k⟩ := h
    refine ⟨_, rfl, v, d, "str", rfl, rfl, hv, _, rfl, ?_⟩
    cases d with
    | str x =>
      cases hv
      refine iteT ⟨_, rfl, _, x.length, rfl, ⟨hf x rfl, rfl⟩, _, _, rfl, rfl, ?_⟩
      have e : decide ((x.length : Int) ≤ 2000) = isK (.str x) := by
        show _ = decide (x.length ≤ 2000)
        rw [Bool.eq_iff_iff, decide_eq_true_iff, decide_eq_true_iff]
        omega
      rw [← e] at k
      exact k
    | int i =>
      refine iteF ⟨_, rfl, v, _, "int", rfl, rfl, hv, _, rfl, iteF ⟨_, rfl, v, _, "bool", rfl, rfl, hv, _, rfl, iteF ?_⟩⟩
      cases hv
      refine ⟨_, _, rfl, rfl, ⟨by decide, by decide, by decide⟩, _, _, rfl, rfl, ⟨by decide, by decide +kernel⟩, _, _, rfl, rfl, ?_⟩
      refine ⟨_, rfl, _, _, rfl, rfl, _, rfl, ?_⟩
      dsimp only
      rw [big_eq]
      have e0 : (0 : Int) - big = -big := by omega
      rw [e0]
      by_cases c : -big < i
      · rw [decide_eq_true c]
        refine iteT ⟨_, _, rfl, rfl, ⟨by decide, by decide, by decide⟩, _, _, rfl, rfl, ⟨by decide, by decide +kernel⟩, _, _, rfl, rfl, ?_⟩
        dsimp only
        rw [big_eq]
        have e : isK (.int i) = decide (i < big) := by
          show (decide (-big < i) && decide (i < big)) = _
          rw [decide_eq_true c, Bool.true_and]
        rw [e] at k
        exact k
      · rw [decide_eq_false c]
        refine iteF ?_
        have e : isK (.int i) = false := by
          show (decide (-big < i) && decide (i < big)) = _
          rw [decide_eq_false c, Bool.false_and]
        rw [e] at k
        exact k
    | bool b => exact iteF ⟨_, rfl, v, _, "int", rfl, rfl, hv, _, rfl, iteF ⟨_, rfl, v, _, "bool", rfl, rfl, hv, _, rfl, iteT k⟩⟩
    | none => exact iteF ⟨_, rfl, v, _, "int", rfl, rfl, hv, _, rfl, iteT (iteT k)⟩
    | list _ => exact iteF ⟨_, rfl, v, _, "int", rfl, rfl, hv, _, rfl, iteT (iteT k)⟩
    | tuple _ => exact iteF ⟨_, rfl, v, _, "int", rfl, rfl, hv, _, rfl, iteT (iteT k)⟩
    | dict _ => exact iteF ⟨_, rfl, v, _, "int", rfl, rfl, hv, _, rfl, iteT (iteT k)⟩
theorem not_nums {ds : List PyData} {i : Nat} {e : PyData} (he : ds[i]? = some e) (h : isOct e = false) : isNums (.tuple ds) = false := by
  show (decide (ds.length ≤ 2000) && ds.all isOct) = false
  have q : ds.all isOct = false := by
    rw [Bool.eq_false_iff]
    intro z
    rw [List.all_eq_true.mp z e (List.mem_of_getElem? he)] at h
    cases h
  rw [q, Bool.and_false]
theorem ok_loct {f : Addr} {fd : FuncData} (F : FnP K "_law_is_octets" sLOct f fd) (N : Nm mg) : FnOk P w K mg base CX0 1 f fd ["what"] (spNums K) := by
  refine F.ok scLOct (fun vs H Q E h => ?_) (fun cdv A outer s H vs Q E hr h => ?_)
  · obtain ⟨v, d, rfl, _⟩ := h
    rfl
  · refine ⟨_, PSs.nox (pss_cons (ps_if (PW.pt (pw_or (pt_not (pt_val (pe_callB call_isD (by rfl) N.isi (by decide +kernel) (pa_cons (pv 0) (pa_cons (pe_bltn (v := .ty "tuple") (by rfl) N.tuple (by decide +kernel) rfl) pa_nil)))))
        (pw_or1 (pt_cmpR op_gt (pe_callB call_len (by rfl) N.len PySem.boot_len (pa_cons (pv 0) pa_nil)) pe_int (nomark _))))) (pss_one (ps_ret pe_bl)) pss_nil)
      (pss_cons (ps_for PassesOwn.never rfl (pi_tup (pv 0)) (pg_name (i := 1) scLOct.nd rfl (Or.inl rfl))
        (pss_one (ps_if (PW.pt (pw_or (pt_not (pt_val (pe_callB call_isD (by rfl) N.isi (by decide +kernel) (pa_cons (pv 1) (pa_cons (pe_bltn (v := .ty "int") (by rfl) N.int (by decide +kernel) rfl) pa_nil)))))
          (pw_or (pt_val (pe_callB call_isD (by rfl) N.isi (by decide +kernel) (pa_cons (pv 1) (pa_cons (pe_bltn (v := .ty "bool") (by rfl) N.bool (by decide +kernel) rfl) pa_nil))))
          (pw_or1 (pt_not (pt_chain op_le op_le pe_int (pv 1) pe_int)))))) (pss_one (ps_ret pe_bl)) pss_nil)))
      (pss_one (ps_ret pe_bl)))), ?_⟩
    obtain ⟨v, d, rfl, hv, hf, k⟩ := h
    refine ⟨_, rfl, v, d, "tuple", rfl, rfl, hv, _, rfl, ?_⟩
    cases d with
    | none => exact iteT (iteT (k _ Same.refl'))
    | bool b => exact iteT (iteT (k _ Same.refl'))
    | int b => exact iteT (iteT (k _ Same.refl'))
    | str b => exact iteT (iteT (k _ Same.refl'))
    | list b => exact iteT (iteT (k _ Same.refl'))
    | dict b => exact iteT (iteT (k _ Same.refl'))
    | tuple ds =>
      refine iteF ?_
      cases hv with
      | @tup a xs _ hq ha =>
        have hl := sdall_len ha
        refine ⟨_, rfl, _, xs.length, rfl, .inr ⟨xs, hq, rfl⟩, _, _, rfl, rfl, _, rfl, ?_⟩
        by_cases c : (2000 : Int) < (xs.length : Int)
        · rw [decide_eq_true c]
          have e : isNums (.tuple ds) = false := by
            show (decide (ds.length ≤ 2000) && ds.all isOct) = false
            rw [decide_eq_false (by omega), Bool.false_and]
          rw [e] at k
          exact iteT (k _ Same.refl')
        · rw [decide_eq_false c]
          refine iteF ?_
          have small : ds.length ≤ 2000 := by omega
          refine ⟨_, rfl, a, rfl, ⟨xs, hq⟩, for_it (walk_tup (xs := xs)) (fun i σ H' => ∃ t1, σ = [some (.ref a), t1] ∧ H' = H ∧ (ds.take i).all isOct = true) ⟨none, rfl, rfl, rfl⟩ (fun i σ H' _ z => by obtain ⟨_, _, rfl, _⟩ := z; exact hq) ?_ ?_⟩
          · rintro i x σ H' H'' hi ⟨t1, rfl, rfl, al⟩ ⟨rfl, hx⟩
            obtain ⟨e, he, hxe⟩ := sdall_get ha hx
            have go : isOct e = true → (ds.take (i + 1)).all isOct = true := fun z => by
              rw [List.take_add_one, he, List.all_append, al]
              simp [z]
            refine ⟨_, rfl, x, e, "int", rfl, rfl, hxe, _, rfl, ?_⟩
            cases e with
            | int z =>
              refine iteF ⟨_, rfl, x, _, "bool", rfl, rfl, hxe, _, rfl, iteF ?_⟩
              cases hxe
              refine ⟨_, rfl, _, _, rfl, rfl, _, rfl, ?_⟩
              by_cases c1 : 0 ≤ z
              · rw [decide_eq_true c1]
                refine iteT ⟨_, _, rfl, rfl, _, rfl, ?_⟩
                by_cases c2 : z ≤ 255
                · rw [decide_eq_true c2]
                  refine iteF ⟨_, rfl, rfl, go ?_⟩
                  show (decide (0 ≤ z) && decide (z < 256)) = true
                  rw [decide_eq_true c1, decide_eq_true (by omega)]
                  rfl
                · rw [decide_eq_false c2]
                  have q : isNums (.tuple ds) = false := not_nums he (by
                    show (decide (0 ≤ z) && decide (z < 256)) = false
                    rw [decide_eq_false (p := z < 256) (by omega), Bool.and_false])
                  rw [q] at k
                  exact iteT (k _ Same.refl')
              · rw [decide_eq_false c1]
                have q : isNums (.tuple ds) = false := not_nums he (by
                  show (decide (0 ≤ z) && decide (z < 256)) = false
                  rw [decide_eq_false c1, Bool.false_and])
                rw [q] at k
                exact iteF ⟨_, rfl, iteT (k _ Same.refl')⟩
            | bool _ =>
              have q := not_nums he rfl
              rw [q] at k
              exact iteF ⟨_, rfl, x, _, "bool", rfl, rfl, hxe, _, rfl, iteT (iteT (k _ Same.refl'))⟩
            | none =>
              have q := not_nums he rfl
              rw [q] at k
              exact iteT (iteT (k _ Same.refl'))
            | str _ =>
              have q := not_nums he rfl
              rw [q] at k
              exact iteT (iteT (k _ Same.refl'))
            | list _ =>
              have q := not_nums he rfl
              rw [q] at k
              exact iteT (iteT (k _ Same.refl'))
            | tuple _ =>
              have q := not_nums he rfl
              rw [q] at k
              exact iteT (iteT (k _ Same.refl'))
            | dict _ =>
              have q := not_nums he rfl
              rw [q] at k
              exact iteT (iteT (k _ Same.refl'))
          · rintro σ H' ⟨t1, rfl, rfl, al⟩
            have q : isNums (.tuple ds) = true := by
              show (decide (ds.length ≤ 2000) && ds.all isOct) = true
              rw [hl, List.take_length] at al
              rw [decide_eq_true small, al]
              rfl
            rw [q] at k
            exact k _ Same.refl'
end
end Ky

set_option Elab.async false
set_option linter.all false
set_option maxRecDepth 100000
set_option maxHeartbeats 2000000
namespace Ky
open PySem PySem.Spec PyProof.Rows L2 StX
abbrev sDue : Stmt := top 32
theorem scDue : FnScope ["keys", "seen", "one"] ["keys"] (defScope sDue) := ⟨rfl, rfl, rfl, by decide +kernel, rfl, by decide +kernel, by decide +kernel⟩
def DueAt (H : Hp) (p : Addr) (ws : List V) : Option (Nat × Bool) → Prop
  | none => H p = some (.lst [])
  | some (n, b) => ∃ v, ws[n]? = some v ∧ H p = some (.lst [.str (if b then "key" else "taken"), v])
def spDue (K : PySem.W.Frag) : Sp := fun vs H Q _ => ∃ (l : Addr) (ws : List V) (ds : List PyData), vs = [.ref l] ∧ SqL K H l ws ∧ SdAll K H ws ds ∧ ws.length ≤ 60 ∧ (∀ d ∈ ds, fits d) ∧ ∀ p H', Same H H' → H p = none → DueAt H' p ws (due [] 0 ds) → Q (.ref p) H'
theorem eq_key (j k : Key) : eqV (kV j) (kV k) = decide (j = k) := by
  cases j with
  | inl a =>
    cases k with
    | inl b =>
      show (a == b) = _
      rw [Bool.eq_iff_iff, decide_eq_true_iff]
      simp
    | inr b => rfl
  | inr a =>
    cases k with
    | inl b => rfl
    | inr b =>
      show (a == b) = _
      rw [Bool.eq_iff_iff, decide_eq_true_iff]
      simp
theorem in_keys (ks : List Key) (k : Key) : inV (kV k) (ks.map kV) = ks.any fun j => decide (j = k) := by
  unfold inV
  rw [List.any_map]
  congr 1
  funext j
  exact eq_key j k
theorem flat_key (k : Key) : flatV (kV k) = true := by cases k <;> rfl
section
variable {P : Program} {w : World} {K : PySem.W.Frag} {mg : Str → Option Value} {base : Heap}
theorem ok_due {f : Addr} {fd : FuncData} (F : FnP K "_law_due" sDue f fd) (N : Nm mg) (lk : ∃ f fd, FnP K "_law_is_key" sLKey f fd ∧ mg "_law_is_key" = some (.ref f)) : FnOk P w K mg base CX0 2 f fd ["keys"] (spDue K) := by
  obtain ⟨fk, dk, FK, gK⟩ := lk
  have GK : FnOk P w K mg base CX0 1 fk dk ["what"] (spTest K isK) := ok_lkey FK N
  have bK : Binds K dk ["what"] [] := FK.bindsN fun _ _ _ _ _ _ us hl => match us, hl with | [_], _ => rfl
  refine F.ok scDue (fun vs H Q E h => ?_) (fun cdv A outer s H vs Q E hr h => ?_)
  · obtain ⟨l, ws, ds, rfl, _⟩ := h
    rfl
  · refine ⟨_, PSs.nox (pss_cons (ps_set (i := 1) scDue.nd rfl (Or.inl rfl) (pe_lst pa_nil))
      (pss_cons (ps_for PassesOwn.never rfl (pi_list (pv 0)) (pg_name (i := 2) scDue.nd rfl (Or.inl rfl))
        (pss_cons (ps_if (pt_not (pt_val (pe_call GK hr (by rfl) gK FK.kp bK .nil pass0 (pa_cons (pv 2) pa_nil)))) (pss_one (ps_ret (pe_lst (pa_cons pe_str (pa_cons (pv 2) pa_nil))))) pss_nil)
        (pss_cons (ps_if (pt_cmpR op_in_seq (pv 2) (pv 1) (by with_unfolding_all rfl)) (pss_one (ps_ret (pe_lst (pa_cons pe_str (pa_cons (pv 2) pa_nil))))) pss_nil)
        (pss_one (ps_expr (pe_bm PySem.F.plainAttrs_list PySem.F.slot_list_append PySem.F.type_list_append mt_append (pv 1) (pa_cons (pv 2) pa_nil)))))))
      (pss_one (ps_ret (pe_lst pa_nil))))), ?_⟩
    obtain ⟨l, ws, ds, rfl, hq, hs, hl, hf, k⟩ := h
    have hlen := sdall_len hs
    refine ⟨Nat.zero_le _, fun q nq => ?_⟩
    have s0 := same_new (o := .lst []) nq
    refine ⟨_, rfl, l, rfl, ⟨ws, s0.seq hq⟩, for_it (walk_list (xs := ws)) (fun i σ H' => ∃ (ks : List Key) (t2 : Option V), σ = [some (.ref l), some (.ref q), t2] ∧ ds.take i = allKeys ks ∧ due [] 0 ds = due ks i (ds.drop i) ∧ H' q = some (.lst (ks.map kV)) ∧ Same H H' ∧ ks.length ≤ i)
      ⟨[], none, rfl, rfl, rfl, upd_same, s0, Nat.le_refl _⟩ (fun i σ H' _ z => ?_) ?_ ?_⟩
    · obtain ⟨_, _, _, _, _, _, s1, _⟩ := z
      exact s1.seq hq
    · rintro i x σ H' H'' hi ⟨ks, t2, rfl, e1, e3, e4, s1, e5⟩ ⟨rfl, hx⟩
      obtain ⟨d, ed, sx⟩ := sdall_get hs hx
      have hdrop : ds.drop i = d :: ds.drop (i + 1) := by
        obtain ⟨h1, h2⟩ := List.getElem?_eq_some_iff.mp ed
        rw [List.drop_eq_getElem_cons h1, h2]
      rw [hdrop] at e3
      have hmem : d ∈ ds := List.mem_of_getElem? ed
      refine ⟨_, rfl, x, d, rfl, sd_to sx s1, hf d hmem, _, rfl, ?_⟩
      cases hk : isK d with
      | false =>
        refine iteT ⟨_, rfl, sz 2 (by decide), fun p np => ?_⟩
        refine k p _ (s1.tr (same_new np)) (none_of s1 np) ?_
        rw [e3]
        simp only [due, keyOf_no hk]
        exact ⟨x, hx, upd_same⟩
      | true =>
        obtain ⟨kk, ek⟩ := keyOf_of hk
        obtain ⟨rfl, _⟩ := keyOf_some ek
        have ex : x = kV kk := sd_keyV sx
        subst ex
        refine iteF ⟨_, rfl, _, rfl, q, ks.map kV, rfl, .inl (SqL.of e4), flat_key kk, ?_, _, rfl, ?_⟩
        · rw [List.all_map]
          exact List.all_eq_true.mpr fun j _ => flat_key j
        rw [in_keys, if_neg Bool.false_ne_true]
        cases e7 : ks.any fun j => decide (j = kk) with
        | true =>
          refine iteT ⟨_, rfl, sz 2 (by decide), fun p np => ?_⟩
          refine k p _ (s1.tr (same_new np)) (none_of s1 np) ?_
          rw [e3]
          simp only [due, ek, e7, if_true]
          exact ⟨kV kk, hx, upd_same⟩
        | false =>
          refine iteF ?_
          have hi' : i < ds.length := hlen ▸ hi
          have s2 : Same H (upd H'' q (.lst (ks.map kV ++ [kV kk]))) := same_updN s1 nq
          refine ⟨_, rfl, .inl ⟨rfl, _, SqL.of e4⟩, _, rfl, q, ks.map kV, kV kk, rfl, rfl, e4, ?_, ks ++ [kk], _, rfl, ?_, ?_, ?_, s2, ?_⟩
          · rw [List.length_map]
            exact Nat.lt_of_le_of_lt e5 (Nat.lt_trans (Nat.lt_of_lt_of_le hi hl) (by decide))
          · rw [List.take_add_one, e1, ed]
            simp only [allKeys, List.map_append, List.map_cons, List.map_nil, Option.toList]
          · rw [e3]
            simp only [due, ek, e7]
            rfl
          · rw [List.map_append]
            exact upd_same
          · rw [List.length_append]
            exact Nat.succ_le_succ e5
    · rintro σ H' ⟨ks, t2, rfl, e1, e3, e4, s1, e5⟩
      refine ⟨Nat.zero_le _, fun p np => k p _ (s1.tr (same_new np)) (none_of s1 np) ?_⟩
      rw [e3, hlen, List.drop_length]
      exact upd_same
end
end Ky

set_option Elab.async false
set_option linter.all false
set_option maxRecDepth 100000
set_option maxHeartbeats 2000000
namespace Ky
open PySem PySem.Spec PyProof.Rows L2 StX
abbrev sTup : Stmt := top 28
abbrev NT : List Str := ["draw", "size", "way", "first", "found", "at", "odd", "other", "k"]
theorem scTup : FnScope NT ["draw"] (defScope sTup) := ⟨rfl, rfl, rfl, by decide +kernel, rfl, by decide +kernel, by decide +kernel⟩
/-- what is shown is short enough, and shallow -/
structure Fine (n : Nat) (d : PyData) : Prop where
  show_ : d.showable = true
  wt_ : wt d ≤ n
  dep : d.depth ≤ 9
  fit : fitsAll d
def spTup (K : PySem.W.Frag) : Sp := fun vs H Q _ => ∃ (p : Addr) (N : Nat), vs = [.ref p] ∧ DrawAt H p N ∧ N < 100000 ∧ ∀ v d H', Sd K H' v d → Fine 9000000 d → DrawAt H' p (N + 7) → Keep p H H' → Q v H'
/-- an element, small -/
structure Sml (d : PyData) : Prop where
  show_ : d.showable = true
  wt_ : wt d ≤ 1990
  dep : d.depth ≤ 4
  fit : fits d
def octs (r : Int) (n : Nat) : List Int := (List.range n).map fun (k : Nat) => (r + 7 * (k : Int)) % 256
theorem octs_len (r : Int) (n : Nat) : (octs r n).length = n := by
  unfold octs
  rw [List.length_map, List.length_range]
theorem octs_succ (r : Int) (n : Nat) : octs r (n + 1) = octs r n ++ [(r + 7 * (n : Int)) % 256] := by
  unfold octs
  rw [List.range_succ, List.map_append]
  rfl
theorem sml_all : ∀ (ds : List PyData), (∀ e ∈ ds, Sml e) → PyData.showableAll ds = true ∧ wtAll ds ≤ 1992 * ds.length ∧ PyData.depthAll ds ≤ 4
  | [], _ => ⟨rfl, Nat.le_refl _, Nat.zero_le _⟩
  | d :: r, h => by
    obtain ⟨a, b, c⟩ := sml_all r fun e m => h e (List.mem_cons_of_mem _ m)
    have z := h d (List.mem_cons_self ..)
    refine ⟨?_, ?_, ?_⟩
    · show (PyData.showable d && PyData.showableAll r) = true
      rw [z.show_, a]
      rfl
    · show wt d + 2 + wtAll r ≤ 1992 * (r.length + 1)
      have := z.wt_
      omega
    · show max d.depth (PyData.depthAll r) ≤ 4
      exact Nat.max_le.mpr ⟨z.dep, c⟩
theorem fine_tup {ds : List PyData} (h : ∀ e ∈ ds, Sml e) (hl : ds.length ≤ 4500) : Fine 8990000 (.tuple ds) := by
  obtain ⟨a, b, c⟩ := sml_all ds h
  refine ⟨a, ?_, ?_, fun xs e x m => ?_⟩
  · show wtAll ds + 3 ≤ _
    omega
  · show PyData.depthAll ds + 1 ≤ 9
    omega
  · cases e
    exact (h x m).fit
theorem fine_lst {ds : List PyData} (h : ∀ e ∈ ds, Sml e) (hl : ds.length ≤ 4500) : Fine 8990000 (.list ds) := by
  obtain ⟨a, b, c⟩ := sml_all ds h
  refine ⟨a, ?_, ?_, fun xs e x m => by cases e⟩
  · show wtAll ds + 2 ≤ _
    omega
  · show PyData.depthAll ds + 1 ≤ 9
    omega
theorem Fine.le {n m : Nat} {d : PyData} (h : Fine n d) (k : n ≤ m) : Fine m d := ⟨h.show_, Nat.le_trans h.wt_ k, h.dep, h.fit⟩
theorem sdall_ints {K : PySem.W.Frag} {H : Hp} : ∀ ns : List Int, SdAll K H (ns.map V.int) (ns.map PyData.int)
  | [] => .nil
  | i :: r => .cons (.int i) (sdall_ints r)
theorem sdall_app {K : PySem.W.Frag} {H : Hp} : ∀ {xs ys : List V} {ds es : List PyData}, SdAll K H xs ds → SdAll K H ys es → SdAll K H (xs ++ ys) (ds ++ es)
  | _, _, _, _, .nil, b => b
  | _, _, _, _, .cons h a, b => .cons h (sdall_app a b)
theorem slA_any {K : PySem.W.Frag} {H : Hp} {a : Addr} {xs : List V} {lo hi : Option Int} {Q : VK} (h : SqT K H a xs) (k : ∀ p H', Same H H' → SqT K H' p (cutV xs lo hi) → Q (.ref p) H') : rSlA K (.ref a) lo hi H Q := by
  refine ⟨a, xs, rfl, h, fun z => k a H Same.refl' ?_, fun _ p hp => k p _ (same_new hp) (SqT.of upd_same)⟩
  have e : cutV xs lo hi = xs := by
    unfold cutV
    rw [z.1, z.2, List.drop_zero, Nat.sub_zero, List.take_length]
  rw [e]
  exact h
theorem catA_any {K : PySem.W.Frag} {H : Hp} {a b : Addr} {xs ys : List V} {Q : VK} (ha : SqT K H a xs) (hb : SqT K H b ys) (hl : xs.length + ys.length ≤ sizeLine) (k : ∀ p H', Same H H' → SqT K H' p (xs ++ ys) → Q (.ref p) H') : rCatA K (.ref a) (.ref b) H Q := by
  refine ⟨a, b, xs, ys, rfl, rfl, ha, hb, hl, fun z => k b H Same.refl' ?_, fun _ z => k a H Same.refl' ?_, fun _ _ p hp => k p _ (same_new hp) (SqT.of upd_same)⟩
  · rw [z]
    exact hb
  · rw [z, List.append_nil]
    exact ha
theorem cut_ints (ns : List Int) (lo hi : Option Int) : ∃ ms : List Int, cutV (ns.map V.int) lo hi = ms.map V.int ∧ ms.length ≤ ns.length ∧ ∀ i ∈ ms, i ∈ ns := by
  refine ⟨((ns.drop (HT.sIx (ns.map V.int).length 0 lo)).take (HT.sIx (ns.map V.int).length (ns.map V.int).length hi - HT.sIx (ns.map V.int).length 0 lo)), ?_, ?_, fun i m => List.mem_of_mem_drop (List.mem_of_mem_take m)⟩
  · unfold cutV
    rw [← List.map_drop, ← List.map_take]
  · rw [List.length_take, List.length_drop]
    omega
theorem sml_int {i : Int} (h : 0 ≤ i) (h2 : i < 256) : Sml (.int i) := by
  refine ⟨?_, (by show 1921 ≤ 1990; decide), Nat.zero_le _, fun x e => by cases e⟩
  show decide (i.natAbs.log2 < 1920) = true
  rw [decide_eq_true_iff]
  exact Nat.lt_of_le_of_lt (Nat.log2_le_self _) (by omega)
theorem octs_mem {r : Int} {n : Nat} : ∀ i ∈ octs r n, Sml (.int i) := fun i m => by
  unfold octs at m
  obtain ⟨k, _, rfl⟩ := List.mem_map.mp m
  exact sml_int (by omega) (by omega)
theorem sml_ints {ns : List Int} (h : ∀ i ∈ ns, Sml (.int i)) : ∀ e ∈ ns.map PyData.int, Sml e := fun e m => by
  obtain ⟨i, mi, rfl⟩ := List.mem_map.mp m
  exact h i mi
section
variable {P : Program} {w : World} {K : PySem.W.Frag} {mg : Str → Option Value} {base : Heap}
theorem ok_tup {f : Addr} {fd : FuncData} (F : FnP K "_law_tuple" sTup f fd) (N : Nm mg) (D : Dr K mg) : FnOk P w K mg base CX0 3 f fd ["draw"] (spTup K) := by
  obtain ⟨fX, dX, FX, gX⟩ := D.next
  obtain ⟨fM, dM, FM, gM⟩ := D.mixed
  have GX : FnOk P w K mg base CX0 2 fX dX ["draw", "bound"] spNext := ok_next FX FM gM N.len
  have bX : Binds K dX ["draw", "bound"] [] := FX.bindsN fun _ _ _ _ _ _ us hl => match us, hl with | [_, _], _ => rfl
  refine F.ok scTup (fun vs H Q E h => ?_) (fun cdv A outer s H vs Q E hr h => ?_)
  · obtain ⟨p, N, rfl, _⟩ := h
    rfl
  · refine ⟨_, PSs.nox (pss_cons (ps_par (i := 1) (j := 2) rfl scTup.nd rfl rfl (by decide) rfl rfl (pa_cons (pe_ix ix_list (pe_lst (pa_cons pe_int (pa_cons pe_int (pa_cons (pe_call GX hr (by rfl) gX FX.kp bX .nil pass0 (pa_cons (pv 0) (pa_cons pe_int pa_nil))) (pa_cons pe_int (pa_cons pe_int pa_nil)))))) (pe_call GX hr (by rfl) gX FX.kp bX .nil pass0 (pa_cons (pv 0) (pa_cons pe_int pa_nil))) (fun _ _ => rfl)) (pa_cons (pe_call GX hr (by rfl) gX FX.kp bX .nil pass0 (pa_cons (pv 0) (pa_cons pe_int pa_nil))) pa_nil)) (by rfl))
      (pss_cons (ps_set (i := 3) scTup.nd rfl (Or.inr rfl) (pe_call GX hr (by rfl) gX FX.kp bX .nil pass0 (pa_cons (pv 0) (pa_cons pe_int pa_nil))))
      (pss_cons (ps_set (i := 4) scTup.nd rfl (Or.inl rfl) (pe_callTy call_tuple_of (by rfl) N.tuple (by decide +kernel) (pa_cons (pe_lc (own := [("k", 8)]) (g := gName 8) (tt := tYes) rfl scTup.nd (pi_range1 (by rfl) N.rng (pa_cons (pv 1) pa_nil)) (blkOk_by (own := [("k", 8)]) (N := NT) (sc := defScope sTup) (by decide +kernel))
          (fun _ _ _ _ _ => pg_name (i := 8) scTup.nd rfl (Or.inl rfl)) (fun _ _ _ _ _ => pts_nil) (fun _ _ _ _ _ => pe_op op_mod (pe_op op_add (pv 3) (pe_op op_mul pe_int (pv 8))) pe_int)) pa_nil)))
      (pss_cons (ps_set (i := 5) scTup.nd rfl (Or.inl rfl) (pe_call GX hr (by rfl) gX FX.kp bX .nil pass0 (pa_cons (pv 0) (pa_cons (pe_op op_add (pv 1) pe_int) pa_nil))))
      (pss_cons (ps_set (i := 6) scTup.nd rfl (Or.inl rfl) (pe_ix ix_list (pe_lst (pa_cons pe_int (pa_cons (pe_op op_sub pe_int pe_int) (pa_cons pe_bl (pa_cons pe_non (pa_cons pe_str (pa_cons (pe_tup (pa_cons pe_int pa_nil)) (pa_cons (pe_lst (pa_cons pe_int pa_nil)) (pa_cons (pe_op op_pow pe_int pe_int) pa_nil))))))))) (pe_call GX hr (by rfl) gX FX.kp bX .nil pass0 (pa_cons (pv 0) (pa_cons pe_int pa_nil))) (fun _ _ => rfl)))
      (pss_cons (ps_set (i := 7) scTup.nd rfl (Or.inl rfl) (pe_ix ix_list (pe_lst (pa_cons (pe_callTy call_list_of (by rfl) N.list (by decide +kernel) (pa_cons (pv 4) pa_nil)) (pa_cons pe_non (pa_cons pe_int (pa_cons pe_str (pa_cons pe_dnewK (pa_cons (pe_tup (pa_cons (pv 4) pa_nil)) pa_nil))))))) (pe_call GX hr (by rfl) gX FX.kp bX .nil pass0 (pa_cons (pv 0) (pa_cons pe_int pa_nil))) (fun _ _ => rfl)))
      (pss_one (ps_ret (pe_ix ix_list (pe_lst (pa_cons (pv 4) (pa_cons (pv 4) (pa_cons (pe_op op_catA (pe_op op_catA (pe_slice sl_tupA (pv 4) po_none (po_some (pv 5))) (pe_tup (pa_cons (pv 6) pa_nil))) (pe_slice sl_tupA (pv 4) (po_some (pv 5)) po_none)) (pa_cons (pv 7) pa_nil))))) (pv 2) (fun _ _ => rfl)))))))))), ?_⟩
    obtain ⟨p, n, rfl, D0, hn, k⟩ := h
    -- size, way
    refine ⟨_, rfl, p, 20, n, rfl, D0, by omega, by decide, by decide, fun r1 H1 a1 b1 D1 k1 => ⟨sz 5 (by decide), fun l1 n1 => ?_⟩⟩
    have s1 := same_new (o := .lst [.int 0, .int 1, .int r1, .int 2000, .int 2001]) n1
    have nl1 : l1 ≠ p := (D1.same s1).ne upd_same fun kvs z => by cases z
    refine ⟨_, rfl, p, 5, n + 1, rfl, D1.same s1, by omega, by decide, by decide, fun r2 H2 a2 b2 D2 k2 => ?_⟩
    have h2 := k2 l1 _ upd_same nl1
    obtain ⟨z, hz, zs⟩ : ∃ z : Nat, ([.int 0, .int 1, .int r1, .int 2000, .int 2001] : List V)[r2.toNat]? = some (.int (z : Int)) ∧ z ≤ 2001 := by
      obtain ⟨j, rfl⟩ := Int.eq_ofNat_of_zero_le a2
      have hj : j < 5 := by omega
      obtain ⟨m, rfl⟩ := Int.eq_ofNat_of_zero_le a1
      match j, hj with
      | 0, _ => exact ⟨0, rfl, by decide⟩
      | 1, _ => exact ⟨1, rfl, by decide⟩
      | 2, _ => exact ⟨m, rfl, by omega⟩
      | 3, _ => exact ⟨2000, rfl, by decide⟩
      | 4, _ => exact ⟨2001, rfl, by decide⟩
    refine ⟨l1, _, _, _, rfl, rfl, SqL.of h2, at_of (Int.toNat_of_nonneg a2).symm hz, ?_⟩
    refine ⟨_, rfl, p, 4, n + 2, rfl, D2, by omega, by decide, by decide, fun r3 H3 a3 b3 D3 k3 => ⟨_, _, rfl, ?_⟩⟩
    -- first
    refine ⟨_, rfl, p, 256, n + 3, rfl, D3, by omega, by decide, by decide, fun r4 H4 a4 b4 D4 k4 => ?_⟩
    -- found
    refine ⟨_, rfl, (z : Int), rfl, by omega, by omega, fun Dl nD => lc_it walk_range (fun i H' => Same H4 H' ∧ H' Dl = some (.lst ((octs r4 i).map V.int))) ⟨same_new nD, upd_same⟩ (fun i H' _ _ => True.intro) ?_ ?_⟩
    · rintro i x H' H'' hi ⟨t1, hD⟩ ⟨rfl, rfl⟩
      refine ⟨rfl, yesT ⟨_, rfl, _, rfl, _, _, rfl, rfl, .inl ⟨by decide, by decide⟩, _, _, rfl, rfl, _, _, rfl, rfl, (by show (0 : Int) < 256; decide), _, hD, ?_, same_updN t1 nD, ?_⟩⟩
      · rw [List.length_map, octs_len]
        have : i < z := by omega
        exact Nat.lt_of_lt_of_le this (Nat.le_trans zs (by decide))
      · rw [upd_same, octs_succ, List.map_append, Int.zero_add]
        rfl
    rintro G ⟨t1', hD⟩
    rw [Int.toNat_natCast] at hD
    refine ⟨Dl, _, rfl, .inl ⟨SqL.of hD, fun lt nlt => ?_⟩⟩
    have s2 := same_new (o := .tup ((octs r4 z).map V.int)) nlt
    have D4' := (D4.same t1').same s2
    have nlt' : lt ≠ p := D4'.ne upd_same fun kvs z => by cases z
    -- at
    refine ⟨_, rfl, _, rfl, _, _, rfl, rfl, p, _, n + 4, rfl, D4', by omega, by omega, by omega, fun r5 H5 a5 b5 D5 k5 => ?_⟩
    have h5 := k5 lt _ upd_same nlt'
    -- odd
    refine ⟨_, _, rfl, rfl, sz 1 (by decide), fun q1 m1 => ⟨sz 1 (by decide), fun q2 m2 => ⟨_, _, rfl, rfl, ⟨by decide, by decide, by decide⟩, sz 8 (by decide), fun l2 n2 => ?_⟩⟩⟩
    have u1 := same_new (o := .tup [.int 7]) m1
    have u2 := same_new (o := .lst [.int 7]) m2
    have u3 := same_new (o := .lst [.int 256, .int (0 - 1), .bl true, .non, .str "7", .ref q1, .ref q2, .int (10 ^ (40 : Int).toNat)]) n2
    have D6' := ((D5.same u1).same u2).same u3
    have hq1 := u3 _ _ (u2 _ _ (upd_same (H := H5) (a := q1) (o := .tup [.int 7])))
    have hq2 := u3 _ _ (upd_same (H := upd H5 q1 (.tup [.int 7])) (a := q2) (o := .lst [.int 7]))
    have nq1 : q1 ≠ p := D6'.ne hq1 fun kvs z => by cases z
    have nq2 : q2 ≠ p := D6'.ne hq2 fun kvs z => by cases z
    have nl2 : l2 ≠ p := D6'.ne upd_same fun kvs z => by cases z
    refine ⟨_, rfl, p, 8, n + 5, rfl, D6', by omega, by decide, by decide, fun r6 H6 a6 b6 D6 k6 => ?_⟩
    have h6 := k6 lt _ (u3 _ _ (u2 _ _ (u1 _ _ h5))) nlt'
    obtain ⟨od, dd, hod, sml, sod⟩ : ∃ od dd, ([.int 256, .int (0 - 1), .bl true, .non, .str "7", .ref q1, .ref q2, .int (10 ^ (40 : Int).toNat)] : List V)[r6.toNat]? = some od ∧ Sml dd ∧ ∀ H', Keep p H6 H' → Sd K H' od dd := by
      obtain ⟨j, rfl⟩ := Int.eq_ofNat_of_zero_le a6
      have hj : j < 8 := by omega
      have one : SdAll K H6 [.int 7] [.int 7] := .cons (.int 7) .nil
      match j, hj with
      | 0, _ => exact ⟨_, _, rfl, ⟨by decide, by decide, by decide, fun x e => by cases e⟩, fun H' k => .int _⟩
      | 1, _ => exact ⟨_, _, rfl, ⟨by decide, by decide, by decide, fun x e => by cases e⟩, fun H' k => .int _⟩
      | 2, _ => exact ⟨_, _, rfl, ⟨by decide, by decide, by decide, fun x e => by cases e⟩, fun H' k => .bl _⟩
      | 3, _ => exact ⟨_, _, rfl, ⟨by decide, by decide, by decide, fun x e => by cases e⟩, fun H' k => .non⟩
      | 4, _ => exact ⟨_, _, rfl, ⟨by decide +kernel, by decide +kernel, by decide, fun x e => by cases e; decide⟩, fun H' k => .str _⟩
      | 5, _ => exact ⟨_, .tuple [.int 7], rfl, ⟨by decide, by decide, by decide, fun x e => by cases e⟩, fun H' k => .tup (SqT.of (k q1 _ (k6 q1 _ hq1 nq1) nq1)) (.cons (.int 7) .nil)⟩
      | 6, _ => exact ⟨_, .list [.int 7], rfl, ⟨by decide, by decide, by decide, fun x e => by cases e⟩, fun H' k => .lst (SqL.of (k q2 _ (k6 q2 _ hq2 nq2) nq2)) (.cons (.int 7) .nil)⟩
      | 7, _ => exact ⟨_, _, rfl, ⟨by decide +kernel, by decide, by decide, fun x e => by cases e⟩, fun H' k => .int _⟩
    refine ⟨l2, _, _, _, rfl, rfl, SqL.of (k6 l2 _ upd_same nl2), at_of (Int.toNat_of_nonneg a6).symm hod, ?_⟩
    -- other
    refine ⟨_, rfl, lt, _, rfl, .inr (SqT.of h6), fun q3 m3 q4 m4 => ⟨_, rfl, sz 1 (by decide), fun q5 m5 => ⟨sz 6 (by decide), fun l3 n3 => ?_⟩⟩⟩
    have v1 := same_new (o := .lst ((octs r4 z).map V.int)) m3
    have v2 := same_new (o := .dK []) m4
    have v3 := same_new (o := .tup [.ref lt]) m5
    have v4 := same_new (o := .lst [.ref q3, .non, .int 5, .str "octets", .ref q4, .ref q5]) n3
    have D7' := (((D6.same v1).same v2).same v3).same v4
    have hq3 := v4 _ _ (v3 _ _ (v2 _ _ (upd_same (H := H6) (a := q3) (o := .lst ((octs r4 z).map V.int)))))
    have hq4 := v4 _ _ (v3 _ _ (upd_same (H := upd H6 q3 (.lst ((octs r4 z).map V.int))) (a := q4) (o := .dK [])))
    have hq5 := v4 _ _ (upd_same (H := upd (upd H6 q3 (.lst ((octs r4 z).map V.int))) q4 (.dK [])) (a := q5) (o := .tup [.ref lt]))
    have nq3 : q3 ≠ p := D7'.ne hq3 fun kvs z => by cases z
    have nq4 : q4 ≠ p := fun e => by
      obtain ⟨_, _, _, _, _, hp, _⟩ := D6
      rw [e, v1 _ _ hp] at m4
      cases m4
    have nq5 : q5 ≠ p := D7'.ne hq5 fun kvs z => by cases z
    have nl3 : l3 ≠ p := D7'.ne upd_same fun kvs z => by cases z
    refine ⟨_, rfl, p, 6, n + 6, rfl, D7', by omega, by decide, by decide, fun r7 H7 a7 b7 D7 k7 => ?_⟩
    have k67 : Keep p H6 H7 := (Keep.of v1).trans ((Keep.of v2).trans ((Keep.of v3).trans ((Keep.of v4).trans k7)))
    have h7 := k67 lt _ h6 nlt'
    have sm0 : ∀ e ∈ (octs r4 z).map PyData.int, Sml e := sml_ints octs_mem
    have ln0 : ((octs r4 z).map PyData.int).length ≤ 2001 := by
      rw [List.length_map, octs_len]
      exact zs
    have fine0 := fine_tup sm0 (Nat.le_trans ln0 (by decide))
    have found : ∀ H', Same H7 H' → Sd K H' (.ref lt) (.tuple ((octs r4 z).map PyData.int)) := fun H' s => .tup (SqT.of (s _ _ h7)) (sdall_ints _)
    obtain ⟨ot, dt, hot, fdt, sot⟩ : ∃ ot dt, ([.ref q3, .non, .int 5, .str "octets", .ref q4, .ref q5] : List V)[r7.toNat]? = some ot ∧ Fine 9000000 dt ∧ ∀ H', Same H7 H' → Sd K H' ot dt := by
      obtain ⟨j, rfl⟩ := Int.eq_ofNat_of_zero_le a7
      have hj : j < 6 := by omega
      match j, hj with
      | 0, _ => exact ⟨_, _, rfl, (fine_lst sm0 (Nat.le_trans ln0 (by decide))).le (by decide), fun H' s => .lst (SqL.of (s _ _ (k7 q3 _ hq3 nq3))) (sdall_ints _)⟩
      | 1, _ => exact ⟨_, _, rfl, ⟨by decide, by decide, by decide, fun x e => by cases e⟩, fun H' s => .non⟩
      | 2, _ => exact ⟨_, _, rfl, ⟨by decide, by decide, by decide, fun x e => by cases e⟩, fun H' s => .int _⟩
      | 3, _ => exact ⟨_, _, rfl, ⟨by decide +kernel, by decide +kernel, by decide, fun x e => by cases e⟩, fun H' s => .str _⟩
      | 4, _ => exact ⟨_, .dict [], rfl, ⟨by decide, by decide, by decide, fun x e => by cases e⟩, fun H' s => .emp (s _ _ (k7 q4 _ hq4 nq4))⟩
      | 5, _ =>
        refine ⟨_, .tuple [.tuple ((octs r4 z).map PyData.int)], rfl, ⟨?_, ?_, ?_, fun xs e x m => ?_⟩, fun H' s => .tup (SqT.of (s _ _ (k7 q5 _ hq5 nq5))) (.cons (found H' s) .nil)⟩
        · show (PyData.showable _ && PyData.showableAll []) = true
          rw [fine0.show_]
          rfl
        · have := fine0.wt_
          show wt (.tuple ((octs r4 z).map PyData.int)) + 2 + 0 + 3 ≤ 9000000
          omega
        · obtain ⟨_, _, c⟩ := sml_all _ sm0
          show max (PyData.depthAll _ + 1) 0 + 1 ≤ 9
          omega
        · cases e
          cases List.mem_singleton.mp m
          intro y e2
          cases e2
    refine ⟨l3, _, _, _, rfl, rfl, SqL.of (k7 l3 _ upd_same nl3), at_of (Int.toNat_of_nonneg a7).symm hot, ?_⟩
    -- the four
    obtain ⟨ms, em, lm, mm⟩ := cut_ints (octs r4 z) none (some r5)
    obtain ⟨ns, en, ln, mn⟩ := cut_ints (octs r4 z) (some r5) none
    rw [octs_len] at lm ln
    refine ⟨_, rfl, _, rfl, _, rfl, _, rfl, _, rfl, slA_any (SqT.of h7) fun t1 G1 g1 w1 => ⟨_, rfl, sz 1 (by decide), fun t2 nt2 => ?_⟩⟩
    have g2 : Same G1 (upd G1 t2 (.tup [od])) := same_new nt2
    rw [em] at w1
    refine catA_any (sqT_to g2 w1) (SqT.of upd_same) (by rw [List.length_map]; exact Nat.le_trans (m := 5000) (by show ms.length + 1 ≤ 5000; omega) (by decide)) fun t3 G3 g3 w3 => ?_
    refine ⟨_, rfl, _, rfl, _, rfl, ?_⟩
    dsimp only [tNoPart]
    refine slA_any (SqT.of (g3 _ _ (g2 _ _ (g1 _ _ h7)))) fun t4 G4 g4 w4 => ?_
    rw [en] at w4
    refine catA_any (sqT_to g4 w3) w4 (by rw [List.length_append, List.length_map, List.length_map]; exact Nat.le_trans (m := 5000) (by show ms.length + 1 + ns.length ≤ 5000; omega) (by decide)) fun t5 G5 g5 w5 => ?_
    have s7 : Same H7 G5 := g1.tr (g2.tr (g3.tr (g4.tr g5)))
    refine ⟨_, rfl, sz 4 (by decide), fun l4 n4 => ?_⟩
    have s8 : Same H7 (upd G5 l4 (.lst [.ref lt, .ref lt, .ref t5, ot])) := s7.tr (same_new n4)
    obtain ⟨v, d, hv, fd', sd'⟩ : ∃ v d, ([.ref lt, .ref lt, .ref t5, ot] : List V)[r3.toNat]? = some v ∧ Fine 9000000 d ∧ Sd K (upd G5 l4 (.lst [.ref lt, .ref lt, .ref t5, ot])) v d := by
      obtain ⟨j, rfl⟩ := Int.eq_ofNat_of_zero_le a3
      have hj : j < 4 := by omega
      match j, hj with
      | 0, _ => exact ⟨_, _, rfl, fine0.le (by decide), found _ s8⟩
      | 1, _ => exact ⟨_, _, rfl, fine0.le (by decide), found _ s8⟩
      | 2, _ =>
        refine ⟨_, .tuple ((ms.map PyData.int ++ [dd]) ++ ns.map PyData.int), rfl, (fine_tup (fun e m => ?_) ?_).le (by decide), .tup (sqT_to (same_new n4) w5) (sdall_app (sdall_app (sdall_ints _) (.cons (sod _ (k67.trans (Keep.of s8))) .nil)) (sdall_ints _))⟩
        · rcases List.mem_append.mp m with m | m
          · rcases List.mem_append.mp m with m | m
            · exact sml_ints (fun i h => octs_mem i (mm i h)) e m
            · cases List.mem_singleton.mp m
              exact sml
          · exact sml_ints (fun i h => octs_mem i (mn i h)) e m
        · rw [List.length_append, List.length_append, List.length_map, List.length_map]
          show ms.length + 1 + ns.length ≤ 4500
          omega
      | 3, _ => exact ⟨_, _, rfl, fdt, sot _ s8⟩
    refine ⟨_, rfl, l4, _, _, v, rfl, rfl, SqL.of upd_same, at_of (Int.toNat_of_nonneg a3).symm hv, ?_⟩
    refine k v d _ sd' fd' (D7.same s8) ?_
    exact k1.trans ((Keep.of s1).trans (k2.trans (k3.trans (k4.trans ((Keep.of t1').trans ((Keep.of s2).trans (k5.trans ((Keep.of u1).trans ((Keep.of u2).trans ((Keep.of u3).trans (k6.trans (k67.trans (Keep.of s8)))))))))))))
end
end Ky

set_option Elab.async false
set_option linter.all false
set_option maxRecDepth 100000
set_option maxHeartbeats 2000000
namespace Ky
open PySem PySem.Spec PyProof.Rows L2 StX
abbrev sOR : Stmt := top 30
abbrev NO : List Str := ["what", "caught", "found", "e"]
theorem scOR : FnScope NO ["what"] (defScope sOR) := ⟨rfl, rfl, rfl, by decide +kernel, rfl, by decide +kernel, by decide +kernel⟩
/-- an error that the law catches -/
structure CatchF (K : PySem.W.Frag) (mg : Str → Option Value) (CE : Addr) (x fld : Str) : Prop where
  fam : ∃ CJ CS CM : Addr, mg "JarError" = some (.ref CJ) ∧ mg "StateError" = some (.ref CS) ∧ mg "MissingError" = some (.ref CM) ∧ PySem.W.exmAny K (.ref CE) [.ref CJ, .ref CS, .ref CM] = some true
  xc : Xc K CE
  no : PySem.W.findIn K (.ref CE) fld = some none
  nm : mg x = some (.ref CE)
  kit : PySem.W.kitOne K (.ref CE) (.ref CE) = some true
/-- the class Octets -/
structure OctF (P : Program) (w : World) (K : PySem.W.Frag) (mg : Str → Option Value) (CO : Addr) : Prop where
  cls : Cls K CO
  noN : NoAttr K CO "_numbers"
  nm : mg "Octets" = some (.ref CO)
  init : ∃ f fd t, Mk K CO f ∧ FnM K "__init__" "Octets.__init__" sOctI [V.ref t] f fd ∧ ∀ H, SqT K H t []
  nums : ∃ p g fd, PropOf K CO "numbers" p g ∧ FnM K "numbers" "Octets.numbers" sOctN [] g fd
  shape : ∃ p g fd u, PropOf K CO "shape" p g ∧ FnM K "shape" "Node.shape" sShape [] g fd ∧ Con K CO "SHAPE" (.str "octets") u
  kids : ∃ f fd, Meth K CO "children" f ∧ FnM K "children" "Node.children" sChildren [] f fd
  cont : ∃ f fd, Meth K CO "_contents" f ∧ FnM K "_contents" "Node._contents" sCont0 [] f fd
  eqc : VxS.EqC K CO
  mro : PySem.W.mroIn K CO (.ref CO) = some true
theorem nums_tuple {d : PyData} (h : isNums d = true) : ∃ ds, d = .tuple ds ∧ ds.all isOct = true := by
  cases d with
  | tuple ds =>
    refine ⟨ds, rfl, ?_⟩
    have z : (decide (ds.length ≤ 2000) && ds.all isOct) = true := h
    exact (Bool.and_eq_true_iff.mp z).2
  | none => cases h
  | bool _ => cases h
  | int _ => cases h
  | str _ => cases h
  | list _ => cases h
  | dict _ => cases h
theorem dpall_of {K : PySem.W.Frag} {H : Hp} : ∀ {xs : List V} {ds : List PyData}, ds.all isOct = true → SdAll K H xs ds → DpAll K H xs ds
  | _, _, _, .nil => .nil
  | _, d :: ds, h, .cons a b => by
    have z : (isOct d && ds.all isOct) = true := h
    obtain ⟨z1, z2⟩ := Bool.and_eq_true_iff.mp z
    refine .cons ?_ (dpall_of z2 b)
    cases a with
    | int i => exact .int i
    | non => cases z1
    | bl _ => cases z1
    | str _ => cases z1
    | lst _ _ => cases z1
    | tup _ _ => cases z1
    | emp _ => cases z1
    | one _ _ => cases z1
theorem dp_of {K : PySem.W.Frag} {H : Hp} {v : V} {ds : List PyData} (h : ds.all isOct = true) (s : Sd K H v (.tuple ds)) : Dp K H v (.tuple ds) := by
  cases s with
  | tup hq ha => exact .tup hq (dpall_of h ha)
theorem lay_nums : ∀ {ds : List PyData}, ds.all isOct = true → PyData.canLayAll0 ds = true ∧ PyData.depthAll ds = 0
  | [], _ => ⟨rfl, rfl⟩
  | d :: ds, h => by
    have z : (isOct d && ds.all isOct) = true := h
    obtain ⟨z1, z2⟩ := Bool.and_eq_true_iff.mp z
    obtain ⟨a, b⟩ := lay_nums z2
    cases d with
    | int i =>
      refine ⟨?_, ?_⟩
      · show (PyData.canLay0 (.int i) && PyData.canLayAll0 ds) = true
        rw [a]
        rfl
      · show max 0 (PyData.depthAll ds) = 0
        rw [b]
        rfl
    | none => cases z1
    | bool _ => cases z1
    | str _ => cases z1
    | list _ => cases z1
    | tuple _ => cases z1
    | dict _ => cases z1
theorem canlay_nums {ds : List PyData} (h : ds.all isOct = true) : (PyData.tuple ds).canLay0 = true := (lay_nums h).1
theorem shaped_nums {ds : List PyData} (h : ds.all isOct = true) : SeqAt.shaped (.tuple ds) = true := by
  refine Bool.and_eq_true_iff.mpr ⟨canlay_nums h, decide_eq_true ?_⟩
  show PyData.depthAll ds + 1 ≤ 64
  rw [(lay_nums h).2]
  decide
theorem eqv_nums {ds : List PyData} (h : ds.all isOct = true) : PyData.eqv (.tuple ds) (.tuple ds) = true := SeqAt.eqv_refl _ (canlay_nums h)
def spOR (K : PySem.W.Frag) : Sp := fun vs H Q _ => ∃ (v : V) (d : PyData), vs = [v] ∧ Sd K H v d ∧ Fine 9000000 d ∧ ∀ H', Same H H' → Q (.bl true) H'
section
variable {P : Program} {w : World} {K : PySem.W.Frag} {mg : Str → Option Value} {base : Heap}
theorem ok_or {f : Addr} {fd : FuncData} (F : FnP K "_law_octets_right" sOR f fd) (N : Nm mg) (T : Ts K mg) (S : Es P w K mg base) (SY : SysK K) (O : ∃ CO, OctF P w K mg CO) (CF : CatchF K mg (gC K "InvalidNumbers") "InvalidNumbers" "value")
    (LO : ∃ f fd, FnP K "_law_is_octets" sLOct f fd ∧ mg "_law_is_octets" = some (.ref f)) : FnG P w K mg base CX0 6 f fd ["what"] (spOR K) := by
  obtain ⟨CO, OF⟩ := O
  obtain ⟨fI, dI, t0, MO, FI, hT0⟩ := OF.init
  obtain ⟨pN, gN, dN, PN, FN⟩ := OF.nums
  obtain ⟨pS, gS, dS, uS, PS', FS, CS⟩ := OF.shape
  obtain ⟨fC, dC, MC, FC⟩ := OF.kids
  obtain ⟨f0, d0, M0, F0⟩ := OF.cont
  obtain ⟨fL, dL, FL, gL⟩ := LO
  obtain ⟨CJ, CSt, CM, mJ, mS, mM, exm⟩ := CF.fam
  have GI : FnOk P w K mg base (L2.CX P w) 3 fI dI ["self", "numbers"] (spOctI K CO (gC K "InvalidNumbers")) := ok_octI OF.cls OF.noN FI N T S
  have GN : FnOk P w K mg base CX0 1 gN dN ["self"] (spFld CO "_numbers") := ok_fld rfl scSelf1 (.inl rfl) OF.cls OF.noN FN
  have GS : FnOk P w K mg base CX0 1 gS dS ["self"] (spShape CO "octets") := ok_shape OF.cls CS FS
  have G0 : FnOk P w K mg base CX0 1 f0 d0 ["self"] (spNone CO) := ok_cont0 F0
  have b0 : Binds K d0 ["self"] [] := F0.bindsN fun _ _ _ _ _ _ us hl => match us, hl with | [_], _ => rfl
  have bN : Binds K dN ["self"] [] := FN.bindsN fun _ _ _ _ _ _ us hl => match us, hl with | [_], _ => rfl
  have bS : Binds K dS ["self"] [] := FS.bindsN fun _ _ _ _ _ _ us hl => match us, hl with | [_], _ => rfl
  have bC : Binds K dC ["self"] [] := FC.bindsN fun _ _ _ _ _ _ us hl => match us, hl with | [_], _ => rfl
  have bL : Binds K dL ["what"] [] := FL.bindsN fun _ _ _ _ _ _ us hl => match us, hl with | [_], _ => rfl
  have YC : YDef P w K mg base 2 fC dC ["self"] (spKids CO (spNone CO)) := ok_kids OF.cls M0 FC G0 b0 fun vs H Q Q' E h z => by
    obtain ⟨a, dx, fs, e1, e2, k⟩ := z
    exact ⟨a, dx, fs, e1, e2, fun p hp => h _ _ (k p hp)⟩
  have GL : FnOk P w K mg base CX0 1 fL dL ["what"] (spNums K) := ok_loct FL N
  have bI : ∃ ds, Vals (([V.ref t0] : List V).drop 1) ds ∧ Binds K dI ["self", "numbers"] ds := FI.binds1 2 1 (by simp) rfl fun _ _ _ _ _ _ _ us its hl hi => match us, its, hl, hi with | [_, _], [_], _, _ => ⟨_, rfl, rfl⟩
  obtain ⟨ds, vds, bI⟩ := bI
  obtain ⟨its, bK⟩ : ∃ its : List Value, KBn K dI ["self", "numbers"] 1 ["numbers"] (fun us ws => us ++ ws) (fun vs zs => vs ++ zs) := FI.kbindsD 1 ["numbers"] (fun us _ ws => us ++ ws) (by simp) (fun r1 _ r3 => r1.append r3) fun _ _ _ _ _ _ _ us its ws h1 h2 h3 => match us, its, ws, h1, h2, h3 with | [_], [_], [_], _, _, _ => ⟨_, rfl, rfl⟩
  refine F.okG scOR (fun vs H Q E h => ?_) (fun cdv A outer s H vs Q E hgu hr h => ?_)
  · obtain ⟨v, d, rfl, _⟩ := h
    rfl
  · refine ⟨_, pss_cons (ps_asg (pe_tup (pa_cons pe_non (pa_cons pe_non pa_nil))) (pg_tup rfl (pgs_cons (pg_name (i := 1) scOR.nd rfl (Or.inl rfl)) (pgs_cons (pg_name (i := 2) scOR.nd rfl (Or.inl rfl)) pgs_nil))))
      (pss_cons (ps_try_kept (i := 3) (j := 1) (Wout := fun _ _ _ _ => False) rfl rfl rfl scOR.nd rfl rfl rfl rfl (by rfl) mJ (by rfl) mS (by rfl) mM (fun u s' z => by obtain ⟨_, _, _, _, _, _, _, _, _, _, _, _, _, _, _, _, z⟩ := z; exact z.elim)
        (fun W pn xe tk' _ => pss_one (ps_set (i := 2) scOR.nd rfl (Or.inl rfl) (pe_makeSg MO GI (hr.mono (by decide)) (by rfl) OF.nm bI vds (fun σ => passAt tk' σ) (pa_cons (pv 0) pa_nil)))))
      (pss_cons (ps_if (pt_cmp (pc_notN (pv 1))) (pss_one (ps_ret (pe_and (pe_not (pe_call GL (hr.mono (by decide)) (by rfl) gL FL.kp bL .nil pass0 (pa_cons (pv 0) pa_nil)))
          (pe_and (pe_callB call_isX (by rfl) N.isi (by decide +kernel) (pa_cons (pv 1) (pa_cons (pe_glob (v := .ref (gC K "InvalidNumbers")) (by rfl) CF.nm rfl) pa_nil)))
          (pe_one (pe_cmpR op_eq (pe_callB (call_repr hgu hr SY) (by rfl) N.repr boot_repr (pa_cons (pe_xfd (pv 1)) pa_nil)) (pe_callB (call_repr hgu hr SY) (by rfl) N.repr boot_repr (pa_cons (pv 0) pa_nil)) (nomark _))))))) pss_nil)
      (pss_cons (ps_if (PW.pt (pw_or (pt_not (pt_val (pe_call GL (hr.mono (by decide)) (by rfl) gL FL.kp bL .nil pass0 (pa_cons (pv 0) pa_nil))))
          (pw_or (pt_cmpR (op_neD hr.units) (pe_prop (pv 2) OF.cls PN GN (hr.mono (by decide)) bN .nil pass0 (by rfl)) (pv 0) (nomark _))
          (pw_or1 (pt_cmpR op_ne (pe_prop (pv 2) OF.cls PS' GS (hr.mono (by decide)) bS .nil pass0 (by rfl)) pe_str (nomark _)))))) (pss_one (ps_ret pe_bl)) pss_nil)
      (pss_one (ps_ret (pe_and (pe_cmpR (op_eqD hr.units) (pe_lcY (py_meth0 (pv 2) OF.cls MC YC (hr.mono (by decide)) bC) (hr.mono (by decide)) rfl (by decide +kernel) (by decide +kernel) rfl) (pe_lst pa_nil) (nomark _))
          (pe_and (pe_cmpR (op_eqO (Nat.lt_of_succ_lt (hu_of hr))) (pv 2) (pv 2) (nomark _))
          (pe_one (pe_not (pe_cmpR (op_eqO (Nat.lt_of_succ_lt (hu_of hr))) (pv 2) (pe_makeK0 (E := E0) MO GI (hr.mono (by decide)) (by rfl) OF.nm bK (fun _ _ _ _ _ _ _ z => (no_cx z).elim) (pk_cons (pv 0) pk_nil)) (nomark _))))))))))), ?_⟩
    obtain ⟨v, d, rfl, hv, hf, k⟩ := h
    refine ⟨sz 2 (by decide), fun p0 n0 => ⟨p0, _, rfl, SqT.of upd_same, rfl, _, _, rfl, _, _, rfl, rfl, ?_⟩⟩
    have s0 := same_new (o := .tup [V.non, V.non]) n0
    refine ⟨_, rfl, fun x dx nx nd ne => ?_⟩
    have s1 : Same H (upd (upd (upd H p0 (.tup [V.non, V.non])) dx (.own x)) x (.ins CO dx [])) := s0.tr fun b o e => by
      rw [upd_ne (ne_of_none e nx), upd_ne (ne_of_none e nd)]
      exact e
    refine ⟨x, dx, v, d, rfl, upd_same, sd_to hv s1, hf.fit, fun en H1 s2 => ⟨rfl, ?_⟩, fun en dd H1 nd' s2 hx1 => ⟨true, exm, fun _ => ⟨_, dd, rfl, rfl, fun a na => ?_⟩, fun z => by cases z⟩⟩
    · -- made
      have nx0 : H x = none := none_of s0 (by
        have z := nx
        exact z)
      have sf : Same H (upd H1 x (.ins CO dx [("_numbers", v)])) := same_updN (s1.tr s2) nx0
      obtain ⟨ds', rfl, al⟩ := nums_tuple en
      have hx := upd_same (H := H1) (a := x) (o := .ins CO dx [("_numbers", v)])
      refine ⟨_, rfl, false, rfl, iteF ⟨_, rfl, v, _, rfl, sd_to hv sf, hf.fit, fun H2 s3 => ⟨_, rfl, ?_⟩⟩⟩
      rw [en]
      have hx2 := s3 _ _ hx
      have hv2 := sd_to hv (sf.tr s3)
      refine iteF ⟨_, rfl, x, dx, _, rfl, hx2, x, dx, _, v, rfl, hx2, rfl, _, rfl, _, _, dp_of al hv2, dp_of al hv2, shaped_nums al, shaped_nums al, _, rfl, ?_⟩
      rw [eqv_nums al]
      refine iteF ⟨_, rfl, x, dx, _, rfl, hx2, x, dx, _, rfl, hx2, rfl, rfl, false, rfl, iteF ?_⟩
      refine ⟨[], Nat.zero_le _, _, rfl, x, dx, _, rfl, hx2, rfl, x, dx, _, rfl, hx2, rfl, x, dx, _, rfl, hx2, fun p1 n1 => ⟨p1, rfl, upd_same, fun p2 n2 => ⟨Nat.zero_le _, fun p3 n3 => ?_⟩⟩⟩
      have t1 := same_new (o := .tup []) n1
      have t2 := same_new (o := .lst []) n2
      have t3 := same_new (o := .lst []) n3
      refine ⟨.list [], .list [], .lst (SqL.of (t3 _ _ upd_same)) .nil, .lst (SqL.of upd_same) .nil, by decide, by decide, true, rfl, iteT ?_⟩
      have hx3 := t3 _ _ (t2 _ _ (t1 _ _ hx2))
      have s3' := (sf.tr s3).tr (t1.tr (t2.tr t3))
      refine ⟨_, rfl, _, rfl, x, x, CO, CO, dx, dx, _, _, true, rfl, rfl, hx3, hx3, OF.eqc, OF.eqc, OF.mro, true, by rw [decide_eq_true rfl], iteT ?_⟩
      refine ⟨_, rfl, _, rfl, rfl, rfl, fun y dy ny ndy ney => ?_⟩
      have s4 : Same (upd (upd (upd H2 p1 (.tup [])) p2 (.lst [])) p3 (.lst [])) (upd (upd (upd (upd (upd H2 p1 (.tup [])) p2 (.lst [])) p3 (.lst [])) dy (.own y)) y (.ins CO dy [])) := fun b o e => by
        rw [upd_ne (ne_of_none e ny), upd_ne (ne_of_none e ndy)]
        exact e
      refine ⟨y, dy, v, _, rfl, upd_same, sd_to hv (s3'.tr s4), hf.fit, fun _ H5 s5 => ⟨rfl, ?_⟩, fun z => by rw [en] at z; cases z⟩
      have xy : x ≠ y := fun z => by
        rw [← z, hx3] at ny
        cases ny
      have hx5 : (upd H5 y (.ins CO dy [("_numbers", v)])) x = some (.ins CO dx [("_numbers", v)]) := by
        rw [upd_ne xy]
        exact s5 _ _ (s4 _ _ hx3)
      refine ⟨x, y, CO, CO, dx, dy, _, _, true, rfl, rfl, hx5, upd_same, OF.eqc, OF.eqc, OF.mro, false, by rw [decide_eq_false xy], ?_⟩
      exact k _ (same_updN ((s3'.tr s4).tr s5) (none_of s3' ny))
    · -- the error
      have sf : Same H (upd H1 a (exV a (gC K "InvalidNumbers") dd)) := (s1.tr s2).tr (same_new na)
      have hdd : (upd H1 a (exV a (gC K "InvalidNumbers") dd)) dd = some (.xd [("value", v)]) := same_new na _ _ hx1
      refine ⟨_, rfl, true, rfl, iteT ⟨_, rfl, v, d, rfl, sd_to hv sf, hf.fit, fun H2 s3 => ⟨_, rfl, _, rfl, ?_⟩⟩⟩
      rw [en]
      have ex : ExAt H2 a (gC K "InvalidNumbers") [("value", v)] := ⟨dd, s3 _ _ upd_same, s3 _ _ hdd⟩
      have hv2 := sd_to hv (sf.tr s3)
      have dl : d.depth ≤ 40 := Nat.le_trans hf.dep (by decide)
      have sl := shown_fits hf.show_ (Nat.le_trans hf.wt_ (by decide))
      refine iteT ⟨_, rfl, a, _, _, _, _, true, rfl, ex, CF.xc, fun u r => r, CF.kit, _, rfl, iteT ?_⟩
      refine ⟨_, rfl, a, _, _, v, rfl, ex, CF.xc, CF.no, rfl, v, d, rfl, hv2, hf.show_, dl, sl, _, rfl, v, d, rfl, hv2, hf.show_, dl, sl, rfl, ?_⟩
      rw [decide_eq_true rfl]
      exact k _ (sf.tr s3)
end
end Ky

set_option Elab.async false
set_option linter.all false
set_option maxRecDepth 100000
set_option maxHeartbeats 2000000
namespace Ky
open PySem PySem.Spec PyProof.Rows L2 StX ClX
abbrev sLB : Stmt := top 33
theorem scLB : FnScope ["way", "keys"] ["way", "keys"] (defScope sLB) := ⟨rfl, rfl, rfl, by decide +kernel, rfl, by decide +kernel, by decide +kernel⟩
theorem mkBag_to {K : PySem.W.Frag} {C CK CT : Addr} {ws : List V} {ds : List PyData} {H H1 : Hp} {Q : VK} {E : XK} (s : Same H H1) (m : MkBag K C CK CT ws ds H Q E) : MkBag K C CK CT ws ds H1 Q E := by
  obtain ⟨m1, m2, m3, m4, m5, m6⟩ := m
  exact ⟨sdall_to m1 s, m2, m3, fun ks e1 e2 e3 n H' h2 h3 => m4 ks e1 e2 e3 n H' (s.tr h2) (none_of s h3), fun i v e1 e2 => err_to s (m5 i v e1 e2), fun i v e1 e2 => err_to s (m6 i v e1 e2)⟩
/-- the class Bag -/
structure BagF (P : Program) (w : World) (K : PySem.W.Frag) (mg : Str → Option Value) (C : Addr) : Prop where
  cls : Cls K C
  noM : NoAttr K C "_entries"
  add : ∃ f fd, FnP K "add_members" sAdd f fd ∧ mg "add_members" = some (.ref f)
  asc : ∃ f fd, FnP K "ascending" sAsc f fd ∧ mg "ascending" = some (.ref f)
  nm : mg "Bag" = some (.ref C)
  init : ∃ f fd, Mk K C f ∧ FnM K "__init__" "Bag.__init__" sBagI [] f fd
  of : ∃ mc p g fd, CRead K C mc ∧ CMet K C mc "of" p g ∧ FnM K "of" "Bag.of" sBagOf [] g fd
  mem : ∃ p g fd, PropOf K C "members" p g ∧ FnM K "members" "Bag.members" sBagM [] g fd
  shape : ∃ p g fd u, PropOf K C "shape" p g ∧ FnM K "shape" "Node.shape" sShape [] g fd ∧ Con K C "SHAPE" (.str "bag") u
  kids : ∃ f fd, Meth K C "children" f ∧ FnM K "children" "Node.children" sChildren [] f fd
  cont : ∃ f fd, Meth K C "_contents" f ∧ FnM K "_contents" "Bag._contents" sBagK [] f fd
  eqc : VxS.EqC K C
  mro : PySem.W.mroIn K C (.ref C) = some true
def spLB (K : PySem.W.Frag) (C CK CT : Addr) : Sp := fun vs H Q E => ∃ (way : Int) (l : Addr) (ws : List V) (ds : List PyData), vs = [.int way, .ref l] ∧ SqL K H l ws ∧ MkBag K C CK CT ws ds H Q E
section
variable {P : Program} {w : World} {K : PySem.W.Frag} {mg : Str → Option Value} {base : Heap} {C : Addr}
theorem ok_lb {f : Addr} {fd : FuncData} (F : FnP K "_law_bag" sLB f fd) (N : Nm mg) (T : Ts K mg) (S : Es P w K mg base) (B : BagF P w K mg C) :
    FnOk P w K mg base (L2.CX P w) 8 f fd ["way", "keys"] (spLB K C (gC K "InvalidKey") (gC K "KeyTaken")) := by
  obtain ⟨fI, dI, MB, FI⟩ := B.init
  obtain ⟨mc, pO, gO, dO, rO, cO, FO⟩ := B.of
  have GI : FnR P w K mg base (L2.CX P w) 5 fI (spBagI K C (gC K "InvalidKey") (gC K "KeyTaken")) := ok_bagI B.cls B.noM FI N T S B.add
  have GO : FnOk P w K mg base (L2.CX P w) 7 gO dO ["cls", "members"] (spOf K C (gC K "InvalidKey") (gC K "KeyTaken")) := ok_of FO N S MB GI
  have bO : Binds K dO ["cls", "members"] [] := FO.bindsN fun _ _ _ _ _ _ us hl => match us, hl with | [_, _], _ => rfl
  have kO : ∀ (s : Shared) (ws : List Value), K.In s.heap → ws.length = 1 → BindsTo s dO ⟨[Value.ref C], (["members"] : List Str).zip ws⟩ ((["cls", "members"] : List Str).zip (Value.ref C :: ws)) := fun s ws hK hl => by
    obtain ⟨oc, od, dV, kV, doc, pm, an, cdv, ct, osl, rfl, lk, hcd, hD, hK'⟩ := FO.ex
    obtain rfl : dV = .none := hD.elim (fun z => z.2) fun z => absurd rfl z.1
    match ws, hl with
    | [_], _ => exact .of_eq rfl
  refine F.ok scLB (fun vs H Q E h => ?_) (fun cdv A outer s H vs Q E hr h => ?_)
  · obtain ⟨v, d, ws, ds, rfl, _⟩ := h
    rfl
  · have tk : Takes (cxOf (L2.CX P w) P w K mg base ["way", "keys"] "_law_bag" (defScope sLB) f cdv A outer s H E) (fun cls d _ H => E cls d H) := takes_of rfl rfl rfl rfl
    refine ⟨_, pss_cons (ps_if (PW.pt (pw_or (pt_cmpR op_eq (pv 0) pe_int (nomark _)) (pw_or1 (pt_cmpR op_gt (pe_callB call_len (by rfl) N.len PySem.boot_len (pa_cons (pv 1) pa_nil)) pe_int (nomark _)))))
        (pss_one (ps_ret (pe_ifExp (pt_cmpR op_eq (pv 0) pe_int (nomark _))
          (pe_cmethSg (E := fun _ => E) (pe_glob (v := .ref C) (by rfl) B.nm rfl) rO cO GO hr bO (fun σ => passAt tk σ) (pa_cons (pe_callTy call_tuple_of (by rfl) N.tuple (by decide +kernel) (pa_cons (pv 1) pa_nil)) pa_nil))
          (pe_cmethK (gv := fun ws => ws) (gV := fun zs => zs) (ks := ["members"]) (pe_glob (v := .ref C) (by rfl) B.nm rfl) rO cO GO hr (passes_call tk fun _ _ _ _ h => h) kO (fun r => r) (pk_cons (pe_callTy call_tuple_of (by rfl) N.tuple (by decide +kernel) (pa_cons (pv 1) pa_nil)) pk_nil))))) pss_nil)
      (pss_cons (ps_if (pt_cmpR op_lt (pe_callB call_len (by rfl) N.len PySem.boot_len (pa_cons (pv 1) pa_nil)) pe_int (nomark _))
        (pss_one (ps_ret (pe_ifExp (pt_cmpR (op_eqN (Nat.lt_of_succ_lt (hu_of hr))) (pv 1) (pe_lst pa_nil) (nomark _))
          (pe_makeR0 MB GI (hr.mono (by decide)) (by rfl) B.nm (passes_call tk fun _ _ _ _ h => h))
          (pe_makeR MB GI (hr.mono (by decide)) (by rfl) B.nm (passes_call tk fun _ _ _ _ h => h) (pa_cons (pe_ix ix_list (pv 1) pe_int (fun _ _ => rfl)) pa_nil))))) pss_nil)
      (pss_one (ps_ret (pe_ifExp (pt_cmpR op_eq (pe_callB call_len (by rfl) N.len PySem.boot_len (pa_cons (pv 1) pa_nil)) pe_int (nomark _))
        (pe_makeR MB GI (hr.mono (by decide)) (by rfl) B.nm (passes_call tk fun _ _ _ _ h => h) (pa_cons (pe_ix ix_list (pv 1) pe_int (fun _ _ => rfl)) (pa_cons (pe_ix ix_list (pv 1) pe_int (fun _ _ => rfl)) pa_nil)))
        (pe_makeR MB GI (hr.mono (by decide)) (by rfl) B.nm (passes_call tk fun _ _ _ _ h => h) (pa_cons (pe_ix ix_list (pv 1) pe_int (fun _ _ => rfl)) (pa_cons (pe_ix ix_list (pv 1) pe_int (fun _ _ => rfl)) (pa_cons (pe_ix ix_list (pv 1) pe_int (fun _ _ => rfl)) pa_nil)))))))), ?_⟩
    obtain ⟨way, l, ws, ds, rfl, hq, m⟩ := h
    have viaT : ∀ t, H t = none → spOf K C (gC K "InvalidKey") (gC K "KeyTaken") [.ref C, .ref t] (upd H t (.tup ws)) Q E := fun t nt =>
      ⟨.ref t, .tuple ds, rfl, .tup (SqT.of upd_same) (sdall_to m.1 (same_new nt)), .inr ⟨t, ws, ds, rfl, rfl, SqT.of upd_same, mkBag_to (same_new nt) m⟩⟩
    by_cases e0 : V.int way = V.int 0
    · refine ⟨_, rfl, rfl, true, by rw [decide_eq_true e0], iteT ?_⟩
      exact iteT ⟨_, rfl, rfl, true, by rw [decide_eq_true e0], iteT ⟨rfl, _, rfl, l, ws, rfl, .inl ⟨hq, fun t nt => viaT t nt⟩⟩⟩
    · refine ⟨_, rfl, rfl, false, by rw [decide_eq_false e0], iteF ?_⟩
      refine ⟨_, rfl, _, ws.length, rfl, .inl ⟨ws, hq, rfl⟩, _, _, rfl, rfl, _, rfl, ?_⟩
      by_cases c : (3 : Int) < (ws.length : Int)
      · rw [decide_eq_true c]
        exact iteT ⟨_, rfl, rfl, false, by rw [decide_eq_false e0], iteF ⟨rfl, _, rfl, l, ws, rfl, .inl ⟨hq, fun t nt => ⟨rfl, viaT t nt⟩⟩⟩⟩
      · rw [decide_eq_false c]
        refine iteF ⟨_, rfl, _, ws.length, rfl, .inl ⟨ws, hq, rfl⟩, _, _, rfl, rfl, _, rfl, ?_⟩
        match ws, hq, m, c with
        | [], hq, m, _ =>
          refine iteT ⟨_, rfl, Nat.zero_le _, fun q nq => ⟨l, q, [], rfl, rfl, (same_new nq).seq hq, SqL.of upd_same, _, rfl, iteT ?_⟩⟩
          exact fun n dx hn hd ne => mkBag (mkBag_to (same_new nq) m) n dx hn hd ne
        | [a], hq, m, _ =>
          refine iteT ⟨_, rfl, Nat.zero_le _, fun q nq => ⟨l, q, [a], rfl, rfl, (same_new nq).seq hq, SqL.of upd_same, _, rfl, iteF ?_⟩⟩
          exact ⟨_, rfl, l, _, 0, _, rfl, rfl, (same_new nq).seq hq, at_of (j := 0) rfl rfl, fun n dx hn hd ne => mkBag (mkBag_to (same_new nq) m) n dx hn hd ne⟩
        | [a, b], hq, m, _ =>
          refine iteF ⟨_, rfl, _, 2, rfl, .inl ⟨_, hq, rfl⟩, rfl, _, rfl, iteT ?_⟩
          exact ⟨_, rfl, l, _, 0, _, rfl, rfl, hq, at_of (j := 0) rfl rfl, _, rfl, l, _, 1, _, rfl, rfl, hq, at_of (j := 1) rfl rfl, fun n dx hn hd ne => mkBag m n dx hn hd ne⟩
        | [a, b, d], hq, m, _ =>
          refine iteF ⟨_, rfl, _, 3, rfl, .inl ⟨_, hq, rfl⟩, rfl, _, rfl, iteF ?_⟩
          exact ⟨_, rfl, l, _, 0, _, rfl, rfl, hq, at_of (j := 0) rfl rfl, _, rfl, l, _, 1, _, rfl, rfl, hq, at_of (j := 1) rfl rfl, _, rfl, l, _, 2, _, rfl, rfl, hq, at_of (j := 2) rfl rfl, fun n dx hn hd ne => mkBag m n dx hn hd ne⟩
        | _ :: _ :: _ :: _ :: r, _, _, c =>
          exact absurd (by simp only [List.length_cons]; omega) c
end
end Ky

set_option Elab.async false
set_option linter.all false
set_option maxRecDepth 100000
set_option maxHeartbeats 2000000
namespace Ky
open PySem PySem.Spec PyProof.Rows L2 StX ClX
abbrev sLW : Stmt := top 35
abbrev NW : List Str := ["what", "caught", "e"]
theorem scLW : FnScope NW ["what"] (defScope sLW) := ⟨rfl, rfl, rfl, by decide +kernel, rfl, by decide +kernel, by decide +kernel⟩
def spLW (K : PySem.W.Frag) : Sp := fun vs H Q _ => ∃ (v : V) (d : PyData), vs = [v] ∧ Sd K H v d ∧ isD d "tuple" = false ∧ ∀ p H', Same H H' → H' p = some (.lst [.str "key", v]) → Q (.ref p) H'
section
variable {P : Program} {w : World} {K : PySem.W.Frag} {mg : Str → Option Value} {base : Heap} {C : Addr}
theorem ok_lw {f : Addr} {fd : FuncData} (F : FnP K "_law_word" sLW f fd) (N : Nm mg) (T : Ts K mg) (S : Es P w K mg base) (B : BagF P w K mg C) (CF : CatchF K mg (gC K "InvalidKey") "InvalidKey" "key") :
    FnOk P w K mg base CX0 8 f fd ["what"] (spLW K) := by
  obtain ⟨fI, dI, MB, FI⟩ := B.init
  obtain ⟨mc, pO, gO, dO, rO, cO, FO⟩ := B.of
  obtain ⟨CJ, CSt, CM, mJ, mS, mM, exm⟩ := CF.fam
  have GI : FnR P w K mg base (L2.CX P w) 5 fI (spBagI K C (gC K "InvalidKey") (gC K "KeyTaken")) := ok_bagI B.cls B.noM FI N T S B.add
  have GO : FnOk P w K mg base (L2.CX P w) 7 gO dO ["cls", "members"] (spOf K C (gC K "InvalidKey") (gC K "KeyTaken")) := ok_of FO N S MB GI
  have bO : Binds K dO ["cls", "members"] [] := FO.bindsN fun _ _ _ _ _ _ us hl => match us, hl with | [_, _], _ => rfl
  refine F.ok scLW (fun vs H Q E h => ?_) (fun cdv A outer s H vs Q E hr h => ?_)
  · obtain ⟨v, d, rfl, _⟩ := h
    rfl
  · refine ⟨_, pss_cons (ps_set (i := 1) scLW.nd rfl (Or.inl rfl) pe_non)
      (pss_cons (ps_try_kept (i := 2) (j := 1) (Wout := fun _ _ _ _ => False) rfl rfl rfl scLW.nd rfl rfl rfl rfl (by rfl) mJ (by rfl) mS (by rfl) mM (fun u s' z => by obtain ⟨_, _, _, _, _, _, _, _, _, _, _, _, _, _, _, _, z⟩ := z; exact z.elim)
        (fun W pn xe tk' _ => pss_one (ps_expr (pe_cmethSg (E := WE W) (pe_glob (v := .ref C) (by rfl) B.nm rfl) rO cO GO hr bO (fun σ => passAt tk' σ) (pa_cons (pv 0) pa_nil)))))
      (pss_one (ps_ret (pe_ifExp (pt_val (pe_callB call_isX (by rfl) N.isi (by decide +kernel) (pa_cons (pv 1) (pa_cons (pe_glob (v := .ref (gC K "InvalidKey")) (by rfl) CF.nm rfl) pa_nil))))
        (pe_lst (pa_cons pe_str (pa_cons (pe_xfd (pv 1)) pa_nil))) (pe_lst (pa_cons pe_str pa_nil)))))), ?_⟩
    obtain ⟨v, d, rfl, hv, ht, k⟩ := h
    refine ⟨rfl, _, rfl, v, d, rfl, hv, .inl ⟨ht, fun dd H1 nd' s2 hx1 => ⟨true, exm, fun _ => ⟨_, dd, rfl, rfl, fun a na => ?_⟩, fun z => by cases z⟩⟩⟩
    have s3 := same_new (o := exV a (gC K "InvalidKey") dd) na
    have ex : ExAt (upd H1 a (exV a (gC K "InvalidKey") dd)) a (gC K "InvalidKey") [("key", v)] := ⟨dd, upd_same, s3 _ _ hx1⟩
    refine ⟨_, rfl, a, _, _, _, _, true, rfl, ex, CF.xc, fun u r => r, CF.kit, _, rfl, iteT ?_⟩
    exact ⟨_, rfl, a, _, _, v, rfl, ex, CF.xc, CF.no, rfl, sz 2 (by decide), fun p np => k p _ ((s2.tr s3).tr (same_new np)) upd_same⟩
end
end Ky

set_option Elab.async false
set_option linter.all false
set_option maxRecDepth 100000
set_option maxHeartbeats 2000000
namespace Ky
open PySem PySem.Spec PyProof.Rows L2 StX ClX
theorem ints_one {a b : List Int} (p : a.Perm b) (ha : a.Pairwise (· ≤ ·)) (hb : b.Pairwise (· ≤ ·)) : a = b :=
  List.Perm.eq_of_pairwise (le := (· ≤ ·)) (fun x y _ _ h1 h2 => Int.le_antisymm h1 h2) ha hb p
def leS (a b : Str) : Prop := a.cps.toList ≤ b.cps.toList
theorem leS_of {x p : Str} (h : (!ltCps x.cps.toList p.cps.toList) = true) : leS p x := by
  rw [ltCps_eq] at h
  intro z
  rw [decide_eq_true z] at h
  cases h
theorem rising_pair : ∀ (r : List Str) (p : Str), risingS p r = true → (∀ y ∈ r, leS p y) ∧ r.Pairwise leS
  | [], _, _ => ⟨fun _ m => (List.not_mem_nil m).elim, .nil⟩
  | x :: r, p, h => by
    have z : (!ltCps x.cps.toList p.cps.toList && risingS x r) = true := h
    obtain ⟨z1, z2⟩ := Bool.and_eq_true_iff.mp z
    obtain ⟨a, b⟩ := rising_pair r x z2
    refine ⟨fun y m => ?_, .cons a b⟩
    rcases List.mem_cons.mp m with m | m
    · rw [m]
      exact leS_of z1
    · exact List.le_trans (leS_of z1) (a y m)
theorem sorted_pair {l : List Str} (h : sortedS l = true) : l.Pairwise leS := by
  cases l with
  | nil => exact .nil
  | cons x r =>
    obtain ⟨a, b⟩ := rising_pair r x h
    exact .cons a b
theorem leS_anti {x y : Str} (h1 : leS x y) (h2 : leS y x) : x = y := by
  have z : x.cps.toList = y.cps.toList := List.le_antisymm h1 h2
  cases x
  cases y
  congr 1
  exact Array.toList_inj.mp z
theorem texts_one {a b : List Str} (p : a.Perm b) (ha : sortedS a = true) (hb : sortedS b = true) : a = b :=
  List.Perm.eq_of_pairwise (le := leS) (fun x y _ _ h1 h2 => leS_anti h1 h2) (sorted_pair ha) (sorted_pair hb) p
/-- the ascending list is one -/
theorem asc_one {ks : List Key} {rs : List V} {is : List Int} {xs : List Str} (h : Asc ks rs) (p1 : is.Perm (intsOf ks)) (o1 : is.Pairwise (· ≤ ·)) (p2 : xs.Perm (strsOf ks)) (o2 : sortedS xs = true) : rs = is.map V.int ++ xs.map V.str := by
  obtain ⟨js, ys, rfl, q1, r1, q2, r2⟩ := h
  rw [ints_one (q1.trans p1.symm) r1 o1, texts_one (q2.trans p2.symm) r2 o2]
theorem keyD_inj {j k : Key} (h : keyD j = keyD k) : j = k := by
  cases j with
  | inl a =>
    cases k with
    | inl b =>
      cases h
      rfl
    | inr b => cases h
  | inr a =>
    cases k with
    | inl b => cases h
    | inr b =>
      cases h
      rfl
theorem keys_perm : ∀ ks : List Key, ks.Perm ((intsOf ks).map Sum.inl ++ (strsOf ks).map Sum.inr)
  | [] => .nil
  | .inl i :: r => (keys_perm r).cons (Sum.inl i)
  | .inr x :: r => ((keys_perm r).cons (Sum.inr x)).trans (by
      show (Sum.inr x :: ((intsOf r).map Sum.inl ++ (strsOf r).map Sum.inr)).Perm ((intsOf r).map Sum.inl ++ Sum.inr x :: (strsOf r).map Sum.inr)
      exact List.perm_middle.symm)
/-- the keys of the ascending list -/
def ascK (is : List Int) (xs : List Str) : List Key := is.map Sum.inl ++ xs.map Sum.inr
theorem asc_perm {ks : List Key} {is : List Int} {xs : List Str} (p1 : is.Perm (intsOf ks)) (p2 : xs.Perm (strsOf ks)) : (ascK is xs).Perm ks :=
  (List.Perm.append (p1.map Sum.inl) (p2.map Sum.inr)).trans (keys_perm ks).symm
theorem ascK_vals (is : List Int) (xs : List Str) : (ascK is xs).map kV = is.map V.int ++ xs.map V.str := by
  unfold ascK
  rw [List.map_append, List.map_map, List.map_map]
  rfl
/-- what ascending gives, as keys -/
theorem asc_keys {ks : List Key} {rs : List V} {is : List Int} {xs : List Str} (h : Asc ks rs) (p1 : is.Perm (intsOf ks)) (o1 : is.Pairwise (· ≤ ·)) (p2 : xs.Perm (strsOf ks)) (o2 : sortedS xs = true) : rs = (ascK is xs).map kV := by
  rw [ascK_vals]
  exact asc_one h p1 o1 p2 o2
theorem sd_keys {K : PySem.W.Frag} {H : Hp} : ∀ ks : List Key, SdAll K H (ks.map kV) (allKeys ks)
  | [] => .nil
  | k :: r => .cons (sd_key k) (sd_keys r)
/-- unlike keys: nothing is due -/
theorem due_noneA : ∀ (ks seen : List Key) (n : Nat), (∀ k ∈ ks, isK (keyD k) = true) → (seen ++ ks).Nodup → due seen n (allKeys ks) = none
  | [], _, _, _, _ => rfl
  | k :: r, seen, n, h, nd => by
    have e : keyOf (keyD k) = some k := by
      obtain ⟨j, ej⟩ := keyOf_of (h k (List.mem_cons_self ..))
      have z := (keyOf_some ej).1
      rw [ej, keyD_inj z]
    have na : (seen.any fun j => decide (j = k)) = false := by
      rw [Bool.eq_false_iff]
      intro z
      obtain ⟨j, mj, ej⟩ := List.any_eq_true.mp z
      have q := of_decide_eq_true ej
      subst q
      exact (List.nodup_append.mp nd).2.2 j mj j (List.mem_cons_self ..) rfl
    show due seen n (keyD k :: allKeys r) = none
    simp only [due, e, na]
    have ih := due_noneA r (seen ++ [k]) (n + 1) (fun j m => h j (List.mem_cons_of_mem _ m)) (by rw [List.append_assoc]; exact nd)
    exact ih
end Ky

set_option Elab.async false
set_option linter.all false
set_option maxRecDepth 100000
set_option maxHeartbeats 4000000
namespace Ky
open PySem PySem.Spec PyProof.Rows L2 StX ClX
abbrev sBR : Stmt := top 34
abbrev NB : List Str := ["way", "keys", "caught", "found", "due", "e", "word", "low", "rows", "one"]
theorem scBR : FnScope NB ["way", "keys"] (defScope sBR) := ⟨rfl, rfl, rfl, by decide +kernel, rfl, by decide +kernel, by decide +kernel⟩
/-- the two errors of a Bag -/
structure BagE (K : PySem.W.Frag) (mg : Str → Option Value) : Prop where
  key : CatchF K mg (gC K "InvalidKey") "InvalidKey" "key"
  taken : CatchF K mg (gC K "KeyTaken") "KeyTaken" "key"
  no : PySem.W.kitOne K (.ref (gC K "KeyTaken")) (.ref (gC K "InvalidKey")) = some false
theorem pair_ok {x : Str} {d : PyData} (hx : wt (.str x) ≤ 100) (h : Fine 20100 d) : (PyData.list [.str x, d]).showable = true ∧ (PyData.list [.str x, d]).depth ≤ 40 ∧ (PyData.list [.str x, d]).shown.length ≤ sizeLine := by
  have a : (PyData.list [.str x, d]).showable = true := by
    show (true && (d.showable && true)) = true
    rw [h.show_]
    rfl
  refine ⟨a, ?_, shown_fits a ?_⟩
  · show max 0 (max d.depth 0) + 1 ≤ 40
    have := h.dep
    omega
  · show wt (.str x) + 2 + (wt d + 2 + 0) + 2 ≤ sizeLine
    have := h.wt_
    exact Nat.le_trans (m := 21000) (by omega) (by decide)
theorem pair_okW {x : Str} {d : PyData} (hx : wt (.str x) ≤ 100) (h1 : d.showable = true) (h2 : d.depth ≤ 30) (h3 : wt d ≤ 1000000) : (PyData.list [.str x, d]).showable = true ∧ (PyData.list [.str x, d]).depth ≤ 40 ∧ (PyData.list [.str x, d]).shown.length ≤ sizeLine := by
  have a : (PyData.list [.str x, d]).showable = true := by
    show (true && (d.showable && true)) = true
    rw [h1]
    rfl
  refine ⟨a, ?_, shown_fits a ?_⟩
  · show max 0 (max d.depth 0) + 1 ≤ 40
    omega
  · show wt (.str x) + 2 + (wt d + 2 + 0) + 2 ≤ sizeLine
    exact Nat.le_trans (m := 1001000) (by omega) (by decide)
theorem all_ok : ∀ {ds : List PyData}, (∀ d ∈ ds, Fine 20100 d) → PyData.showableAll ds = true ∧ PyData.depthAll ds ≤ 9 ∧ wtAll ds ≤ 20102 * ds.length
  | [], _ => ⟨rfl, Nat.zero_le _, Nat.le_refl _⟩
  | d :: r, h => by
    obtain ⟨a, b, c⟩ := all_ok fun e m => h e (List.mem_cons_of_mem _ m)
    have z := h d (List.mem_cons_self ..)
    refine ⟨?_, ?_, ?_⟩
    · show (d.showable && PyData.showableAll r) = true
      rw [z.show_, a]
      rfl
    · show max d.depth (PyData.depthAll r) ≤ 9
      exact Nat.max_le.mpr ⟨z.dep, b⟩
    · show wt d + 2 + wtAll r ≤ 20102 * (r.length + 1)
      have := z.wt_
      omega
theorem tup_ok {ds : List PyData} (h : ∀ d ∈ ds, Fine 20100 d) (hl : ds.length ≤ 100) : (PyData.tuple ds).showable = true ∧ (PyData.tuple ds).depth ≤ 40 ∧ (PyData.tuple ds).shown.length ≤ sizeLine := by
  obtain ⟨a, b, c⟩ := all_ok h
  refine ⟨a, ?_, shown_fits a ?_⟩
  · show PyData.depthAll ds + 1 ≤ 40
    omega
  · show wtAll ds + 3 ≤ sizeLine
    exact Nat.le_trans (m := 2100000) (by omega) (by decide)
theorem lst_ok {ds : List PyData} (h : ∀ d ∈ ds, Fine 20100 d) (hl : ds.length ≤ 100) : (PyData.list ds).showable = true ∧ (PyData.list ds).depth ≤ 40 ∧ (PyData.list ds).shown.length ≤ sizeLine := by
  obtain ⟨a, b, c⟩ := all_ok h
  refine ⟨a, ?_, shown_fits a ?_⟩
  · show PyData.depthAll ds + 1 ≤ 40
    omega
  · show wtAll ds + 2 ≤ sizeLine
    exact Nat.le_trans (m := 2100000) (by omega) (by decide)
def spBR (K : PySem.W.Frag) : Sp := fun vs H Q _ => ∃ (way : Int) (l : Addr) (ws : List V) (ds : List PyData), vs = [.int way, .ref l] ∧ SqL K H l ws ∧ SdAll K H ws ds ∧ ws.length ≤ 60 ∧ (∀ d ∈ ds, fits d ∧ Fine 20100 d) ∧ ∀ H', Same H H' → Q (.bl true) H'
section
variable {P : Program} {w : World} {K : PySem.W.Frag} {mg : Str → Option Value} {base : Heap} {C : Addr}
theorem ok_br {f : Addr} {fd : FuncData} (F : FnP K "_law_bag_right" sBR f fd) (N : Nm mg) (T : Ts K mg) (S : Es P w K mg base) (SY : SysK K) (B : BagF P w K mg C) (EF : BagE K mg)
    (lk : ∃ f fd, FnP K "_law_is_key" sLKey f fd ∧ mg "_law_is_key" = some (.ref f)) (LD : ∃ f fd, FnP K "_law_due" sDue f fd ∧ mg "_law_due" = some (.ref f)) (LB : ∃ f fd, FnP K "_law_bag" sLB f fd ∧ mg "_law_bag" = some (.ref f)) :
    FnG P w K mg base CX0 10 f fd ["way", "keys"] (spBR K) := by
  obtain ⟨fI, dI, MB, FI⟩ := B.init
  obtain ⟨mc, pO, gO, dO, rO, cO, FO⟩ := B.of
  obtain ⟨pM, gM, dM, PM, FM⟩ := B.mem
  obtain ⟨pS, gS, dS, uS, PS', FS, CS⟩ := B.shape
  obtain ⟨fC, dC, MC, FC⟩ := B.kids
  obtain ⟨f0, d0, M0, F0⟩ := B.cont
  obtain ⟨fD, dD, FD, gD⟩ := LD
  obtain ⟨fB, dB, FB, gB⟩ := LB
  obtain ⟨CJ, CSt, CM, mJ, mS, mM, exm⟩ := EF.key.fam
  have exm2 : PySem.W.exmAny K (.ref (gC K "KeyTaken")) [.ref CJ, .ref CSt, .ref CM] = some true := by
    obtain ⟨CJ', CS', CM', mJ', mS', mM', z⟩ := EF.taken.fam
    rw [mJ] at mJ'
    rw [mS] at mS'
    rw [mM] at mM'
    cases mJ'
    cases mS'
    cases mM'
    exact z
  have GI : FnR P w K mg base (L2.CX P w) 5 fI (spBagI K C (gC K "InvalidKey") (gC K "KeyTaken")) := ok_bagI B.cls B.noM FI N T S B.add
  have GO : FnOk P w K mg base (L2.CX P w) 7 gO dO ["cls", "members"] (spOf K C (gC K "InvalidKey") (gC K "KeyTaken")) := ok_of FO N S MB GI
  have bO : Binds K dO ["cls", "members"] [] := FO.bindsN fun _ _ _ _ _ _ us hl => match us, hl with | [_, _], _ => rfl
  have GM : FnOk P w K mg base CX0 3 gM dM ["self"] (spMem C) := ok_bagM B.cls B.noM FM N T B.asc
  have bM : Binds K dM ["self"] [] := FM.bindsN fun _ _ _ _ _ _ us hl => match us, hl with | [_], _ => rfl
  have GS : FnOk P w K mg base CX0 1 gS dS ["self"] (spShape C "bag") := ok_shape B.cls CS FS
  have bS : Binds K dS ["self"] [] := FS.bindsN fun _ _ _ _ _ _ us hl => match us, hl with | [_], _ => rfl
  have G0 : FnOk P w K mg base CX0 5 f0 d0 ["self"] (spMem C) := ok_bagK B.cls PM F0 GM bM
  have b0 : Binds K d0 ["self"] [] := F0.bindsN fun _ _ _ _ _ _ us hl => match us, hl with | [_], _ => rfl
  have bC : Binds K dC ["self"] [] := FC.bindsN fun _ _ _ _ _ _ us hl => match us, hl with | [_], _ => rfl
  have YC : YDef P w K mg base 6 fC dC ["self"] (spKids C (spMem C)) := ok_kids B.cls M0 FC G0 b0 fun vs H Q Q' E h z => spMem_mono h z
  have GD : FnOk P w K mg base CX0 2 fD dD ["keys"] (spDue K) := ok_due FD N lk
  have bD : Binds K dD ["keys"] [] := FD.bindsN fun _ _ _ _ _ _ us hl => match us, hl with | [_], _ => rfl
  have GB : FnOk P w K mg base (L2.CX P w) 8 fB dB ["way", "keys"] (spLB K C (gC K "InvalidKey") (gC K "KeyTaken")) := ok_lb FB N T S B
  have bB : Binds K dB ["way", "keys"] [] := FB.bindsN fun _ _ _ _ _ _ us hl => match us, hl with | [_, _], _ => rfl
  refine F.okG scBR (fun vs H Q E h => ?_) (fun cdv A outer s H vs Q E hgu hr h => ?_)
  · obtain ⟨way, l, ws, ds, rfl, _⟩ := h
    rfl
  · have hu1 := Nat.lt_of_succ_lt (hu_of hr)
    refine ⟨_, pss_cons (ps_par3 (i := 2) (j := 3) (l := 4) rfl scBR.nd rfl rfl rfl (by decide) (by decide) (by decide) rfl rfl rfl (pa_cons pe_non (pa_cons pe_non (pa_cons (pe_call GD (hr.mono (by decide)) (by rfl) gD FD.kp bD .nil pass0 (pa_cons (pv 1) pa_nil)) pa_nil))) (by rfl))
      (pss_cons (ps_try_kept (i := 5) (j := 2) (Wout := fun _ _ _ _ => False) rfl rfl rfl scBR.nd rfl rfl rfl rfl (by rfl) mJ (by rfl) mS (by rfl) mM (fun u s' z => by obtain ⟨_, _, _, _, _, _, _, _, _, _, _, _, _, _, _, _, z⟩ := z; exact z.elim)
        (fun W pn xe tk' _ => pss_one (ps_set (i := 3) scBR.nd rfl (Or.inl rfl) (pe_callS (E := WE W) GB (hr.mono (by decide)) (by rfl) gB FB.kp bB (fun σ => passAt tk' σ) (pa_cons (pv 0) (pa_cons (pv 1) pa_nil))))))
      (pss_cons (ps_if (pt_cmp (pc_notN (pv 2)))
        (pss_cons (ps_set (i := 6) scBR.nd rfl (Or.inl rfl) (pe_ifExp (pt_val (pe_callB call_isX (by rfl) N.isi (by decide +kernel) (pa_cons (pv 2) (pa_cons (pe_glob (v := .ref (gC K "InvalidKey")) (by rfl) EF.key.nm rfl) pa_nil)))) pe_str
            (pe_ifExp (pt_val (pe_callB call_isX (by rfl) N.isi (by decide +kernel) (pa_cons (pv 2) (pa_cons (pe_glob (v := .ref (gC K "KeyTaken")) (by rfl) EF.taken.nm rfl) pa_nil)))) pe_str pe_str)))
        (pss_one (ps_ret (pe_and (pe_cmpR (op_neN hu1) (pv 4) (pe_lst pa_nil) (nomark _))
          (pe_one (pe_cmpR op_eq (pe_callB (call_repr hgu hr SY) (by rfl) N.repr boot_repr (pa_cons (pe_lst (pa_cons (pv 6) (pa_cons (pe_xfd (pv 2)) pa_nil))) pa_nil)) (pe_callB (call_repr hgu hr SY) (by rfl) N.repr boot_repr (pa_cons (pv 4) pa_nil)) (nomark _))))))) pss_nil)
      (pss_cons (ps_set (i := 7) scBR.nd rfl (Or.inl rfl) (pe_callB cr_sorted (by rfl) N.sorted (by decide +kernel) (pa_cons (pe_lc (own := [("one", 9)]) (g := gName 9) rfl scBR.nd (pi_list (pv 1)) (blkOk_by (own := [("one", 9)]) (N := NB) (sc := defScope sBR) (by decide +kernel))
          (fun _ _ _ _ _ => pg_name (i := 9) scBR.nd rfl (Or.inl rfl)) (fun _ _ _ _ _ => pts_one (pt_val (pe_callB (id := "isinstance") (r := rIsD K) call_isD (by rfl) N.isi (by decide +kernel) (pa_cons (pv 9) (pa_cons (pe_bltn (v := .ty "int") (by rfl) N.int (by decide +kernel) rfl) pa_nil))))) (fun _ _ _ _ _ => pv 9)) pa_nil)))
      (pss_cons (ps_set (i := 8) scBR.nd rfl (Or.inl rfl) (pe_op op_cat (pv 7) (pe_callB cr_sortedS (by rfl) N.sorted (by decide +kernel) (pa_cons (pe_lc (own := [("one", 9)]) (g := gName 9) rfl scBR.nd (pi_list (pv 1)) (blkOk_by (own := [("one", 9)]) (N := NB) (sc := defScope sBR) (by decide +kernel))
          (fun _ _ _ _ _ => pg_name (i := 9) scBR.nd rfl (Or.inl rfl)) (fun _ _ _ _ _ => pts_one (pt_val (pe_callB (id := "isinstance") (r := rIsD K) call_isD (by rfl) N.isi (by decide +kernel) (pa_cons (pv 9) (pa_cons (pe_bltn (v := .ty "str") (by rfl) N.str (by decide +kernel) rfl) pa_nil))))) (fun _ _ _ _ _ => pv 9)) pa_nil))))
      (pss_cons (ps_if (PW.pt (pw_or (pt_cmpR (op_neN hu1) (pv 4) (pe_lst pa_nil) (nomark _))
          (pw_or (pt_cmpR op_ne (pe_callB (call_repr hgu hr SY) (by rfl) N.repr boot_repr (pa_cons (pe_prop (pv 3) B.cls PM GM (hr.mono (by decide)) bM .nil pass0 (by rfl)) pa_nil)) (pe_callB (call_repr hgu hr SY) (by rfl) N.repr boot_repr (pa_cons (pe_callTy call_tuple_of (by rfl) N.tuple (by decide +kernel) (pa_cons (pv 8) pa_nil)) pa_nil)) (nomark _))
          (pw_or1 (pt_cmpR op_ne (pe_prop (pv 3) B.cls PS' GS (hr.mono (by decide)) bS .nil pass0 (by rfl)) pe_str (nomark _)))))) (pss_one (ps_ret pe_bl)) pss_nil)
      (pss_one (ps_ret (pe_and (pe_cmpR op_eq (pe_callB (call_repr hgu hr SY) (by rfl) N.repr boot_repr (pa_cons (pe_lcY (py_meth0 (pv 3) B.cls MC YC (hr.mono (by decide)) bC) (hr.mono (by decide)) rfl (by decide +kernel) (by decide +kernel) rfl) pa_nil)) (pe_callB (call_repr hgu hr SY) (by rfl) N.repr boot_repr (pa_cons (pv 8) pa_nil)) (nomark _))
          (pe_one (pe_not (pe_cmpR (op_eqO hu1) (pv 3) (pe_cmethSg (E := fun _ => E0) (pe_glob (v := .ref C) (by rfl) B.nm rfl) rO cO GO (hr.mono (by decide)) bO (fun σ _ _ _ _ _ _ z => (no_cx z).elim) (pa_cons (pe_prop (pv 3) B.cls PM GM (hr.mono (by decide)) bM .nil pass0 (by rfl)) pa_nil)) (nomark _)))))))))))), ?_⟩
    obtain ⟨way, l, ws, ds, rfl, hq, hs, hl, hf, k⟩ := h
    refine ⟨_, rfl, l, ws, ds, rfl, hq, hs, hl, fun d m => (hf d m).1, fun q H1 s1 nq dq => ⟨_, _, _, rfl, ?_⟩⟩
    refine ⟨_, rfl, _, rfl, way, l, ws, ds, rfl, s1.seq hq, sdall_to hs s1, hl, fun d m => (hf d m).1, fun ks e1 e2 e3 n H2 s2 nn ba => ?_,
      fun i v e1 e2 dd H2 nd' s2 hx => ⟨true, exm, fun _ => ⟨_, dd, rfl, rfl, fun a na => ?_⟩, fun z => by cases z⟩, fun i v e1 e2 dd H2 nd' s2 hx => ⟨true, exm2, fun _ => ⟨_, dd, rfl, rfl, fun a na => ?_⟩, fun z => by cases z⟩⟩
    · -- made
      subst e2
      rw [e1] at dq
      obtain rfl : ws = ks.map kV := sd_keysV hs
      rw [List.length_map] at hl
      obtain ⟨dx, pm, hn, hpm⟩ := ba
      have hk : ∀ kk ∈ ks, isK (keyD kk) = true := fun kk m => due_keys e1 _ (List.mem_map.mpr ⟨kk, m, rfl⟩)
      have hkk : KeysOk ks := ⟨hl, hk⟩
      have s12 := s1.tr s2
      have hdq := s2 _ _ dq
      refine ⟨_, rfl, false, rfl, iteF ?_⟩
      -- low
      refine ⟨_, rfl, l, rfl, ⟨_, s12.seq hq⟩, fun D nD => lc_it walk_list (fun i H' => Same H2 H' ∧ H' D = some (.lst ((intsOf (ks.take i)).map V.int))) ⟨same_new nD, upd_same⟩ (fun i H' _ z => z.1.seq (s12.seq hq)) ?_ ?_⟩
      · rintro i x H' H'' hi ⟨s3, hD⟩ ⟨rfl, hx⟩
        rw [List.getElem?_map] at hx
        obtain ⟨kk, ek, rfl⟩ := Option.map_eq_some_iff.mp hx
        refine ⟨rfl, ?_⟩
        refine ⟨_, rfl, kV kk, keyD kk, "int", rfl, rfl, sd_key kk, _, rfl, ?_⟩
        cases kk with
        | inl z =>
          refine iteT ⟨_, rfl, _, hD, ?_, same_updN s3 nD, ?_⟩
          · rw [List.length_map]
            exact Nat.lt_of_le_of_lt (intsOf_len _) (by rw [List.length_take]; exact Nat.lt_of_le_of_lt (Nat.min_le_right _ _) (Nat.lt_of_le_of_lt hl (by decide)))
          · rw [upd_same, List.take_add_one, ek]
            show some (HO.lst (_ ++ [V.int z])) = some (.lst ((intsOf (ks.take i ++ [Sum.inl z])).map V.int))
            rw [intsOf_app, List.map_append]
            rfl
        | inr z =>
          refine iteF ⟨s3, ?_⟩
          rw [hD, List.take_add_one, ek]
          show _ = some (HO.lst ((intsOf (ks.take i ++ [Sum.inr z])).map V.int))
          rw [intsOf_app]
          simp [intsOf]
      rintro H3 ⟨s3, hD⟩
      rw [List.length_map, List.take_length] at hD
      refine ⟨D, intsOf ks, rfl, SqL.of hD, Nat.lt_of_le_of_lt (intsOf_len ks) (by omega), fun is p1 perm1 pair1 np1 => ?_⟩
      have s4 := same_new (o := .lst (is.map V.int)) np1
      have s24 := s3.tr s4
      -- rows
      refine ⟨_, rfl, _, rfl, l, rfl, ⟨_, s24.seq (s12.seq hq)⟩, fun D2 nD2 => lc_it walk_list (fun i H' => Same (upd H3 p1 (.lst (is.map V.int))) H' ∧ H' D2 = some (.lst ((strsOf (ks.take i)).map V.str))) ⟨same_new nD2, upd_same⟩ (fun i H' _ z => z.1.seq (s24.seq (s12.seq hq))) ?_ ?_⟩
      · rintro i x H' H'' hi ⟨s5, hD'⟩ ⟨rfl, hx⟩
        rw [List.getElem?_map] at hx
        obtain ⟨kk, ek, rfl⟩ := Option.map_eq_some_iff.mp hx
        refine ⟨rfl, ?_⟩
        refine ⟨_, rfl, kV kk, keyD kk, "str", rfl, rfl, sd_key kk, _, rfl, ?_⟩
        cases kk with
        | inr z =>
          refine iteT ⟨_, rfl, _, hD', ?_, same_updN s5 nD2, ?_⟩
          · rw [List.length_map]
            exact Nat.lt_of_le_of_lt (strsOf_len _) (by rw [List.length_take]; exact Nat.lt_of_le_of_lt (Nat.min_le_right _ _) (Nat.lt_of_le_of_lt hl (by decide)))
          · rw [upd_same, List.take_add_one, ek]
            show some (HO.lst (_ ++ [V.str z])) = some (.lst ((strsOf (ks.take i ++ [Sum.inr z])).map V.str))
            rw [strsOf_app, List.map_append]
            rfl
        | inl z =>
          refine iteF ⟨s5, ?_⟩
          rw [hD', List.take_add_one, ek]
          show _ = some (HO.lst ((strsOf (ks.take i ++ [Sum.inl z])).map V.str))
          rw [strsOf_app]
          simp [strsOf]
      rintro H4 ⟨s5, hD2⟩
      rw [List.length_map, List.take_length] at hD2
      refine ⟨D2, strsOf ks, rfl, SqL.of hD2, Nat.lt_of_le_of_lt (strsOf_len ks) (by omega), fun xs p2 perm2 sor2 np2 => ?_⟩
      have s6 := same_new (o := .lst (xs.map V.str)) np2
      have ai : ∀ rs, Asc ks rs → rs = (ascK is xs).map kV := fun rs a => asc_keys a perm1 pair1 perm2 sor2
      have pk := asc_perm perm1 perm2
      have lk' : (ascK is xs).length ≤ 60 := by
        rw [pk.length_eq]
        exact hl
      have fk : ∀ d ∈ allKeys (ascK is xs), fits d ∧ Fine 20100 d := fun d m => by
        obtain ⟨kk, mk, rfl⟩ := List.mem_map.mp m
        exact hf _ (List.mem_map.mpr ⟨kk, pk.subset mk, rfl⟩)
      have ld : (allKeys (ascK is xs)).length ≤ 100 := by
        rw [show (allKeys (ascK is xs)).length = (ascK is xs).length from List.length_map ..]
        omega
      obtain ⟨t1, t2, t3⟩ := tup_ok (fun d m => (fk d m).2) ld
      obtain ⟨l1, l2, l3⟩ := lst_ok (fun d m => (fk d m).2) ld
      have due0 : due [] 0 (allKeys (ascK is xs)) = none := due_noneA _ [] 0 (fun kk m => hk kk (pk.subset m)) (by
        rw [List.nil_append]
        exact pk.nodup_iff.mpr e3)
      refine ⟨p1, p2, _, _, rfl, rfl, s6 _ _ (s5 _ _ upd_same), upd_same, ?_, fun p3 np3 => ?_⟩
      · rw [List.length_map, List.length_map]
        have z : is.length + xs.length = (ascK is xs).length := by
          unfold ascK
          rw [List.length_append, List.length_map, List.length_map]
        rw [z]
        exact sz _ (by omega)
      rw [← ascK_vals] at *
      have s7 := same_new (o := .lst ((ascK is xs).map kV)) np3
      have s27 := s24.tr (s5.tr (s6.tr s7))
      have hn2 := s27 _ _ hn
      have hpm2 := s27 _ _ hpm
      have hdq2 := s27 _ _ hdq
      refine ⟨_, rfl, Nat.zero_le _, fun q2 nq2 => ?_⟩
      have s8 := same_new (o := .lst []) nq2
      refine ⟨q, q2, [], rfl, rfl, SqL.of (s8 _ _ hdq2), SqL.of upd_same, _, rfl, iteF ?_⟩
      have hn3 := s8 _ _ hn2
      have hpm3 := s8 _ _ hpm2
      have hp3 := s8 _ _ (upd_same (a := p3) (o := .lst ((ascK is xs).map kV)))
      refine ⟨_, rfl, n, dx, _, rfl, hn3, n, dx, pm, ks, rfl, hn3, hpm3, hkk, fun rs1 r1 H8 ar1 t8 hr1 => ?_⟩
      obtain rfl := ai rs1 ar1
      refine ⟨.ref r1, _, rfl, .tup (SqT.of hr1) (sd_keys _), t1, t2, t3, _, rfl, p3, _, rfl, .inl ⟨SqL.of (t8 _ _ hp3), fun t nt => ?_⟩⟩
      have s9 := same_new (o := .tup ((ascK is xs).map kV)) nt
      refine ⟨.ref t, _, rfl, .tup (SqT.of upd_same) (sd_keys _), t1, t2, t3, rfl, false, by rw [decide_eq_true rfl]; rfl, iteF ?_⟩
      have hn4 := s9 _ _ (t8 _ _ hn3)
      have hpm4 := s9 _ _ (t8 _ _ hpm3)
      refine ⟨_, rfl, n, dx, _, rfl, hn4, n, dx, _, rfl, hn4, rfl, rfl, false, rfl, iteF ?_⟩
      refine ⟨(ascK is xs).map kV, by rw [List.length_map]; exact sz _ (by omega), _, rfl, n, dx, _, rfl, hn4, rfl, n, dx, _, rfl, hn4, rfl, n, dx, pm, ks, rfl, hn4, hpm4, hkk, fun rs2 r2 H10 ar2 t10 hr2 => ⟨r2, rfl, (by rw [ai rs2 ar2] at hr2; exact hr2), fun q4 nq4 => ?_⟩⟩
      have s10 := same_new (o := .lst ((ascK is xs).map kV)) nq4
      have u10 := t10.tr s10
      have hn5 := u10 _ _ hn4
      have hpm5 := u10 _ _ hpm4
      refine ⟨.ref q4, _, rfl, .lst (SqL.of upd_same) (sd_keys _), l1, l2, l3, _, rfl, .ref p3, _, rfl, .lst (SqL.of (u10 _ _ (s9 _ _ (t8 _ _ hp3)))) (sd_keys _), l1, l2, l3, rfl, true, by rw [decide_eq_true rfl], iteT ?_⟩
      refine ⟨_, rfl, rfl, _, rfl, n, dx, _, rfl, hn5, n, dx, pm, ks, rfl, hn5, hpm5, hkk, fun rs3 r3 H11 ar3 t11 hr3 => ?_⟩
      obtain rfl := ai rs3 ar3
      refine ⟨.ref r3, .tuple (allKeys (ascK is xs)), rfl, .tup (SqT.of hr3) (sd_keys _), .inr ⟨r3, _, _, rfl, rfl, SqT.of hr3, sd_keys _, by rw [List.length_map]; exact lk', fun d m => (fk d m).1, fun ks2 e4 e5 e6 n2 H9 s11 nn2 ba2 => ?_, fun i v e4 => ?_, fun i v e4 => ?_⟩⟩
      · obtain ⟨dx2, pm2, hb, _⟩ := ba2
        have hn6 := t11 _ _ hn5
        have nn : n ≠ n2 := fun z => by
          rw [← z, hn6] at nn2
          cases nn2
        refine ⟨n, n2, C, C, dx, dx2, _, _, true, rfl, rfl, s11 _ _ hn6, hb, B.eqc, B.eqc, B.mro, false, by rw [decide_eq_false nn], ?_⟩
        exact k _ (s12.tr (s27.tr (s8.tr (t8.tr (s9.tr (u10.tr (t11.tr s11)))))))
      · rw [due0] at e4
        cases e4
      · rw [due0] at e4
        cases e4
    · -- no key
      rw [e1] at dq
      obtain ⟨v', ev, hd⟩ := dq
      rw [e2] at ev
      cases ev
      obtain ⟨d, ed, sd⟩ := sdall_get hs e2
      obtain ⟨o1, o2, o3⟩ := pair_ok (x := "key") (by decide +kernel) (hf d (List.mem_of_getElem? ed)).2
      have s3 := same_new (o := exV a (gC K "InvalidKey") dd) na
      have ex : ExAt (upd H2 a (exV a (gC K "InvalidKey") dd)) a (gC K "InvalidKey") [("key", v)] := ⟨dd, upd_same, s3 _ _ hx⟩
      refine ⟨_, rfl, true, rfl, iteT ⟨_, rfl, a, _, _, _, _, true, rfl, ex, EF.key.xc, fun u r => r, EF.key.kit, _, rfl, iteT ?_⟩⟩
      refine ⟨_, rfl, Nat.zero_le _, fun q2 nq2 => ?_⟩
      have s4 := same_new (o := .lst []) nq2
      refine ⟨q, q2, _, rfl, rfl, SqL.of (s4 _ _ (s3 _ _ (s2 _ _ hd))), SqL.of upd_same, _, rfl, iteT ?_⟩
      refine ⟨_, rfl, _, rfl, a, _, _, v, rfl, ex.mono s4, EF.key.xc, EF.key.no, rfl, sz 2 (by decide), fun q3 nq3 => ?_⟩
      have s5 := same_new (o := .lst [.str "key", v]) nq3
      have s6 := s1.tr (s2.tr (s3.tr (s4.tr s5)))
      refine ⟨.ref q3, .list [.str "key", d], rfl, .lst (SqL.of upd_same) (.cons (.str _) (.cons (sd_to sd s6) .nil)), o1, o2, o3, _, rfl, .ref q, .list [.str "key", d], rfl, .lst (SqL.of (s5 _ _ (s4 _ _ (s3 _ _ (s2 _ _ hd))))) (.cons (.str _) (.cons (sd_to sd s6) .nil)), o1, o2, o3, rfl, ?_⟩
      rw [decide_eq_true rfl]
      exact k _ s6
    · -- taken
      rw [e1] at dq
      obtain ⟨v', ev, hd⟩ := dq
      rw [e2] at ev
      cases ev
      obtain ⟨d, ed, sd⟩ := sdall_get hs e2
      obtain ⟨o1, o2, o3⟩ := pair_ok (x := "taken") (by decide +kernel) (hf d (List.mem_of_getElem? ed)).2
      have s3 := same_new (o := exV a (gC K "KeyTaken") dd) na
      have ex : ExAt (upd H2 a (exV a (gC K "KeyTaken") dd)) a (gC K "KeyTaken") [("key", v)] := ⟨dd, upd_same, s3 _ _ hx⟩
      refine ⟨_, rfl, true, rfl, iteT ⟨_, rfl, a, _, _, _, _, false, rfl, ex, EF.taken.xc, fun u r => r, EF.no, _, rfl, iteF ⟨_, rfl, a, _, _, _, _, true, rfl, ex, EF.taken.xc, fun u r => r, EF.taken.kit, _, rfl, iteT ?_⟩⟩⟩
      refine ⟨_, rfl, Nat.zero_le _, fun q2 nq2 => ?_⟩
      have s4 := same_new (o := .lst []) nq2
      refine ⟨q, q2, _, rfl, rfl, SqL.of (s4 _ _ (s3 _ _ (s2 _ _ hd))), SqL.of upd_same, _, rfl, iteT ?_⟩
      refine ⟨_, rfl, _, rfl, a, _, _, v, rfl, ex.mono s4, EF.taken.xc, EF.taken.no, rfl, sz 2 (by decide), fun q3 nq3 => ?_⟩
      have s5 := same_new (o := .lst [.str "taken", v]) nq3
      have s6 := s1.tr (s2.tr (s3.tr (s4.tr s5)))
      refine ⟨.ref q3, .list [.str "taken", d], rfl, .lst (SqL.of upd_same) (.cons (.str _) (.cons (sd_to sd s6) .nil)), o1, o2, o3, _, rfl, .ref q, .list [.str "taken", d], rfl, .lst (SqL.of (s5 _ _ (s4 _ _ (s3 _ _ (s2 _ _ hd))))) (.cons (.str _) (.cons (sd_to sd s6) .nil)), o1, o2, o3, rfl, ?_⟩
      rw [decide_eq_true rfl]
      exact k _ s6
end
end Ky

set_option Elab.async false
set_option linter.all false
set_option maxRecDepth 100000
set_option maxHeartbeats 4000000
namespace Ky
open PySem PySem.Spec PyProof.Rows L2 StX ClX
theorem low_len {x : Str} (h : lowS x = true) (hl : x.length ≤ 2001) : wt (.str x) ≤ 20100 := by
  have z := StrLaws.reprText_len x fun c m => of_decide_eq_true (List.all_eq_true.mp h c m)
  show (reprText x).length ≤ 20100
  omega
theorem at_fine {v : V} {d : PyData} (h : At v d) : fits d ∧ Fine 20100 d ∧ ∀ K H, Sd K H v d := by
  cases h with
  | non => exact ⟨fun x e => (by cases e), ⟨rfl, by decide, Nat.zero_le _, fun xs e => (by cases e)⟩, fun _ _ => .non⟩
  | bl b => exact ⟨fun x e => (by cases e), ⟨rfl, (by show 5 ≤ 20100; decide), Nat.zero_le _, fun xs e => (by cases e)⟩, fun _ _ => .bl b⟩
  | int i h1 h2 =>
    refine ⟨fun x e => (by cases e), ⟨?_, (by show 1921 ≤ 20100; decide), Nat.zero_le _, fun xs e => (by cases e)⟩, fun _ _ => .int i⟩
    show decide (i.natAbs.log2 < 1920) = true
    rw [decide_eq_true_iff]
    by_cases z : i.natAbs = 0
    · rw [z]
      decide
    · rw [Nat.log2_lt z]
      have b : big.toNat ≤ 2 ^ 1920 := by decide +kernel
      have c : i.natAbs < big.toNat := by omega
      exact Nat.lt_of_lt_of_le c b
  | str x hl hw =>
    refine ⟨fun y e => (by cases e; exact Nat.le_trans hl (by decide)), ⟨rfl, low_len hw (by omega), Nat.zero_le _, fun xs e => (by cases e)⟩, fun _ _ => .str x⟩
inductive AtAll : List V → List PyData → Prop
  | nil : AtAll [] []
  | cons {v : V} {d : PyData} {vs : List V} {ds : List PyData} : At v d → AtAll vs ds → AtAll (v :: vs) (d :: ds)
theorem AtAll.app : ∀ {vs ws : List V} {ds es : List PyData}, AtAll vs ds → AtAll ws es → AtAll (vs ++ ws) (ds ++ es)
  | _, _, _, _, .nil, b => b
  | _, _, _, _, .cons h a, b => .cons h (a.app b)
theorem AtAll.sd {K : PySem.W.Frag} {H : Hp} : ∀ {vs : List V} {ds : List PyData}, AtAll vs ds → SdAll K H vs ds
  | _, _, .nil => .nil
  | _, _, .cons h a => .cons ((at_fine h).2.2 K H) a.sd
theorem AtAll.fine : ∀ {vs : List V} {ds : List PyData}, AtAll vs ds → ∀ d ∈ ds, fits d ∧ Fine 20100 d
  | _, _, .nil, d, m => (List.not_mem_nil m).elim
  | _, _, .cons h a, d, m => by
    rcases List.mem_cons.mp m with m | m
    · rw [m]
      exact ⟨(at_fine h).1, (at_fine h).2.1⟩
    · exact a.fine d m
theorem AtAll.get : ∀ {vs : List V} {ds : List PyData} {i : Nat} {v : V}, AtAll vs ds → vs[i]? = some v → ∃ d, ds[i]? = some d ∧ At v d
  | _, _, 0, _, .cons h _, e => by
    cases e
    exact ⟨_, rfl, h⟩
  | _, _, i + 1, _, .cons _ a, e => a.get e
theorem AtAll.len : ∀ {vs : List V} {ds : List PyData}, AtAll vs ds → vs.length = ds.length
  | _, _, .nil => rfl
  | _, _, .cons _ a => by rw [List.length_cons, List.length_cons, a.len]
theorem AtAll.cut : ∀ {vs : List V} {ds : List PyData}, AtAll vs ds → ∀ n m, AtAll ((vs.drop n).take m) ((ds.drop n).take m)
  | _, _, .nil, n, m => by
    rw [List.drop_nil, List.drop_nil, List.take_nil, List.take_nil]
    exact .nil
  | _, _, .cons h a, 0, 0 => .nil
  | _, _, .cons h a, 0, m + 1 => .cons h (by
      have z := a.cut 0 m
      rw [List.drop_zero, List.drop_zero] at z
      exact z)
  | _, _, .cons h a, n + 1, m => a.cut n m
end Ky

set_option Elab.async false
set_option linter.all false
set_option maxRecDepth 100000
set_option maxHeartbeats 4000000
namespace Ky
open PySem PySem.Spec PyProof.Rows L2 StX ClX
abbrev sLaw : Stmt := top 36
abbrev NL : List Str := ["script", "draw", "turn", "keys", "odd", "at", "some", "what", "k", "one"]
theorem scLaw : FnScope NL ["script"] (defScope sLaw) := ⟨rfl, rfl, rfl, by decide +kernel, rfl, by decide +kernel, by decide +kernel⟩
def spLaw (K : PySem.W.Frag) : Sp := fun vs H Q _ => ∃ (a : Addr) (ns : List Int), vs = [.ref a] ∧ SqL K H a (ns.map V.int) ∧ ns.length ≤ 63 ∧ ∀ H', Q (.bl true) H'
/-- the defs that law calls -/
structure LF (K : PySem.W.Frag) (mg : Str → Option Value) : Prop where
  begin_ : ∃ f fd, FnP K "_law_begin" sBegin f fd ∧ mg "_law_begin" = some (.ref f)
  mixed : ∃ f fd, FnP K "_law_mixed" sMixed f fd ∧ mg "_law_mixed" = some (.ref f)
  next : ∃ f fd, FnP K "_law_next" sNext f fd ∧ mg "_law_next" = some (.ref f)
  atom : ∃ f fd, FnP K "_law_atom" sAtom f fd ∧ mg "_law_atom" = some (.ref f)
  tup : ∃ f fd, FnP K "_law_tuple" sTup f fd ∧ mg "_law_tuple" = some (.ref f)
  isO : ∃ f fd, FnP K "_law_is_octets" sLOct f fd ∧ mg "_law_is_octets" = some (.ref f)
  oR : ∃ f fd, FnP K "_law_octets_right" sOR f fd ∧ mg "_law_octets_right" = some (.ref f)
  isK : ∃ f fd, FnP K "_law_is_key" sLKey f fd ∧ mg "_law_is_key" = some (.ref f)
  due : ∃ f fd, FnP K "_law_due" sDue f fd ∧ mg "_law_due" = some (.ref f)
  bag : ∃ f fd, FnP K "_law_bag" sLB f fd ∧ mg "_law_bag" = some (.ref f)
  bR : ∃ f fd, FnP K "_law_bag_right" sBR f fd ∧ mg "_law_bag_right" = some (.ref f)
  word : ∃ f fd, FnP K "_law_word" sLW f fd ∧ mg "_law_word" = some (.ref f)
theorem draw_upd {H : Hp} {p l a : Addr} {N : Nat} {o : HO} (d : L2.DrawAt H p N) (c : CellsAt H p l) (n1 : a ≠ p) (n2 : a ≠ l) : L2.DrawAt (upd H a o) p N ∧ CellsAt (upd H a o) p l := by
  obtain ⟨l', cs, x, y, z, h1, h2, r⟩ := d
  obtain rfl := cells_one ⟨x, y, z, h1⟩ c
  have e1 : (upd H a o) p = some (.dK (drawKv l' x y z)) := by rw [upd_ne n1.symm]; exact h1
  exact ⟨⟨l', cs, x, y, z, e1, by rw [upd_ne n2.symm]; exact h2, r⟩, ⟨x, y, z, e1⟩⟩
theorem draw_cells {H : Hp} {p : Addr} {N : Nat} (d : L2.DrawAt H p N) : ∃ l, CellsAt H p l ∧ ∃ o, H l = some o := by
  obtain ⟨l, cs, x, y, z, h1, h2, r⟩ := d
  exact ⟨l, ⟨x, y, z, h1⟩, _, h2⟩
theorem spBagI_mono {K : PySem.W.Frag} {C CK CT : Addr} {vs : List V} {H : Hp} {Q Q' : VK} {E : XK} (h : spBagI K C CK CT vs H Q E) (i : ∀ v H, Q v H → Q' v H) : spBagI K C CK CT vs H Q' E := by
  obtain ⟨a, dx, ws, ds, H0, e1, e2, e3, e4, e5, e6, e7, q, r1, r2⟩ := h
  exact ⟨a, dx, ws, ds, H0, e1, e2, e3, e4, e5, e6, e7, fun ks z1 z2 z3 p H' z4 z5 z6 => i _ _ (q ks z1 z2 z3 p H' z4 z5 z6), r1, r2⟩
section
variable {P : Program} {w : World} {K : PySem.W.Frag} {mg : Str → Option Value} {base : Heap} {C : Addr}
theorem ok_law {f : Addr} {fd : FuncData} (F : FnP K "law" sLaw f fd) (N : Nm mg) (T : Ts K mg) (S : Es P w K mg base) (SY : SysK K) (L : LF K mg) (O : ∃ CO, OctF P w K mg CO) (B : BagF P w K mg C) (CF : CatchF K mg (gC K "InvalidNumbers") "InvalidNumbers" "value") (EF : BagE K mg) :
    FnG P w K mg base CX0 11 f fd ["script"] (spLaw K) := by
  obtain ⟨CO, OF⟩ := id O
  obtain ⟨fI, dI, t0, MO, FI, hT0⟩ := OF.init
  obtain ⟨pN, gN, dN, PN, FN⟩ := OF.nums
  obtain ⟨fBI, dBI, MB, FBI⟩ := B.init
  obtain ⟨pM, gM, dM, PM, FM⟩ := B.mem
  obtain ⟨f1, d1, F1, g1⟩ := L.begin_
  obtain ⟨f2, d2, F2, g2⟩ := L.mixed
  obtain ⟨f3, d3, F3, g3⟩ := L.next
  obtain ⟨f4, d4, F4, g4⟩ := L.atom
  obtain ⟨f5, d5, F5, g5⟩ := L.tup
  obtain ⟨f6, d6, F6, g6⟩ := L.oR
  obtain ⟨f7, d7, F7, g7⟩ := L.isK
  obtain ⟨f8, d8, F8, g8⟩ := L.bR
  obtain ⟨f9, d9, F9, g9⟩ := L.word
  have DR : Dr K mg := ⟨⟨f1, d1, F1, g1⟩, ⟨f2, d2, F2, g2⟩, ⟨f3, d3, F3, g3⟩⟩
  have G1 : FnOk P w K mg base CX0 1 f1 d1 ["script"] (spBegin K) := ok_begin F1
  have G3 : FnOk P w K mg base CX0 2 f3 d3 ["draw", "bound"] spNext := ok_next F3 F2 g2 N.len
  have G4 : FnOk P w K mg base CX0 3 f4 d4 ["draw"] spAtom := ok_atom F4 N DR
  have G5 : FnOk P w K mg base CX0 3 f5 d5 ["draw"] (spTup K) := ok_tup F5 N DR
  have G6 : FnG P w K mg base CX0 6 f6 d6 ["what"] (spOR K) := ok_or F6 N T S SY O CF L.isO
  have G7 : FnOk P w K mg base CX0 1 f7 d7 ["what"] (spTest K isK) := ok_lkey F7 N
  have G8 : FnG P w K mg base CX0 10 f8 d8 ["way", "keys"] (spBR K) := ok_br F8 N T S SY B EF L.isK L.due L.bag
  have G9 : FnOk P w K mg base CX0 8 f9 d9 ["what"] (spLW K) := ok_lw F9 N T S B EF.key
  have GI : FnOk P w K mg base (L2.CX P w) 3 fI dI ["self", "numbers"] (spOctI K CO (gC K "InvalidNumbers")) := ok_octI OF.cls OF.noN FI N T S
  have GN : FnOk P w K mg base CX0 1 gN dN ["self"] (spFld CO "_numbers") := ok_fld rfl scSelf1 (.inl rfl) OF.cls OF.noN FN
  have GBI : FnR P w K mg base (L2.CX P w) 5 fBI (spBagI K C (gC K "InvalidKey") (gC K "KeyTaken")) := ok_bagI B.cls B.noM FBI N T S B.add
  have GM : FnOk P w K mg base CX0 3 gM dM ["self"] (spMem C) := ok_bagM B.cls B.noM FM N T B.asc
  have b1 : Binds K d1 ["script"] [] := F1.bindsN fun _ _ _ _ _ _ us hl => match us, hl with | [_], _ => rfl
  have b3 : Binds K d3 ["draw", "bound"] [] := F3.bindsN fun _ _ _ _ _ _ us hl => match us, hl with | [_, _], _ => rfl
  have b4 : Binds K d4 ["draw"] [] := F4.bindsN fun _ _ _ _ _ _ us hl => match us, hl with | [_], _ => rfl
  have b5 : Binds K d5 ["draw"] [] := F5.bindsN fun _ _ _ _ _ _ us hl => match us, hl with | [_], _ => rfl
  have b6 : Binds K d6 ["what"] [] := F6.bindsN fun _ _ _ _ _ _ us hl => match us, hl with | [_], _ => rfl
  have b7 : Binds K d7 ["what"] [] := F7.bindsN fun _ _ _ _ _ _ us hl => match us, hl with | [_], _ => rfl
  have b8 : Binds K d8 ["way", "keys"] [] := F8.bindsN fun _ _ _ _ _ _ us hl => match us, hl with | [_, _], _ => rfl
  have b9 : Binds K d9 ["what"] [] := F9.bindsN fun _ _ _ _ _ _ us hl => match us, hl with | [_], _ => rfl
  have bN : Binds K dN ["self"] [] := FN.bindsN fun _ _ _ _ _ _ us hl => match us, hl with | [_], _ => rfl
  have bM : Binds K dM ["self"] [] := FM.bindsN fun _ _ _ _ _ _ us hl => match us, hl with | [_], _ => rfl
  obtain ⟨ds0, vds0, bI0⟩ : ∃ ds, Vals (([V.ref t0] : List V).drop 0) ds ∧ Binds K dI ["self", "numbers"] ds := FI.binds1 1 0 (by simp) rfl fun _ _ _ _ _ _ _ us its hl hi => match us, its, hl, hi with | [_], [_], _, _ => ⟨_, rfl, rfl⟩
  refine F.okG scLaw (fun vs H Q E h => ?_) (fun cdv A outer s H vs Q E hgu hr h => ?_)
  · obtain ⟨a, ns, rfl, _⟩ := h
    rfl
  · have hu1 := Nat.lt_of_succ_lt (hu_of hr)
    have pN0 : ∀ {X : Cx}, Passes (L2.CX X.prog X.w) X E0 := fun _ _ _ _ _ _ _ z => (no_cx z).elim
    refine ⟨_, PSs.nox (pss_cons (ps_set (i := 1) scLaw.nd rfl (Or.inr rfl) (pe_call G1 (hr.mono (by decide)) (by rfl) g1 F1.kp b1 .nil pass0 (pa_cons (pv 0) pa_nil)))
      (pss_cons (ps_if (PW.pt (pw_or (pt_cmpR (op_neD hr.units) (pe_prop (pe_make0 (E := E0) MO GI (hr.mono (by decide)) (by rfl) OF.nm bI0 vds0 (fun _ _ _ _ _ _ _ z => (no_cx z).elim)) OF.cls PN GN (hr.mono (by decide)) bN .nil pass0 (by rfl)) (pe_tup pa_nil) (nomark _))
          (pw_or1 (pt_cmpR (op_neD hr.units) (pe_prop (pe_makeR0 (E := E0) MB GBI (hr.mono (by decide)) (by rfl) B.nm (fun _ _ _ _ _ _ _ z => (no_cx z).elim)) B.cls PM GM (hr.mono (by decide)) bM .nil pass0 (by rfl)) (pe_tup pa_nil) (nomark _))))) (pss_one (ps_ret pe_bl)) pss_nil)
      (pss_cons (ps_for PassesOwn.never rfl (pi_range1 (by rfl) N.rng (pa_cons (pe_callB (call_min2 rfl) (by rfl) N.min boot_min (pa_cons pe_int (pa_cons (pe_op op_add pe_int (pe_callB call_len (by rfl) N.len PySem.boot_len (pa_cons (pv 0) pa_nil))) pa_nil))) pa_nil)) (pg_name (i := 2) scLaw.nd rfl (Or.inl rfl))
        (pss_cons (ps_if (PW.pt (pw_or (pt_not (pt_val (pe_callG hgu G6 (hr.mono (by decide)) (by rfl) g6 F6.kp b6 .nil pass0 (pa_cons (pe_call G5 (hr.mono (by decide)) (by rfl) g5 F5.kp b5 .nil pass0 (pa_cons (pv 1) pa_nil)) pa_nil))))
            (pw_or1 (pt_not (pt_val (pe_callG hgu G6 (hr.mono (by decide)) (by rfl) g6 F6.kp b6 .nil pass0 (pa_cons (pe_call G5 (hr.mono (by decide)) (by rfl) g5 F5.kp b5 .nil pass0 (pa_cons (pv 1) pa_nil)) pa_nil))))))) (pss_one (ps_ret pe_bl)) pss_nil)
        (pss_cons (ps_setLc (i := 3) (own := [("k", 8)]) (g := gName 8) (tt := tYes) rfl scLaw.nd rfl rfl (sw_true rfl rfl rfl rfl) (pi_range1 (by rfl) N.rng (pa_cons (pe_call G3 (hr.mono (by decide)) (by rfl) g3 F3.kp b3 .nil pass0 (pa_cons (pv 1) (pa_cons pe_int pa_nil))) pa_nil)) (blkOk_by (own := [("k", 8)]) (N := NL) (sc := defScope sLaw) (by decide +kernel))
          (fun _ _ _ _ _ => pg_name (i := 8) scLaw.nd rfl (Or.inl rfl)) (fun _ _ _ _ _ => pts_nil) (fun _ _ _ _ _ => pe_call G4 (hr.mono (by decide)) (by rfl) g4 F4.kp b4 .nil pass0 (pa_cons (pv 1) pa_nil)))
        (pss_cons (ps_setLc (i := 3) (own := [("one", 9)]) (g := gName 9) rfl scLaw.nd rfl rfl (sw_true rfl rfl rfl rfl) (pi_list (pv 3)) (blkOk_by (own := [("one", 9)]) (N := NL) (sc := defScope sLaw) (by decide +kernel))
          (fun _ _ _ _ _ => pg_name (i := 9) scLaw.nd rfl (Or.inl rfl)) (fun _ _ _ _ _ => pts_one (pt_val (pe_call G7 (hr.mono (by decide)) (by rfl) g7 F7.kp b7 .nil pass0 (pa_cons (pv 9) pa_nil)))) (fun _ _ _ _ _ => pv 9))
        (pss_cons (ps_set (i := 4) scLaw.nd rfl (Or.inl rfl) (pe_ix ix_list (pe_lst (pa_cons pe_non (pa_cons pe_bl (pa_cons pe_bl (pa_cons (pe_op op_powW (pe_op op_pow pe_int pe_int) pe_int) (pa_cons (pe_op op_mulS pe_str pe_int) (pa_cons (pe_tup (pa_cons pe_int pa_nil)) (pa_cons (pe_lst (pa_cons pe_int pa_nil)) pa_nil)))))))) (pe_call G3 (hr.mono (by decide)) (by rfl) g3 F3.kp b3 .nil pass0 (pa_cons (pv 1) (pa_cons pe_int pa_nil))) (fun _ _ => rfl)))
        (pss_cons (ps_set (i := 5) scLaw.nd rfl (Or.inl rfl) (pe_call G3 (hr.mono (by decide)) (by rfl) g3 F3.kp b3 .nil pass0 (pa_cons (pv 1) (pa_cons (pe_op op_add (pe_callB call_len (by rfl) N.len PySem.boot_len (pa_cons (pv 3) pa_nil)) pe_int) pa_nil))))
        (pss_cons (ps_for PassesOwn.never rfl (pi_list (pe_lst (pa_cons (pv 3) (pa_cons (pe_op op_cat (pe_op op_cat (pe_slice sl_list (pv 3) po_none (po_some (pv 5))) (pe_lst (pa_cons (pv 4) pa_nil))) (pe_slice sl_list (pv 3) (po_some (pv 5)) po_none)) (pa_cons (pe_op op_cat (pv 3) (pe_slice sl_list (pv 3) po_none (po_some pe_int))) pa_nil))))) (pg_name (i := 6) scLaw.nd rfl (Or.inl rfl))
          (pss_one (ps_if (PW.pt (pw_or (pt_not (pt_val (pe_callG hgu G8 (hr.mono (by decide)) (by rfl) g8 F8.kp b8 .nil pass0 (pa_cons pe_int (pa_cons (pv 6) pa_nil)))))
            (pw_or1 (pt_not (pt_val (pe_callG hgu G8 (hr.mono (by decide)) (by rfl) g8 F8.kp b8 .nil pass0 (pa_cons pe_int (pa_cons (pv 6) pa_nil)))))))) (pss_one (ps_ret pe_bl)) pss_nil)))
        (pss_cons (ps_set (i := 7) scLaw.nd rfl (Or.inl rfl) (pe_ix ix_list (pe_lst (pa_cons (pv 3) (pa_cons pe_non (pa_cons pe_int (pa_cons pe_str (pa_cons pe_dnewK (pa_cons pe_bl pa_nil))))))) (pe_call G3 (hr.mono (by decide)) (by rfl) g3 F3.kp b3 .nil pass0 (pa_cons (pv 1) (pa_cons pe_int pa_nil))) (fun _ _ => rfl)))
        (pss_one (ps_if (pt_cmpR op_ne (pe_callB (call_repr hgu hr SY) (by rfl) N.repr boot_repr (pa_cons (pe_call G9 (hr.mono (by decide)) (by rfl) g9 F9.kp b9 .nil pass0 (pa_cons (pv 7) pa_nil)) pa_nil)) (pe_callB (call_repr hgu hr SY) (by rfl) N.repr boot_repr (pa_cons (pe_lst (pa_cons pe_str (pa_cons (pv 7) pa_nil))) pa_nil)) (nomark _)) (pss_one (ps_ret pe_bl)) pss_nil))))))))))
      (pss_one (ps_ret pe_bl))))), ?_⟩
    obtain ⟨a, ns, rfl, hS, hl, k⟩ := h
    refine ⟨_, rfl, a, ns, rfl, hS, hl, fun p H1 hp s1 D1 => ?_⟩
    -- Octets().numbers
    refine fun x dx nx nd ne => ⟨x, dx, .ref t0, .tuple [], rfl, upd_same, .tup (hT0 _) .nil, (fun ds e d m => by cases e; cases m), fun _ H2 s2 => ⟨rfl, ?_⟩, fun z => absurd z (by decide)⟩
    refine ⟨x, dx, _, rfl, upd_same, x, dx, _, .ref t0, rfl, upd_same, rfl, Nat.zero_le _, fun q nq => ⟨.tuple [], .tuple [], .tup (hT0 _) .nil, .tup (SqT.of upd_same) .nil, by decide, by decide, false, rfl, iteF ?_⟩⟩
    have e1 : Same H1 (upd (upd H2 x (.ins CO dx [("_numbers", .ref t0)])) q (.tup [])) := by
      have z : Same H1 (upd (upd H1 dx (.own x)) x (.ins CO dx [])) := fun b o e => by
        rw [upd_ne (ne_of_none e nx), upd_ne (ne_of_none e nd)]
        exact e
      exact (same_updN (z.tr s2) nx).tr (same_new nq)
    -- Bag().members
    refine fun n dy nn ndy nyn => spBagI_mono (mkBag (ws := []) (ds := []) (Q := fun y H3 => ∃ m, y = V.ref m ∧ BagAt C H3 m [] ∧ Same (upd (upd H2 x (.ins CO dx [("_numbers", .ref t0)])) q (.tup [])) H3) ⟨.nil, Nat.zero_le _, fun d m => (List.not_mem_nil m).elim, fun ks z1 z2 z3 n' H3 s3 nn' ba => ?_, fun i v z => (by cases z), fun i v z => (by cases z)⟩ n dy nn ndy nyn) fun v H3 z => ?_
    · obtain rfl : ks = [] := List.map_eq_nil_iff.mp z2.symm
      exact ⟨n', rfl, ba, s3⟩
    obtain ⟨rfl, n', zz, ⟨dz, pm, hb, hpm⟩, s3⟩ := z
    cases zz
    refine ⟨rfl, ?_⟩
    refine ⟨n, dz, _, rfl, hb, n, dz, pm, [], rfl, hb, hpm, ⟨Nat.zero_le _, fun _ m => (List.not_mem_nil m).elim⟩, fun rs r9 H9 ar t9 hr9 => ?_⟩
    obtain rfl : rs = [] := asc_one (is := []) (xs := []) ar .nil .nil .nil rfl
    refine ⟨Nat.zero_le _, fun q2 nq2 => ⟨.tuple [], .tuple [], .tup (SqT.of (same_new nq2 _ _ hr9)) .nil, .tup (SqT.of upd_same) .nil, by decide, by decide, false, rfl, iteF ?_⟩⟩
    have e2 := e1.tr (s3.tr (t9.tr (same_new (o := .tup []) nq2)))
    refine ⟨_, rfl, _, _, rfl, .inl ⟨_, (s1.tr e2).seq hS, rfl⟩, _, _, rfl, rfl, _, _, rfl, _, rfl, ?_, ?_, ?_⟩
    · rw [List.length_map]
      split <;> omega
    · rw [List.length_map]
      split <;> omega
    rw [List.length_map]
    refine for_range (fun i σ H' => ∃ t0 t2 t3 t4 t5 t6 t7 t8 t9 : Option V, σ = [t0, some (.ref p), t2, t3, t4, t5, t6, t7, t8, t9] ∧ DrawAt H' p (60 * i)) ⟨_, _, _, _, _, _, _, _, _, rfl, D1.same e2⟩ ?_ ?_
    · rintro i σ H4 hi ⟨t0, t2, t3, t4, t5, t6, t7, t8, t9, rfl, D2⟩
      have hi2 : i < 17 := by
        revert hi
        split <;> omega
      refine ⟨_, rfl, p, 60 * i, rfl, D2, by omega, fun v d H5 sv fv D3 k3 => ⟨v, d, rfl, sv, fv, fun H6 s6 => ⟨_, rfl, iteF ?_⟩⟩⟩
      refine ⟨_, rfl, p, 60 * i + 7, rfl, D3.same s6, by omega, fun v' d' H7 sv' fv' D4 k4 => ⟨v', d', rfl, sv', fv', fun H8 s8 => ⟨_, rfl, iteF ?_⟩⟩⟩
      -- keys
      refine ⟨_, rfl, p, 7, 60 * i + 14, rfl, D4.same s8, by omega, by decide, by decide, fun r H9 a9 b9 D9 k9 => ⟨r, rfl, by omega, by omega, fun DL nDL => ?_⟩⟩
      obtain ⟨lc, hc, oc, hoc⟩ := draw_cells D9
      have nep : DL ≠ p := fun e => by
        obtain ⟨x, y, z, h1⟩ := hc
        rw [e, h1] at nDL
        cases nDL
      have nel : DL ≠ lc := fun e => by
        rw [e, hoc] at nDL
        cases nDL
      refine lc_it walk_range (fun j H' => ∃ vs ds, AtAll vs ds ∧ vs.length = j ∧ H' DL = some (.lst vs) ∧ L2.DrawAt H' p (60 * i + 15 + 4 * j) ∧ CellsAt H' p lc) ⟨[], [], .nil, rfl, upd_same, (draw_upd D9 hc nep nel).1, (draw_upd D9 hc nep nel).2⟩ (fun _ _ _ _ => True.intro) ?_ ?_
      · rintro j x H' H'' hj ⟨vs, ds, aa, lv, hD, DD, cc⟩ ⟨rfl, rfl⟩
        refine ⟨rfl, yesT ⟨_, rfl, p, _, rfl, DD, by omega, fun v d H3 av D3 k3 => ⟨vs, k3 DL _ hD nep, ?_, vs ++ [v], ds ++ [d], aa.app (.cons av .nil), ?_, upd_same, ?_, ?_⟩⟩⟩
        · exact Nat.lt_of_le_of_lt (m := 100) (by omega) (by decide)
        · rw [List.length_append, lv]
          rfl
        · exact (draw_upd (D3.mono (by omega)) (k3.cells _ cc) nep nel).1
        · exact (draw_upd D3 (k3.cells _ cc) nep nel).2
      rintro H10 ⟨vs, ds, aa, lv, hD, D10, cc⟩
      have len7 : vs.length ≤ 7 := by omega
      refine ⟨_, rfl, DL, rfl, ⟨_, SqL.of hD⟩, fun DK nDK => lc_it walk_list (fun j H' => ∃ ws es, AtAll ws es ∧ (∀ d ∈ es, isK d = true) ∧ ws.length ≤ j ∧ H' DK = some (.lst ws) ∧ Same H10 H') ⟨[], [], .nil, (fun d m => (List.not_mem_nil m).elim), Nat.le_refl _, upd_same, same_new nDK⟩ (fun j H' _ z => by obtain ⟨_, _, _, _, _, _, s⟩ := z; exact s.seq (SqL.of hD)) ?_ ?_⟩
      · rintro j x H' H'' hj ⟨ws, es, ab, kk, lw, hK, sK⟩ ⟨rfl, hx⟩
        obtain ⟨d, ed, ax⟩ := aa.get hx
        refine ⟨rfl, ?_⟩
        refine ⟨_, rfl, x, d, rfl, (at_fine ax).2.2 _ _, (at_fine ax).1, _, rfl, ?_⟩
        cases e : isK d with
        | true =>
          refine iteT ⟨_, rfl, ws, hK, Nat.lt_of_le_of_lt (m := 100) (by omega) (by decide), ws ++ [x], es ++ [d], ab.app (.cons ax .nil), fun y m => ?_, ?_, upd_same, same_updN sK nDK⟩
          · rcases List.mem_append.mp m with m | m
            · exact kk y m
            · rw [List.mem_singleton.mp m]
              exact e
          · rw [List.length_append]
            exact Nat.succ_le_succ lw
        | false => exact iteF ⟨ws, es, ab, kk, Nat.le_succ_of_le lw, hK, sK⟩
      rintro H11 ⟨ws, es, ab, kk, lw, hK, s11⟩
      have D11 := D10.same s11
      have lw7 : ws.length ≤ 7 := by omega
      -- odd
      refine ⟨_, _, rfl, rfl, ⟨by decide, by decide, by decide⟩, _, _, rfl, rfl, ⟨by decide, by decide +kernel⟩, _, 2001, rfl, rfl, by decide, by decide +kernel, by decide +kernel, sz 1 (by decide), fun q1 m1 => ⟨sz 1 (by decide), fun q2 m2 => ⟨sz 7 (by decide), fun l1 n1 => ?_⟩⟩⟩
      have u1 := same_new (o := .tup [.int 1]) m1
      have u2 := same_new (o := .lst [.int 1]) m2
      have u3 := same_new (o := .lst [.non, .bl true, .bl false, .int ((10 ^ (60 : Int).toNat : Int) ^ (5 : Int).toNat), .str ⟨(List.replicate 2001 ("x" : Str).cps).foldl (· ++ ·) #[]⟩, .ref q1, .ref q2]) n1
      have D11' := ((D11.same u1).same u2).same u3
      have hq1 := u3 _ _ (u2 _ _ (upd_same (H := H11) (a := q1) (o := .tup [.int 1])))
      have hq2 := u3 _ _ (upd_same (H := upd H11 q1 (.tup [.int 1])) (a := q2) (o := .lst [.int 1]))
      have nq1 : q1 ≠ p := D11'.ne hq1 fun kvs z => by cases z
      have nq2 : q2 ≠ p := D11'.ne hq2 fun kvs z => by cases z
      have nl1 : l1 ≠ p := D11'.ne upd_same fun kvs z => by cases z
      have nDK : DK ≠ p := D11.ne hK fun kvs z => by cases z
      refine ⟨_, rfl, p, 7, _, rfl, D11', by omega, by decide, by decide, fun r12 H12 a12 b12 D12 k12 => ?_⟩
      have hK12 := k12 DK _ (u3 _ _ (u2 _ _ (u1 _ _ hK))) nDK
      obtain ⟨od, dd, hod, fod, god, sod⟩ : ∃ od dd, ([.non, .bl true, .bl false, .int ((10 ^ (60 : Int).toNat : Int) ^ (5 : Int).toNat), .str ⟨(List.replicate 2001 ("x" : Str).cps).foldl (· ++ ·) #[]⟩, .ref q1, .ref q2] : List V)[r12.toNat]? = some od ∧ fits dd ∧ Fine 20100 dd ∧ ∀ H', Keep p H12 H' → Sd K H' od dd := by
        obtain ⟨j, rfl⟩ := Int.eq_ofNat_of_zero_le a12
        have hj : j < 7 := by omega
        match j, hj with
        | 0, _ => exact ⟨_, _, rfl, (at_fine .non).1, (at_fine .non).2.1, fun H' _ => .non⟩
        | 1, _ => exact ⟨_, _, rfl, (at_fine (.bl true)).1, (at_fine (.bl true)).2.1, fun H' _ => .bl _⟩
        | 2, _ => exact ⟨_, _, rfl, (at_fine (.bl false)).1, (at_fine (.bl false)).2.1, fun H' _ => .bl _⟩
        | 3, _ => exact ⟨_, _, rfl, (fun x e => by cases e), ⟨by decide +kernel, (by show 1921 ≤ 20100; decide), Nat.zero_le _, fun x e => by cases e⟩, fun H' _ => .int _⟩
        | 4, _ => exact ⟨_, _, rfl, (fun x e => by cases e; show Array.size _ ≤ sizeLine; rw [size_rep]; decide), ⟨rfl, low_len (low_rep 2001) (by show Array.size _ ≤ 2001; rw [size_rep]; decide), Nat.zero_le _, fun x e => by cases e⟩, fun H' _ => .str _⟩
        | 5, _ => exact ⟨_, .tuple [.int 1], rfl, (fun x e => by cases e), ⟨by decide, by decide, by decide, fun x e d m => by cases e; cases List.mem_singleton.mp m; intro y z; cases z⟩, fun H' k => .tup (SqT.of (k q1 _ (k12 q1 _ hq1 nq1) nq1)) (.cons (.int 1) .nil)⟩
        | 6, _ => exact ⟨_, .list [.int 1], rfl, (fun x e => by cases e), ⟨by decide, by decide, by decide, fun x e => by cases e⟩, fun H' k => .lst (SqL.of (k q2 _ (k12 q2 _ hq2 nq2) nq2)) (.cons (.int 1) .nil)⟩
      refine ⟨l1, _, _, _, rfl, rfl, SqL.of (k12 l1 _ upd_same nl1), at_of (Int.toNat_of_nonneg a12).symm hod, ?_⟩
      -- at
      refine ⟨_, rfl, _, rfl, _, ws.length, rfl, .inl ⟨_, SqL.of hK12, rfl⟩, _, _, rfl, rfl, p, _, _, rfl, D12, by omega, by omega, by omega, fun r13 H13 a13 b13 D13 k13 => ?_⟩
      have hK13 := k13 DK _ hK12 nDK
      -- the three lists
      refine ⟨_, rfl, _, rfl, _, rfl, r13, rfl, DK, ws, rfl, SqL.of hK13, fun a1 n1 => ⟨_, rfl, sz 1 (by decide), fun a2 n2 => ?_⟩⟩
      have v1 := same_new (o := .lst (cutV ws none (some r13))) n1
      have v2 := same_new (o := .lst [od]) n2
      have c1 : (cutV ws none (some r13)).length ≤ 7 := Nat.le_trans (cutV_length _ _ _) lw7
      have c4 : (cutV ws (some r13) none).length ≤ 7 := Nat.le_trans (cutV_length _ _ _) lw7
      have c6 : (cutV ws none (some 1)).length ≤ 7 := Nat.le_trans (cutV_length _ _ _) lw7
      refine ⟨a1, a2, _, _, rfl, rfl, v2 _ _ upd_same, upd_same, sz _ (by rw [List.length_singleton]; omega), fun a3 n3 => ?_⟩
      have v3 := same_new (o := .lst (cutV ws none (some r13) ++ [od])) n3
      have v13 := v1.tr (v2.tr v3)
      refine ⟨_, rfl, _, rfl, r13, rfl, DK, ws, rfl, SqL.of (v13 _ _ hK13), fun a4 n4 => ?_⟩
      have v4 := same_new (o := .lst (cutV ws (some r13) none)) n4
      refine ⟨a3, a4, _, _, rfl, rfl, v4 _ _ upd_same, upd_same, sz _ (by rw [List.length_append, List.length_singleton]; omega), fun a5 n5 => ?_⟩
      have v5 := same_new (o := .lst (cutV ws none (some r13) ++ [od] ++ cutV ws (some r13) none)) n5
      have v15 := v13.tr (v4.tr v5)
      refine ⟨_, rfl, _, rfl, 1, rfl, DK, ws, rfl, SqL.of (v15 _ _ hK13), fun a6 n6 => ?_⟩
      have v6 := same_new (o := .lst (cutV ws none (some 1))) n6
      refine ⟨DK, a6, _, _, rfl, rfl, v6 _ _ (v15 _ _ hK13), upd_same, sz _ (by omega), fun a7 n7 => ?_⟩
      have v7 := same_new (o := .lst (ws ++ cutV ws none (some 1))) n7
      refine ⟨sz 3 (by decide), fun a8 n8 => ⟨a8, rfl, ⟨_, SqL.of upd_same⟩, ?_⟩⟩
      have v8 := same_new (o := .lst [.ref DK, .ref a5, .ref a7]) n8
      have v18 := v15.tr (v6.tr (v7.tr v8))
      have tests : ∀ (i : Nat) (x : V) (H' : Hp), Keep p H12 H' → H' DK = some (.lst ws) → H' a5 = some (.lst (cutV ws none (some r13) ++ [od] ++ cutV ws (some r13) none)) → H' a7 = some (.lst (ws ++ cutV ws none (some 1))) → ([.ref DK, .ref a5, .ref a7] : List V)[i]? = some x →
          ∃ l ws' ds', x = .ref l ∧ SqL K H' l ws' ∧ SdAll K H' ws' ds' ∧ ws'.length ≤ 60 ∧ ∀ d ∈ ds', fits d ∧ Fine 20100 d := fun i x H' kk' hd h5 h7 hx => by
        match i, hx with
        | 0, hx =>
          cases hx
          exact ⟨DK, ws, es, rfl, SqL.of hd, ab.sd, by omega, ab.fine⟩
        | 1, hx =>
          cases hx
          have e1 : AtAll (cutV ws none (some r13)) ((es.drop _).take _) := ab.cut _ _
          have e4 : AtAll (cutV ws (some r13) none) ((es.drop _).take _) := ab.cut _ _
          refine ⟨a5, _, _, rfl, SqL.of h5, sdall_app (sdall_app e1.sd (.cons (sod _ kk') .nil)) e4.sd, ?_, ?_⟩
          · rw [List.length_append, List.length_append, List.length_singleton]
            omega
          · intro d m
            rcases List.mem_append.mp m with m | m
            · rcases List.mem_append.mp m with m | m
              · exact e1.fine d m
              · cases List.mem_singleton.mp m
                exact ⟨fod, god⟩
            · exact e4.fine d m
        | 2, hx =>
          cases hx
          have e6 : AtAll (cutV ws none (some 1)) ((es.drop _).take _) := ab.cut _ _
          refine ⟨a7, _, _, rfl, SqL.of h7, (ab.app e6).sd, ?_, (ab.app e6).fine⟩
          rw [List.length_append]
          omega
        | n + 3, hx => cases hx
      refine for_it (walk_list (xs := [.ref DK, .ref a5, .ref a7])) (fun i σ H' => ∃ t0 t2 t6 t7 t8 t9 : Option V, σ = [t0, some (.ref p), t2, some (.ref DK), some od, some (.int r13), t6, t7, t8, t9] ∧ Same H13 H' ∧ H' a5 = some (.lst (cutV ws none (some r13) ++ [od] ++ cutV ws (some r13) none)) ∧ H' a7 = some (.lst (ws ++ cutV ws none (some 1))) ∧ H' a8 = some (.lst [.ref DK, .ref a5, .ref a7]))
        ⟨_, _, _, _, _, _, rfl, v18, v8 _ _ (v7 _ _ (v6 _ _ upd_same)), v8 _ _ upd_same, upd_same⟩ (fun i σ H' _ z => ?_) ?_ ?_
      · obtain ⟨_, _, _, _, _, _, _, _, _, _, h8⟩ := z
        exact SqL.of h8
      · rintro i x σ H' H'' hi ⟨t0, t2, t6, t7, t8, t9, rfl, s13, h5, h7, h8⟩ ⟨rfl, hx⟩
        obtain ⟨l, ws', ds', rfl, q1, q2, q3, q4⟩ := tests i x _ (k13.trans (Keep.of s13)) (s13 _ _ hK13) h5 h7 hx
        refine ⟨_, rfl, 0, l, ws', ds', rfl, q1, q2, q3, q4, fun Hx sx => ⟨_, rfl, iteF ?_⟩⟩
        refine ⟨_, rfl, 1, l, ws', ds', rfl, sx.seq q1, sdall_to q2 sx, q3, q4, fun Hy sy => ⟨_, rfl, iteF ?_⟩⟩
        have s2 := sx.tr sy
        exact ⟨_, _, _, _, _, _, rfl, s13.tr s2, s2 _ _ h5, s2 _ _ h7, s2 _ _ h8⟩
      rintro σ H14 ⟨t0, t2, t6, t7, t8, t9, rfl, s14, h5, h7, h8⟩
      -- what
      have D14 := D13.same s14
      refine ⟨_, rfl, fun b1 m1 => ⟨sz 6 (by decide), fun l2 n2 => ?_⟩⟩
      have w1 := same_new (o := .dK []) m1
      have w2 := same_new (o := .lst [.ref DK, .non, .int 5, .str "bag", .ref b1, .bl true]) n2
      have D14' := (D14.same w1).same w2
      have nb : b1 ≠ p := fun e => by
        obtain ⟨l, cs, x, y, z, h1, _⟩ := D14
        rw [e, h1] at m1
        cases m1
      have nl2 : l2 ≠ p := D14'.ne upd_same fun kvs z => by cases z
      refine ⟨_, rfl, p, 6, _, rfl, D14', by omega, by decide, by decide, fun r15 H15 a15 b15 D15 k15 => ?_⟩
      obtain ⟨wv, wd, hwv, wsd, wnt, wsh, wdp, wwt⟩ : ∃ wv wd, ([.ref DK, .non, .int 5, .str "bag", .ref b1, .bl true] : List V)[r15.toNat]? = some wv ∧ Sd K H15 wv wd ∧ isD wd "tuple" = false ∧ wd.showable = true ∧ wd.depth ≤ 30 ∧ wt wd ≤ 1000000 := by
        obtain ⟨j, rfl⟩ := Int.eq_ofNat_of_zero_le a15
        have hj : j < 6 := by omega
        match j, hj with
        | 0, _ =>
          obtain ⟨z1, z2, z3⟩ := all_ok fun d m => (ab.fine d m).2
          refine ⟨_, .list es, rfl, .lst (SqL.of (k15 DK _ (w2 _ _ (w1 _ _ (s14 _ _ hK13))) nDK)) ab.sd, rfl, z1, ?_, ?_⟩
          · show PyData.depthAll es + 1 ≤ 30
            omega
          · show wtAll es + 2 ≤ 1000000
            have := ab.len
            omega
        | 1, _ => exact ⟨_, _, rfl, .non, rfl, rfl, by decide, by decide⟩
        | 2, _ => exact ⟨_, _, rfl, .int 5, rfl, rfl, by decide, by decide⟩
        | 3, _ => exact ⟨_, _, rfl, .str "bag", rfl, rfl, by decide, by decide +kernel⟩
        | 4, _ => exact ⟨_, _, rfl, .emp (k15 b1 _ (w2 _ _ upd_same) nb), rfl, rfl, by decide, by decide⟩
        | 5, _ => exact ⟨_, _, rfl, .bl true, rfl, rfl, by decide, by decide⟩
      refine ⟨l2, _, _, wv, rfl, rfl, SqL.of (k15 l2 _ upd_same nl2), at_of (Int.toNat_of_nonneg a15).symm hwv, ?_⟩
      obtain ⟨o1, o2, o3⟩ := pair_okW (x := "key") (by decide +kernel) wsh wdp wwt
      refine ⟨_, rfl, wv, wd, rfl, wsd, wnt, fun p5 H16 s16 hp5 => ?_⟩
      refine ⟨.ref p5, .list [.str "key", wd], rfl, .lst (SqL.of hp5) (.cons (.str _) (.cons (sd_to wsd s16) .nil)), o1, o2, o3, _, rfl, sz 2 (by decide), fun q6 nq6 => ?_⟩
      have s17 := same_new (o := .lst [.str "key", wv]) nq6
      refine ⟨.ref q6, .list [.str "key", wd], rfl, .lst (SqL.of upd_same) (.cons (.str _) (.cons (sd_to wsd (s16.tr s17)) .nil)), o1, o2, o3, rfl, false, by rw [decide_eq_true rfl]; rfl, iteF ?_⟩
      exact ⟨_, _, _, _, _, _, _, _, _, rfl, (D15.same (s16.tr s17)).mono (by omega)⟩
    · rintro σ H4 ⟨t0, t2, t3, t4, t5, t6, t7, t8, t9, rfl, D2⟩
      exact k _
end
end Ky

set_option Elab.async false
set_option linter.all false
set_option maxRecDepth 100000
set_option maxHeartbeats 4000000
namespace Ky
open PySem PySem.Spec PyProof.Rows L2 StX ClX
/-! ### where the defs stand -/
def gAt (x : Str) : PySem.W.Frag → Addr := fun K => He.ga K x
def mAt (C m : Str) : PySem.W.Frag → Addr := fun K => He.ma K (He.ga K C) m
def wAt (C : Str) (T : String) (m : Str) : PySem.W.Frag → Addr := fun K => He5.wf K (He.ga K C) T m
def dF (x : Str) (i : Nat) : He5.DefA := ⟨gAt x, x, x, defArgs (top i), defBody (top i), defScope (top i), [], []⟩
def dM (a : PySem.W.Frag → Addr) (x qual : Str) (st : Stmt) (ds : List He.Dv) : He5.DefA := ⟨a, x, qual, defArgs st, defBody st, defScope st, ds, []⟩
def oDf : PySem.W.Frag → Addr := He.dflAt ("Octets", some "__init__") 0
def fn : List He5.DefA := [dF "is_integer" 4, dF "is_text" 5, dF "is_key" 6, dF "are_octets" 7, dF "require_key" 20, dF "ascending" 21, dF "add_members" 22,
  dF "_law_begin" 24, dF "_law_mixed" 25, dF "_law_next" 26, dF "_law_atom" 27, dF "_law_tuple" 28, dF "_law_is_octets" 29, dF "_law_octets_right" 30, dF "_law_is_key" 31, dF "_law_due" 32, dF "_law_bag" 33, dF "_law_bag_right" 34, dF "_law_word" 35, dF "law" 36,
  dM (mAt "InvalidNumbers" "__init__") "__init__" "InvalidNumbers.__init__" (inClass (top 12) 0) [], dM (mAt "InvalidKey" "__init__") "__init__" "InvalidKey.__init__" (inClass (top 13) 0) [], dM (mAt "KeyTaken" "__init__") "__init__" "KeyTaken.__init__" (inClass (top 14) 0) [],
  dM (mAt "Octets" "__init__") "__init__" "Octets.__init__" sOctI [.adr oDf], dM (wAt "Octets" "property" "numbers") "numbers" "Octets.numbers" sOctN [], dM (wAt "Octets" "property" "shape") "shape" "Node.shape" sShape [],
  dM (mAt "Octets" "children") "children" "Node.children" sChildren [], dM (mAt "Octets" "_contents") "_contents" "Node._contents" sCont0 [],
  dM (mAt "Bag" "__init__") "__init__" "Bag.__init__" sBagI [], dM (wAt "Bag" "classmethod" "of") "of" "Bag.of" sBagOf [], dM (wAt "Bag" "property" "members") "members" "Bag.members" sBagM [], dM (wAt "Bag" "property" "shape") "shape" "Node.shape" sShape [],
  dM (mAt "Bag" "children") "children" "Node.children" sChildren [], dM (mAt "Bag" "_contents") "_contents" "Bag._contents" sBagK []]
def fa : List He.Fa := [.glo "is_integer", .glo "is_text", .glo "is_key", .glo "are_octets", .glo "require_key", .glo "ascending", .glo "add_members",
  .glo "_law_begin", .glo "_law_mixed", .glo "_law_next", .glo "_law_atom", .glo "_law_tuple", .glo "_law_is_octets", .glo "_law_octets_right", .glo "_law_is_key", .glo "_law_due", .glo "_law_bag", .glo "_law_bag_right", .glo "_law_word", .glo "law",
  .glo "InvalidNumbers", .glo "InvalidKey", .glo "KeyTaken", .glo "JarError", .glo "StateError", .glo "MissingError", .glo "Octets", .glo "Bag",
  .free "isinstance", .free "int", .free "bool", .free "str", .free "tuple", .free "len", .free "all", .free "sorted", .free "list", .free "repr", .free "range", .free "min",
  .int "ATOM_LIMIT" big, .int "TEXT_LIMIT" 2000, .int "NUMBERS_LIMIT" 2000, .int "OCTET_LIMIT" 256,
  .cls "Octets", .noat "Octets" "_numbers", .meth "Octets" "children", .meth "Octets" "_contents", .mkr "Octets",
  .cls "Bag", .noat "Bag" "_entries", .meth "Bag" "children", .meth "Bag" "_contents", .mkr "Bag", .free "type", .free "set"]
/-! ### the rest, as one Bool -/
def errB (K : PySem.W.Frag) (x fld : Str) : Bool :=
  decide (PySem.W.findIn K (.ref (gC K x)) "__init__" = some (some (.ref (mAt x "__init__" K)))) && (decide (PySem.W.typeIn K (.ref (mAt x "__init__" K)) = some (.type "function")) && (decide (PySem.W.findIn K (.ref (gC K x)) fld = some none) &&
  (decide (PySem.W.kitOne K (.ref (gC K x)) (.ref (gC K x)) = some true) && decide (PySem.W.exmAny K (.ref (gC K x)) [.ref (gC K "JarError"), .ref (gC K "StateError"), .ref (gC K "MissingError")] = some true))))
def propB (K : PySem.W.Frag) (C m : Str) : Bool :=
  He.eqO (PySem.W.findIn K (.ref (gC K C)) m) (some (some (.ref (mAt C m K)))) && (He.eqO (PySem.W.specialIn K (.ref (mAt C m K)) "__get__") (some (some (.builtin "property.__get__"))) && (decide (PySem.W.takesIn K (.ref (mAt C m K)) = some true) &&
  (match PySem.W.recIn K (mAt C m K) "property" with
    | some (.ref _ :: _) => true
    | _ => false)))
def eqB (K : PySem.W.Frag) (C : Str) : Bool :=
  He.eqO (PySem.W.findIn K (.ref (gC K C)) "__eq__") (some (some (.builtin "object.__eq__"))) && (decide (PySem.W.mroIn K (gC K C) (.type "object") = some true) && decide (PySem.W.mroIn K (gC K C) (.ref (gC K C)) = some true))
def empB (K : PySem.W.Frag) (a : Addr) : Bool := match K.lookup a with
  | some ⟨.type c, _, .seq its _, _⟩ => decide (c = "tuple") && decide (its.size = 0)
  | _ => false
def chk (K : PySem.W.Frag) : Bool :=
  sysB K && (xcB K (gC K "InvalidNumbers") bmVE "ValueError.__new__" && (xcB K (gC K "InvalidKey") bmVE "ValueError.__new__" && (xcB K (gC K "KeyTaken") bmRE "RuntimeError.__new__" &&
  (errB K "InvalidNumbers" "value" && (errB K "InvalidKey" "key" && (errB K "KeyTaken" "key" && (decide (PySem.W.kitOne K (.ref (gC K "KeyTaken")) (.ref (gC K "InvalidKey")) = some false) &&
  (propB K "Octets" "numbers" && (propB K "Octets" "shape" && (propB K "Bag" "members" && (propB K "Bag" "shape" &&
  (He.conB K "Octets" "SHAPE" (.str "octets") && (He.conB K "Bag" "SHAPE" (.str "bag") && (eqB K "Octets" && (eqB K "Bag" &&
  (PySem.W.readsIn K (gC K "Bag") (.type "type") && (He5.wrapB K (gC K "Bag") "classmethod" "classmethod.__get__" "of" && (PySem.W.fnIn K (wAt "Bag" "classmethod" "of" K) && empB K (oDf K)))))))))))))))))))
section
variable {P : Program} {w : World} {K : PySem.W.Frag} {mg : Str → Option Value} {base : Heap}
structure ErrI (K : PySem.W.Frag) (x fld : Str) : Prop where
  ini : PySem.W.findIn K (.ref (gC K x)) "__init__" = some (some (.ref (mAt x "__init__" K)))
  fn : PySem.W.typeIn K (.ref (mAt x "__init__" K)) = some (.type "function")
  no : PySem.W.findIn K (.ref (gC K x)) fld = some none
  kit : PySem.W.kitOne K (.ref (gC K x)) (.ref (gC K x)) = some true
  exm : PySem.W.exmAny K (.ref (gC K x)) [.ref (gC K "JarError"), .ref (gC K "StateError"), .ref (gC K "MissingError")] = some true
theorem err_ok {x fld : Str} (h : errB K x fld = true) : ErrI K x fld := by
  obtain ⟨h1, h⟩ := band h
  obtain ⟨h2, h⟩ := band h
  obtain ⟨h3, h⟩ := band h
  obtain ⟨h4, h5⟩ := band h
  exact ⟨of_decide_eq_true h1, of_decide_eq_true h2, of_decide_eq_true h3, of_decide_eq_true h4, of_decide_eq_true h5⟩
theorem prop_ok {C m : Str} (h : propB K C m = true) : PropOf K (gC K C) m (mAt C m K) (wAt C "property" m K) := by
  obtain ⟨h1, h⟩ := band h
  obtain ⟨h2, h⟩ := band h
  obtain ⟨h3, h4⟩ := band h
  refine ⟨He.eqO_ok h1, He.eqO_ok h2, of_decide_eq_true h3, ?_⟩
  show ∃ rest, PySem.W.recIn K (mAt C m K) "property" = some (.ref (match PySem.W.recIn K (mAt C m K) "property" with
    | some (.ref f :: _) => f
    | _ => 0) :: rest)
  split at h4
  · rename_i f r e
    exact ⟨r, by rw [e]⟩
  · cases h4
theorem eq_ok {C : Str} (h : eqB K C = true) : VxS.EqC K (gC K C) ∧ PySem.W.mroIn K (gC K C) (.ref (gC K C)) = some true := by
  obtain ⟨h1, h⟩ := band h
  obtain ⟨h2, h3⟩ := band h
  exact ⟨⟨He.eqO_ok h1, of_decide_eq_true h2⟩, of_decide_eq_true h3⟩
theorem emp_ok {a : Addr} (h : empB K a = true) (H : Hp) : SqT K H a [] := by
  unfold empB at h
  cases q : K.lookup a with
  | none =>
    rw [q] at h
    cases h
  | some o =>
    obtain ⟨oc, od, dt, osl⟩ := o
    rw [q] at h
    cases oc with
    | type c =>
      cases dt with
      | seq its n =>
        obtain ⟨h1, h2⟩ := band (show (decide (c = "tuple") && decide (its.size = 0)) = true from h)
        have e : its = #[] := Array.size_eq_zero_iff.mp (of_decide_eq_true h2)
        subst e
        exact .inr ⟨_, #[], n, q, congrArg Value.type (of_decide_eq_true h1), rfl, Nat.zero_le _, .nil⟩
      | _ => cases h
    | _ => cases dt <;> cases h
theorem read_ok {C : Addr} (h : PySem.W.readsIn K C (.type "type") = true) : ClX.CRead K C (.type "type") := by
  refine ⟨h, ?_⟩
  unfold PySem.W.readsIn at h
  obtain ⟨h, _⟩ := band h
  obtain ⟨h, _⟩ := band h
  obtain ⟨h, h3⟩ := band h
  obtain ⟨_, h2⟩ := band h
  unfold PySem.W.specialIn
  rw [beq_iff_eq.mp h2, Option.bind_some]
  exact beq_iff_eq.mp h3
abbrev FnI (K : PySem.W.Frag) (x : Str) (i : Nat) (fd : FuncData) : Prop := FunD K "__init__" (x ++ ".__init__") (defArgs (inClass (top i) 0)) (defBody (inClass (top i) 0)) (defScope (inClass (top i) 0)) [] [] (mAt x "__init__" K) fd
theorem xk_n (T : Xc K (gC K "InvalidNumbers")) (c : ErrI K "InvalidNumbers" "value") (F : ∃ fd, FnI K "InvalidNumbers" 12 fd) (hm : mg "InvalidNumbers" = some (.ref (gC K "InvalidNumbers"))) : XK1 P w K mg base "InvalidNumbers" "value" (gC K "InvalidNumbers") := by
  obtain ⟨fd, F⟩ := F
  have sc : FnScope ["self", "value"] ["self", "value"] (defScope (inClass (top 12) 0)) := ⟨rfl, rfl, rfl, by decide +kernel, rfl, by decide +kernel, by decide +kernel⟩
  refine ⟨T, hm, c.no, _, fd, c.ini, c.fn, F.ok sc (fun vs H Q E h => ?_) (fun cdv A outer s H vs Q E hr h => ⟨_, PSs.nox (pss_one (ps_xst (pv 0) (pv 1))), ?_⟩), F.bindsN (fun _ _ _ _ _ _ us hl => match us, hl with | [_, _], _ => rfl), fun s a ws kin hl => ?_⟩
  · obtain ⟨a, v, rfl, _⟩ := h
    rfl
  · obtain ⟨a, v, rfl, ha, k⟩ := h
    exact ⟨_, rfl, _, rfl, a, _, rfl, T, c.no, .inl ⟨ha, fun dx n ne => k dx n ne⟩⟩
  · obtain ⟨oc, od, dV, kV, doc, pm, an, cdv, ct, osl, rfl, lk, hcd, hD, hK⟩ := F.ex
    rcases hD with ⟨_, rfl⟩ | ⟨e, _⟩
    · match ws, hl with
      | [r], _ => exact .of_eq rfl
    · exact absurd rfl e
theorem xk_k (T : Xc K (gC K "InvalidKey")) (c : ErrI K "InvalidKey" "key") (F : ∃ fd, FnI K "InvalidKey" 13 fd) (hm : mg "InvalidKey" = some (.ref (gC K "InvalidKey"))) : XK1 P w K mg base "InvalidKey" "key" (gC K "InvalidKey") := by
  obtain ⟨fd, F⟩ := F
  have sc : FnScope ["self", "key"] ["self", "key"] (defScope (inClass (top 13) 0)) := ⟨rfl, rfl, rfl, by decide +kernel, rfl, by decide +kernel, by decide +kernel⟩
  refine ⟨T, hm, c.no, _, fd, c.ini, c.fn, F.ok sc (fun vs H Q E h => ?_) (fun cdv A outer s H vs Q E hr h => ⟨_, PSs.nox (pss_one (ps_xst (pv 0) (pv 1))), ?_⟩), F.bindsN (fun _ _ _ _ _ _ us hl => match us, hl with | [_, _], _ => rfl), fun s a ws kin hl => ?_⟩
  · obtain ⟨a, v, rfl, _⟩ := h
    rfl
  · obtain ⟨a, v, rfl, ha, k⟩ := h
    exact ⟨_, rfl, _, rfl, a, _, rfl, T, c.no, .inl ⟨ha, fun dx n ne => k dx n ne⟩⟩
  · obtain ⟨oc, od, dV, kV, doc, pm, an, cdv, ct, osl, rfl, lk, hcd, hD, hK⟩ := F.ex
    rcases hD with ⟨_, rfl⟩ | ⟨e, _⟩
    · match ws, hl with
      | [r], _ => exact .of_eq rfl
    · exact absurd rfl e
theorem xk_t (T : Xc K (gC K "KeyTaken")) (c : ErrI K "KeyTaken" "key") (F : ∃ fd, FnI K "KeyTaken" 14 fd) (hm : mg "KeyTaken" = some (.ref (gC K "KeyTaken"))) : XK1 P w K mg base "KeyTaken" "key" (gC K "KeyTaken") := by
  obtain ⟨fd, F⟩ := F
  have sc : FnScope ["self", "key"] ["self", "key"] (defScope (inClass (top 14) 0)) := ⟨rfl, rfl, rfl, by decide +kernel, rfl, by decide +kernel, by decide +kernel⟩
  refine ⟨T, hm, c.no, _, fd, c.ini, c.fn, F.ok sc (fun vs H Q E h => ?_) (fun cdv A outer s H vs Q E hr h => ⟨_, PSs.nox (pss_one (ps_xst (pv 0) (pv 1))), ?_⟩), F.bindsN (fun _ _ _ _ _ _ us hl => match us, hl with | [_, _], _ => rfl), fun s a ws kin hl => ?_⟩
  · obtain ⟨a, v, rfl, _⟩ := h
    rfl
  · obtain ⟨a, v, rfl, ha, k⟩ := h
    exact ⟨_, rfl, _, rfl, a, _, rfl, T, c.no, .inl ⟨ha, fun dx n ne => k dx n ne⟩⟩
  · obtain ⟨oc, od, dV, kV, doc, pm, an, cdv, ct, osl, rfl, lk, hcd, hD, hK⟩ := F.ex
    rcases hD with ⟨_, rfl⟩ | ⟨e, _⟩
    · match ws, hl with
      | [r], _ => exact .of_eq rfl
    · exact absurd rfl e
end
end Ky
namespace He
open PySem PySem.Spec PyProof.Rows L2
/-- sys.modules beside the module's names, defs at any address, one Bool more -/
def obsSA (n : Nat) (fa : List Fa) (fn : List He5.DefA) (chk : PySem.W.Frag → Bool) (g : Addr → Option Obj) : AlD × Bool := (He5.obsA fa fn (frG g (sysModules :: He5.asA g n)), chk (frG g (sysModules :: He5.asA g n)))
def hookSA (n : Nat) (fa : List Fa) (fn : List He5.DefA) (chk : PySem.W.Frag → Bool) : PySem.W.Hook where
  α := AlD × Bool
  obs := fun s => obsSA n fa fn chk s.heap.get?
  val := fun _ => (He5.valA fn, true)
  says := fun _ h => ∃ K : PySem.W.Frag, K.In h ∧ He5.SaysA fa fn K ∧ chk K = true
  of := fun _ _ e => ⟨_, frG_in, congrArg Prod.fst e, congrArg Prod.snd e⟩
  keeps := fun _ _ _ ⟨K, hK, c⟩ k => ⟨K, PySem.W.Frag.In.keeps hK k, c⟩
theorem obsSA_eq {n : Nat} {fa : List Fa} {fn : List He5.DefA} {chk : PySem.W.Frag → Bool} {g : Addr → Option Obj} {s : Shared} (h : ∀ a, g a = s.heap.get? a) : obsSA n fa fn chk g = (hookSA n fa fn chk).obs s := by
  have e : g = s.heap.get? := funext h
  rw [e] <;> rfl
end He

set_option Elab.async false
set_option linter.all false
set_option maxRecDepth 100000
set_option maxHeartbeats 0
namespace Ky
open PySem PySem.Spec PyProof.Rows L2
abbrev R : PySem.W.OpenRow := PySem.W.OpenLaw.row PySem.Challenge.rw_brinejar_k02_octets_and_bags
abbrev hk : PySem.W.Hook := He.hookSA 6 fa fn chk
def ob (s : PySem.W.SharedT) : He.AlD × Bool := He.obsSA 6 fa fn chk (HandSHeadRun.getT s)
theorem ob_eq (s : PySem.W.SharedT) : ob s = hk.obs s.abs := He.obsSA_eq (HandSHeadRun.getT_eq s)
def loose : List Str := (["__name__", "ATOM_LIMIT", "TEXT_LIMIT", "OCTET_LIMIT", "is_integer", "is_text", "is_key", "are_octets", "JarError", "StateError", "MissingError", "InvalidNumbers", "InvalidKey", "KeyTaken", "NUMBERS_LIMIT"] : List Str) ++ (["Node", "Octets", "Bag", "require_key", "ascending", "add_members",
  "_law_begin", "_law_mixed", "_law_next", "_law_atom", "_law_tuple", "_law_is_octets", "_law_octets_right", "_law_is_key", "_law_due", "_law_bag", "_law_bag_right", "_law_word"] : List Str)
theorem run (w : World) : HandSHeadRun.RunEq R (PySem.W.view R.prog [36]) hk ob 8000 loose w := by
  intro os
  kernel_rfl
end Ky

set_option Elab.async false
set_option linter.all false
set_option maxRecDepth 100000
set_option maxHeartbeats 4000000
namespace Ky
open PySem PySem.Spec PyProof.Rows L2 StX ClX
section
variable {P : Program} {w : World} {K : PySem.W.Frag} {mg : Str → Option Value} {h : Heap}
theorem fn_glo (c : He5.SaysA fa fn K) (X : K.In h) (G : h.Ns mainGlobals mg) (i : Nat) {x : Str} {n : Nat} (e1 : fn[i]? = some (dF x n)) (e2 : fa[i]? = some (.glo x)) : ∃ f fd, FnP K x (top n) f fd ∧ mg x = some (.ref f) := by
  obtain ⟨fd, F⟩ := c.def_ i e1
  exact ⟨He.ga K x, fd, F, He.glo_ok X G (c.fact i e2)⟩
theorem fn_m (c : He5.SaysA fa fn K) (i : Nat) {a : PySem.W.Frag → Addr} {x q : Str} {st : Stmt} (e1 : fn[i]? = some (dM a x q st [])) : ∃ fd, FnM K x q st [] (a K) fd := c.def_ i e1
theorem nm_of (c : He5.SaysA fa fn K) (X : K.In h) (G : h.Ns mainGlobals mg) : Nm mg where
  isi := He.free_ok X G (c.fact 28 (f := .free "isinstance") rfl)
  int := He.free_ok X G (c.fact 29 (f := .free "int") rfl)
  bool := He.free_ok X G (c.fact 30 (f := .free "bool") rfl)
  str := He.free_ok X G (c.fact 31 (f := .free "str") rfl)
  tuple := He.free_ok X G (c.fact 32 (f := .free "tuple") rfl)
  len := He.free_ok X G (c.fact 33 (f := .free "len") rfl)
  all := He.free_ok X G (c.fact 34 (f := .free "all") rfl)
  sorted := He.free_ok X G (c.fact 35 (f := .free "sorted") rfl)
  list := He.free_ok X G (c.fact 36 (f := .free "list") rfl)
  repr := He.free_ok X G (c.fact 37 (f := .free "repr") rfl)
  rng := He.free_ok X G (c.fact 38 (f := .free "range") rfl)
  min := He.free_ok X G (c.fact 39 (f := .free "min") rfl)
  atom := He.int_ok X G (c.fact 40 (f := .int "ATOM_LIMIT" big) rfl)
  text := He.int_ok X G (c.fact 41 (f := .int "TEXT_LIMIT" 2000) rfl)
  nums := He.int_ok X G (c.fact 42 (f := .int "NUMBERS_LIMIT" 2000) rfl)
  num := He.int_ok X G (c.fact 43 (f := .int "OCTET_LIMIT" 256) rfl)
  type := He.free_ok X G (c.fact 54 (f := .free "type") rfl)
  set := He.free_ok X G (c.fact 55 (f := .free "set") rfl)
theorem ts_of (c : He5.SaysA fa fn K) (X : K.In h) (G : h.Ns mainGlobals mg) : Ts K mg :=
  ⟨fn_glo c X G 0 rfl rfl, fn_glo c X G 1 rfl rfl, fn_glo c X G 2 rfl rfl, fn_glo c X G 4 rfl rfl, fn_glo c X G 3 rfl rfl⟩
theorem lf_of (c : He5.SaysA fa fn K) (X : K.In h) (G : h.Ns mainGlobals mg) : LF K mg :=
  ⟨fn_glo c X G 7 rfl rfl, fn_glo c X G 8 rfl rfl, fn_glo c X G 9 rfl rfl, fn_glo c X G 10 rfl rfl, fn_glo c X G 11 rfl rfl, fn_glo c X G 12 rfl rfl, fn_glo c X G 13 rfl rfl, fn_glo c X G 14 rfl rfl, fn_glo c X G 15 rfl rfl, fn_glo c X G 16 rfl rfl, fn_glo c X G 17 rfl rfl, fn_glo c X G 18 rfl rfl⟩
/-- the Bool's parts -/
structure Ck (K : PySem.W.Frag) : Prop where
  sys : SysK K
  tn : Xc K (gC K "InvalidNumbers")
  tk : Xc K (gC K "InvalidKey")
  tt : Xc K (gC K "KeyTaken")
  en : ErrI K "InvalidNumbers" "value"
  ek : ErrI K "InvalidKey" "key"
  et : ErrI K "KeyTaken" "key"
  no : PySem.W.kitOne K (.ref (gC K "KeyTaken")) (.ref (gC K "InvalidKey")) = some false
  on : PropOf K (gC K "Octets") "numbers" (mAt "Octets" "numbers" K) (wAt "Octets" "property" "numbers" K)
  os : PropOf K (gC K "Octets") "shape" (mAt "Octets" "shape" K) (wAt "Octets" "property" "shape" K)
  bm : PropOf K (gC K "Bag") "members" (mAt "Bag" "members" K) (wAt "Bag" "property" "members" K)
  bs : PropOf K (gC K "Bag") "shape" (mAt "Bag" "shape" K) (wAt "Bag" "property" "shape" K)
  co : ∃ u, Con K (gC K "Octets") "SHAPE" (.str "octets") u
  cb : ∃ u, Con K (gC K "Bag") "SHAPE" (.str "bag") u
  eo : VxS.EqC K (gC K "Octets") ∧ PySem.W.mroIn K (gC K "Octets") (.ref (gC K "Octets")) = some true
  eb : VxS.EqC K (gC K "Bag") ∧ PySem.W.mroIn K (gC K "Bag") (.ref (gC K "Bag")) = some true
  rd : ClX.CRead K (gC K "Bag") (.type "type")
  cm : ClX.CMet K (gC K "Bag") (.type "type") "of" (He.ma K (gC K "Bag") "of") (wAt "Bag" "classmethod" "of" K)
  df : ∀ H, SqT K H (oDf K) []
theorem ck_of (k : chk K = true) : Ck K := by
  obtain ⟨h1, k⟩ := band k
  obtain ⟨h2, k⟩ := band k
  obtain ⟨h3, k⟩ := band k
  obtain ⟨h4, k⟩ := band k
  obtain ⟨h5, k⟩ := band k
  obtain ⟨h6, k⟩ := band k
  obtain ⟨h7, k⟩ := band k
  obtain ⟨h8, k⟩ := band k
  obtain ⟨h9, k⟩ := band k
  obtain ⟨h10, k⟩ := band k
  obtain ⟨h11, k⟩ := band k
  obtain ⟨h12, k⟩ := band k
  obtain ⟨h13, k⟩ := band k
  obtain ⟨h14, k⟩ := band k
  obtain ⟨h15, k⟩ := band k
  obtain ⟨h16, k⟩ := band k
  obtain ⟨h17, k⟩ := band k
  obtain ⟨h18, k⟩ := band k
  obtain ⟨h19, h20⟩ := band k
  exact ⟨sys_of h1, xc_VE h2, xc_VE h3, xc_RE h4, err_ok h5, err_ok h6, err_ok h7, of_decide_eq_true h8, prop_ok h9, prop_ok h10, prop_ok h11, prop_ok h12, He.conB_ok h13, He.conB_ok h14, eq_ok h15, eq_ok h16, read_ok h17, He5.cmet_of h18 h19, emp_ok h20⟩
theorem es_of (c : He5.SaysA fa fn K) (X : K.In h) (G : h.Ns mainGlobals mg) (k : Ck K) (base : Heap) : Es P w K mg base :=
  ⟨xk_n k.tn k.en (c.def_ 20 rfl) (He.glo_ok X G (c.fact 20 (f := .glo "InvalidNumbers") rfl)), xk_k k.tk k.ek (c.def_ 21 rfl) (He.glo_ok X G (c.fact 21 (f := .glo "InvalidKey") rfl)), xk_t k.tt k.et (c.def_ 22 rfl) (He.glo_ok X G (c.fact 22 (f := .glo "KeyTaken") rfl))⟩
theorem catch_of (c : He5.SaysA fa fn K) (X : K.In h) (G : h.Ns mainGlobals mg) {x fld : Str} (T : Xc K (gC K x)) (e : ErrI K x fld) (g : mg x = some (.ref (gC K x))) : CatchF K mg (gC K x) x fld :=
  ⟨⟨_, _, _, He.glo_ok X G (c.fact 23 (f := .glo "JarError") rfl), He.glo_ok X G (c.fact 24 (f := .glo "StateError") rfl), He.glo_ok X G (c.fact 25 (f := .glo "MissingError") rfl), e.exm⟩, T, e.no, g, e.kit⟩
theorem oct_of (c : He5.SaysA fa fn K) (X : K.In h) (G : h.Ns mainGlobals mg) (k : Ck K) : OctF P w K mg (gC K "Octets") where
  cls := He.cls_ok (c.fact 44 (f := .cls "Octets") rfl)
  noN := He.noat_ok (c.fact 45 (f := .noat "Octets" "_numbers") rfl)
  nm := He.glo_ok X G (c.fact 26 (f := .glo "Octets") rfl)
  init := by
    obtain ⟨fd, F⟩ := c.def_ 23 rfl
    exact ⟨_, fd, _, He.mkr_ok (c.fact 48 (f := .mkr "Octets") rfl), F, k.df⟩
  nums := by
    obtain ⟨fd, F⟩ := fn_m c 24 rfl
    exact ⟨_, _, fd, k.on, F⟩
  shape := by
    obtain ⟨fd, F⟩ := fn_m c 25 rfl
    obtain ⟨u, hu⟩ := k.co
    exact ⟨_, _, fd, u, k.os, F, hu⟩
  kids := by
    obtain ⟨fd, F⟩ := fn_m c 26 rfl
    exact ⟨_, fd, He.meth_ok (c.fact 46 (f := .meth "Octets" "children") rfl), F⟩
  cont := by
    obtain ⟨fd, F⟩ := fn_m c 27 rfl
    exact ⟨_, fd, He.meth_ok (c.fact 47 (f := .meth "Octets" "_contents") rfl), F⟩
  eqc := k.eo.1
  mro := k.eo.2
theorem bag_of (c : He5.SaysA fa fn K) (X : K.In h) (G : h.Ns mainGlobals mg) (k : Ck K) : BagF P w K mg (gC K "Bag") where
  cls := He.cls_ok (c.fact 49 (f := .cls "Bag") rfl)
  noM := He.noat_ok (c.fact 50 (f := .noat "Bag" "_entries") rfl)
  add := fn_glo c X G 6 rfl rfl
  asc := fn_glo c X G 5 rfl rfl
  nm := He.glo_ok X G (c.fact 27 (f := .glo "Bag") rfl)
  init := by
    obtain ⟨fd, F⟩ := fn_m c 28 rfl
    exact ⟨_, fd, He.mkr_ok (c.fact 53 (f := .mkr "Bag") rfl), F⟩
  of := by
    obtain ⟨fd, F⟩ := fn_m c 29 rfl
    exact ⟨_, _, _, fd, k.rd, k.cm, F⟩
  mem := by
    obtain ⟨fd, F⟩ := fn_m c 30 rfl
    exact ⟨_, _, fd, k.bm, F⟩
  shape := by
    obtain ⟨fd, F⟩ := fn_m c 31 rfl
    obtain ⟨u, hu⟩ := k.cb
    exact ⟨_, _, fd, u, k.bs, F, hu⟩
  kids := by
    obtain ⟨fd, F⟩ := fn_m c 32 rfl
    exact ⟨_, fd, He.meth_ok (c.fact 51 (f := .meth "Bag" "children") rfl), F⟩
  cont := by
    obtain ⟨fd, F⟩ := fn_m c 33 rfl
    exact ⟨_, fd, He.meth_ok (c.fact 52 (f := .meth "Bag" "_contents") rfl), F⟩
  eqc := k.eb.1
  mro := k.eb.2
theorem facts {f : Addr} (X : K.In h) (G : h.Ns mainGlobals mg) (hfa : mg ("law" : Str) = some (.ref f)) (c : He5.SaysA fa fn K) (k : chk K = true) :
    ∃ fd : FuncData, (∀ (s : Shared) (v : Value), BindsTo s fd ⟨[v], []⟩ [("script", v)]) ∧ ∀ base : Heap, K.In base → base.Ns mainGlobals mg → FnG P w K mg base CX0 11 f fd ["script"] (spLaw K) := by
  have k := ck_of k
  obtain ⟨fL, fd, F, g⟩ := fn_glo c X G 19 (x := "law") (n := 36) rfl rfl
  have e := hfa.symm.trans g
  cases e
  have b := FunD.bindsA (ps := ["script"]) F fun _ _ _ _ _ _ us hl => match us, hl with | [_], _ => rfl
  have ck := catch_of c X G k.tk k.ek (He.glo_ok X G (c.fact 21 (f := .glo "InvalidKey") rfl))
  have ct := catch_of c X G k.tt k.et (He.glo_ok X G (c.fact 22 (f := .glo "KeyTaken") rfl))
  have cn := catch_of c X G k.tn k.en (He.glo_ok X G (c.fact 20 (f := .glo "InvalidNumbers") rfl))
  exact ⟨fd, fun s v => b s [v] rfl, fun base _ _ => ok_law F (nm_of c X G) (ts_of c X G) (es_of c X G k base) k.sys (lf_of c X G) ⟨_, oct_of c X G k⟩ (bag_of c X G k) cn ⟨ck, ct, k.no⟩⟩
end
end Ky
open PySem PySem.W PySem.Calls PyProof.Rows
theorem PySem.Challenge.cw_brinejar_k02_octets_and_bags_holds : PySem.Challenge.rw_brinejar_k02_octets_and_bags.Holds := by
  w_on
  o_law
  refine HandSHeadRun.head_any (r := OpenLaw.row PySem.Challenge.rw_brinejar_k02_octets_and_bags) (q := view (OpenLaw.row PySem.Challenge.rw_brinejar_k02_octets_and_bags).prog [36]) (H := Ky.hk) (ob := Ky.ob) (M := 8000) (loose := Ky.loose) (d := HandSHeadRun.topDef (OpenLaw.row PySem.Challenge.rw_brinejar_k02_octets_and_bags).prog 36) (kwd := []) Ky.ob_eq
    (by kernel_rfl) (fun s => by kernel_rfl) Ky.run (by kernel_rfl) (by kernel_rfl) (by kernel_rfl) (by rfl) (by first | assumption | decide +kernel) (by decide +kernel) ⟨rfl, rfl, rfl, rfl, rfl, by decide +kernel⟩ ?hw ?hc
  case hw => w_witness2
  case hc =>
    refine L2.walk_ofG (l := PySem.Challenge.rw_brinejar_k02_octets_and_bags) (n := 63) (k := 11) (x := "script") rfl (by decide) (by kernel_rfl) ⟨rfl, by decide, by decide⟩ ?F
    intro w mg fa h Y G hmg0
    obtain ⟨K, KX, c, k⟩ := Y
    have hmg : mg ("law" : PySem.Str) = some (.ref fa) := by
      have e : (HandSHeadRun.topDef (OpenLaw.row PySem.Challenge.rw_brinejar_k02_octets_and_bags).prog 36).name = ("law" : PySem.Str) := by kernel_rfl
      rw [← e]
      exact hmg0
    obtain ⟨fd, hb, hF⟩ := Ky.facts (P := (PySem.Challenge.rw_brinejar_k02_octets_and_bags).prog) (w := w) KX G hmg c k
    exact ⟨K, fd, Ky.spLaw K, KX, hb, fun H a ns hl _ hS => ⟨a, ns, rfl, hS, hl, fun _ => rfl⟩, hF⟩
