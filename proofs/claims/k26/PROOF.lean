import PyProof.Rows.All
import Wide.All
import OpenK.AllK
import Wide.FinOn
import HandS.ForMost
import HandS.Exc
import HandS.ExcOwn
import HandS.HeadEnd
import KE.DataEq
import KE.DataIsa
import KE.DataAny
import KE.DataCmp
import KE.SortData
import PyProof.ReprRoads
import HandS.Lambda
import HandS.TupAny
import HandS.IsInst
import HandS.Style
import HandS.Conv
import HandS.Defaults
import HandS.Zip
import HandS.Words
import HandS.Walk
import HandS.WordsExc
import HandS.Comp
import KE.KRevSl
import HandS.TupSets
import HandS.Head0
import HandS.Head1
import HandS.Head2
import HandS.HeadHook1
import HandS.HeadHook2
import HandS.ExcInit
import HandS.ExcIs
import HandS.ExcField
import HandS.HotCalls
import KE.KExcIs
import HandS.EndTab
import HandS.HeadHook4
import PyProof.EqKinds
import HandS.FStr
import KE.GoesEnum
import HandS.SetFor
import HandS.Strs
import PyProof.StrBlock2
import HandS.DictComp
import HandS.TryOnly
import KE.KxWritten
import HandS.MakeKwOnly
import HandS.More
import HandS.Small
import HandS.TupMul
import KE.GoesRaise
import HandS.Text
import PySem.Challenge.RW_keptends_k26_whole_texts_read
set_option Elab.async false
set_option linter.all false
set_option maxRecDepth 100000
set_option maxHeartbeats 4000000
namespace Mir
open PySem PySem.Spec PyProof.Rows L2

/-- a def's promise where no repr is under way -/
structure FnG (P : Program) (w : World) (K : PySem.W.Frag) (mg : Str → Option Value) (base : Heap) (CX : CXT) (k : Nat) (f : Addr) (fd : FuncData) (ps : List Str) (sp : Sp) : Prop where
  len : ∀ vs H Q E, sp vs H Q E → vs.length = ps.length
  run : ∀ (A : Around) (outer : List Env) (s : Shared) (H : Hp) (args : Args) (us : List Value) (vs : List V) (Q : VK) (E : XK), Room k A → A.guards = some [] → Env0 P w K mg base A outer s H → BindsTo s fd args (ps.zip us) → Vals vs us → sp vs H Q E →
    codeAny (model P w) A (.call (.ref f) args) (CR CX outer P w H s Q E) s
theorem FnG.mono {P : Program} {w : World} {K : PySem.W.Frag} {mg : Str → Option Value} {base : Heap} {CX : CXT} {j k : Nat} {f : Addr} {fd : FuncData} {ps : List Str} {sp : Sp} (F : FnG P w K mg base CX j f fd ps sp) (h : j ≤ k) :
    FnG P w K mg base CX k f fd ps sp := ⟨F.len, fun A outer s H args us vs Q E hr => F.run A outer s H args us vs Q E (hr.mono h)⟩

theorem fnG_of {CX : CXT} {P : Program} {w : World} {K : PySem.W.Frag} {mg : Str → Option Value} {base : Heap} {k : Nat} {f : Addr} {name qual : Str} {params : Arguments} {body : List Stmt} {scope : Scope} {dV kV doc pm cdv ct oc : Value} {an od : Option Addr}
    {osl : Array (Option Value)} {N ps : List Str} {sp : Sp} (lk : K.lookup f = some ⟨oc, od, .func (PySem.W.fnOf name qual params body scope dV kV doc pm an cdv ct), osl⟩) (hcd : PySem.W.codeIn K cdv qual = true) (S : FnScope N ps scope)
    (len : ∀ vs H Q E, sp vs H Q E → vs.length = ps.length)
    (hbody : ∀ (A : Around) (outer : List Env) (s : Shared) (H : Hp) (vs : List V) (Q : VK) (E : XK), Room k (A.deeper (envOfC qual scope s.heap.objs.size f cdv)) → A.guards = some [] → sp vs H Q E →
      ∃ t, PSs (cxOf CX P w K mg base N qual scope f cdv A outer s H E) body t ∧ t { nx := fun _ H' => Q .non H', rt := Q } (start N vs) H) :
    FnG P w K mg base CX (k + 1) f (PySem.W.fnOf name qual params body scope dV kV doc pm an cdv ct) ps sp := by
  refine ⟨len, fun A outer s H args us vs Q E hr hgd e0 hb r hsp => ?_⟩
  have hl := len _ _ _ _ hsp
  have KX : K.In s.heap := e0.mod.kin.keeps fun b o e => (e0.bs b o e).1
  have lim : s.heap.NoLimit := e0.mod.nolimit.keeps fun b o e => (e0.bs b o e).1
  have hkind : ∀ y ∈ ps.zip us, scope.names.lookup y.1 = some .local ∨ (scope.names.lookup y.1 = some .cell ∧ ((cellsFrom (s.heap.objs.size + 1) scope.names []).lookup y.1).isSome = true) := fun ⟨n, v⟩ hy => by
    rcases S.par n (List.of_mem_zip hy).1 with q | q
    · exact .inl q
    · exact .inr ⟨q, PySem.W.cellsFrom_some _ _ _ (.inl q)⟩
  refine codeAny_call_function hr.depth (KX _ _ lk) rfl S.co S.gen rfl (PySem.W.codeRec_of KX hcd) (hb _ _ _ _ ?_)
  refine wpAny_newFunctionEnv_cells S.kind hkind fun env he s1 x => ?_
  subst he
  refine ⟨lim.keeps x.toInCall.keep, codeAny_func ?_⟩
  obtain ⟨t, ht, hq⟩ := hbody A outer s H vs Q E (hr.deeper _) hgd hsp
  have I : Inv (cxOf CX P w K mg base N qual scope f cdv A outer s H E) [] (start N vs) H s1 := inv_start S hr.hd e0 hl r x
  refine wpAny_mono (ht.run [] s1 (start N vs) H _ I hq) (fun fl s' hs => ?_) fun e s' hs => hs
  have fin : ∀ {σ' : L2.St} {H' : Hp} {v : V} {u : Value}, Inv (cxOf CX P w K mg base N qual scope f cdv A outer s H E) [] σ' H' s' → RelV v u → Q v H' → CE outer P w H s Q u s' :=
    fun {σ' H' v u} J rv q => ⟨v, H', J.os, J.bare, J.base, J.hok, rv, q⟩
  cases fl with
  | ret u =>
    obtain ⟨v, σ', H', J, rv, q⟩ := hs
    exact fin J rv q
  | next =>
    obtain ⟨σ', H', J, q⟩ := hs
    exact fin (v := V.non) (u := Value.none) J rfl q
  | brk =>
    obtain ⟨_, _, _, q⟩ := hs
    exact False.elim q
  | cont =>
    obtain ⟨_, _, _, q⟩ := hs
    exact False.elim q

section
variable {X : Cx} {CX : CXT} {k : Nat} {f : Addr} {fd : FuncData} {ps ks : List Str} {sp : Sp} {E : L2.St → XK} {x : Str} {p pos : Pos} {e : Expr} {es : List Expr} {kws : List Keyword} {t tk : TA}
  {g : List Value → List Value → List Value} {gV : List V → List V → List V}
theorem run_fnGS {pins : List (Addr × Obj)} {σ : L2.St} {H : Hp} {s : Shared} {Q : VK} {us ws : List Value} {vs zs : List V} (F : FnG X.prog X.w X.K X.mg X.base CX k f fd ps sp) (hr : Room k X.A) (hgd : X.A.guards = some []) (hb : KBinds X.K fd ps ks g gV) (hx : PassesAt CX X σ (E σ))
    (I : Inv X pins σ H s) (r : Vals vs us) (rz : Vals zs ws) (h : sp (gV vs zs) H Q (E σ)) : wpAny (model X.prog X.w) X.A (call (.ref f) us (ks.zip ws)) (EP X pins σ Q) X.xe s := by
  have r2 := hb.rel r rz
  have hl : (g us ws).length = ps.length := by rw [← r2.length]; exact F.len _ _ _ _ h
  refine wpAny_call (codeAny_mono (F.run X.A X.stack s H ⟨us, ks.zip ws⟩ (g us ws) (gV vs zs) Q (E σ) hr hgd I.env0 (hb.to s us ws I.kIn hl) r2 h) fun r s' hq => ?_)
  cases r with
  | error e => exact hx pins H s e s' I hq
  | ok fl =>
    cases fl with
    | ret u => exact I.after hq
    | next => exact False.elim hq
    | brk => exact False.elim hq
    | cont => exact False.elim hq
def tCallKS (sp : Sp) (gV : List V → List V → List V) (E : L2.St → XK) (t tk : TA) : TE := fun σ H Q => t σ H fun vs H1 => tk σ H1 fun zs H2 => sp (gV vs zs) H2 Q (E σ)
/-- f(e, .., k = v, ..) -/
theorem pe_callGK (F : FnG X.prog X.w X.K X.mg X.base CX k f fd ps sp) (hr : Room k X.A) (hgd : X.A.guards = some []) (hg : Gl X x) (hm : X.mg x = some (.ref f)) (hk : PySem.W.keepIn X.K (.ref f) = true) (hb : KBinds X.K fd ps ks g gV) (hx : ∀ σ, PassesAt CX X σ (E σ))
    (ha : PA X (e :: es) t) (hkw : PK X kws tk) (hall : (backToKw pos (keywordEach kws X.env)).all (·.1.isSome) = true) (hks : (backToKw pos (keywordEach kws X.env)).filterMap (·.1) = ks)
    (hdb : (x == ("__debug__" : Str)) = false) (he : starEach (e :: es) X.env = (false, eval e X.env) :: starEach es X.env)
    (hpl : ((backTo pos (starEach (e :: es) X.env)).any (·.1) || (backToKw pos (keywordEach kws X.env)).any (·.1.isNone)) = false) :
    PE X (.Call (.Name x p) (e :: es) kws pos) (tCallKS sp gV E t tk) := by
  refine ⟨fun pins s σ H Q I h => ?_⟩
  refine wpAny_Call_Name_kw (ld_glob I hg hm ?_ hdb)
  refine PySem.W.callWith_KW (h₀ := X.base) I.ok.mod.kin hk hall (thn (ha.run pos pins s σ H _ I h) fun us s1 ⟨vs, H1, I1, r, q⟩ => ?_) hpl he
  refine thn (hkw.run pos pins s1 σ H1 _ I1 q) fun ws s2 ⟨zs, H2, I2, rz, q2⟩ => ⟨I2.kIn, ?_⟩
  rw [hks]
  exact run_fnGS F hr hgd hb (hx σ) I2 r rz q2
end
end Mir

set_option Elab.async false
set_option linter.all false
set_option maxRecDepth 100000
set_option maxHeartbeats 4000000
namespace Mir
open PySem PySem.Spec PyProof.Rows L2
abbrev D := PyData
/-! ### heaps -/
def notTbl (o : HO) : Prop := ∀ ps, o ≠ .tbl ps
abbrev AS := Addr → Prop
/-- what is not owned stays -/
def StepP (O : AS) (H : Hp) (O' : AS) (H' : Hp) : Prop := ∀ b o, ¬ O b → notTbl o → H b = some o → H' b = some o ∧ ¬ O' b
abbrev StepO (O : AS) (H H' : Hp) : Prop := StepP O H O H'
def OT (O : AS) (H : Hp) : Prop := ∀ a, O a → ∃ o, H a = some o ∧ notTbl o
theorem StepP.refl (O : AS) (H : Hp) : StepP O H O H := fun _ _ n _ e => ⟨e, n⟩
theorem StepP.trans {O O1 O2 : AS} {H H1 H2 : Hp} (a : StepP O H O1 H1) (b : StepP O1 H1 O2 H2) : StepP O H O2 H2 := fun c o n t e => let ⟨e1, n1⟩ := a c o n t e; b c o n1 t e1
theorem StepP.of_same {O : AS} {H H' : Hp} (s : Same H H') : StepO O H H' := fun _ _ n _ e => ⟨s _ _ e, n⟩
theorem OT.same {O : AS} {H H' : Hp} (h : OT O H) (s : Same H H') : OT O H' := fun a ha => let ⟨o, e, t⟩ := h a ha; ⟨o, s _ _ e, t⟩
theorem OT.fresh {O : AS} {H : Hp} (h : OT O H) {p : Addr} (n : H p = none) : ¬ O p := fun hp => by
  obtain ⟨o, e, _⟩ := h p hp
  rw [n] at e; cases e
theorem same_upd {H : Hp} {p : Addr} {o : HO} (h : H p = none) : Same H (upd H p o) := fun b x e => by
  rw [upd_ne (ne_of_none e h)]
  exact e
theorem notTbl_lst {xs : List V} : notTbl (.lst xs) := fun _ z => by cases z
theorem notTbl_tup {xs : List V} : notTbl (.tup xs) := fun _ z => by cases z
theorem notTbl_frz {o : Obj} {u : HO} : notTbl (.frz o u) := fun _ z => by cases z
theorem notTbl_dK {kvs : List (Key × V)} : notTbl (.dK kvs) := fun _ z => by cases z

/-! ### data in the heap, apart from what is owned -/
def TupK (K : PySem.W.Frag) (a : Addr) (xs : List V) : Prop := ∃ (o : Obj) (its : Array Value) (n : Nat), K.lookup a = some o ∧ o.cls = .type "tuple" ∧ o.data = .seq its n ∧ its.size ≤ sizeLine ∧ Vals xs its.toList
def TupO (K : PySem.W.Frag) (O : AS) (H : Hp) (a : Addr) (xs : List V) : Prop := (¬ O a ∧ H a = some (.tup xs)) ∨ TupK K a xs
def LstO (K : PySem.W.Frag) (O : AS) (H : Hp) (a : Addr) (xs : List V) : Prop := ¬ O a ∧ H a = some (.lst xs)
/-- a dict whose keys are texts -/
def DctO (O : AS) (H : Hp) (a : Addr) (ks : List Str) (xs : List V) : Prop := ¬ O a ∧ H a = some (.dK ((ks.map Sum.inr).zip xs))
def dctD (ks : List Str) (ds : List D) : List (D × D) := (ks.map PyData.str).zip ds
theorem DctO.step {O O' : AS} {H H' : Hp} {a : Addr} {ks : List Str} {xs : List V} (h : DctO O H a ks xs) (s : StepP O H O' H') : DctO O' H' a ks xs := by
  obtain ⟨e1, n1⟩ := s _ _ h.1 notTbl_dK h.2
  exact ⟨n1, e1⟩
theorem TupO.sq {K : PySem.W.Frag} {O : AS} {H : Hp} {a : Addr} {xs : List V} (h : TupO K O H a xs) : SqT K H a xs := h.elim (fun x => .inl (.inl x.2)) .inr
theorem LstO.sq {K : PySem.W.Frag} {O : AS} {H : Hp} {a : Addr} {xs : List V} (h : LstO K O H a xs) : SqL K H a xs := .inl (.inl h.2)
theorem TupO.step {K : PySem.W.Frag} {O O' : AS} {H H' : Hp} {a : Addr} {xs : List V} (h : TupO K O H a xs) (s : StepP O H O' H') : TupO K O' H' a xs := by
  rcases h with ⟨n, e⟩ | h
  · obtain ⟨e1, n1⟩ := s _ _ n notTbl_tup e
    exact .inl ⟨n1, e1⟩
  · exact .inr h
theorem LstO.step {K : PySem.W.Frag} {O O' : AS} {H H' : Hp} {a : Addr} {xs : List V} (h : LstO K O H a xs) (s : StepP O H O' H') : LstO K O' H' a xs := by
  obtain ⟨e1, n1⟩ := s _ _ h.1 notTbl_lst h.2
  exact ⟨n1, e1⟩
mutual
inductive Rp (K : PySem.W.Frag) (O : AS) (H : Hp) : V → D → Prop
  | non : Rp K O H .non .none
  | bl (b : Bool) : Rp K O H (.bl b) (.bool b)
  | int (i : Int) : Rp K O H (.int i) (.int i)
  | str (x : Str) : Rp K O H (.str x) (.str x)
  | lst {a : Addr} {xs : List V} {ds : List D} : LstO K O H a xs → RpAll K O H xs ds → Rp K O H (.ref a) (.list ds)
  | tup {a : Addr} {xs : List V} {ds : List D} : TupO K O H a xs → RpAll K O H xs ds → Rp K O H (.ref a) (.tuple ds)
  | dct {a : Addr} {ks : List Str} {xs : List V} {ds : List D} : DctO O H a ks xs → xs.length = ks.length → RpAll K O H xs ds → Rp K O H (.ref a) (.dict (dctD ks ds))
inductive RpAll (K : PySem.W.Frag) (O : AS) (H : Hp) : List V → List D → Prop
  | nil : RpAll K O H [] []
  | cons {v : V} {vs : List V} {d : D} {ds : List D} : Rp K O H v d → RpAll K O H vs ds → RpAll K O H (v :: vs) (d :: ds)
end
section
variable {K : PySem.W.Frag} {O O' : AS} {H H' : Hp}
mutual
theorem Rp.dp : ∀ (d : D) (v : V), d.plain = true → Rp K O H v d → Dp K H v d
  | .none, _, _, h => by cases h; exact .non
  | .bool _, _, _, h => by cases h; exact .bl _
  | .int _, _, _, h => by cases h; exact .int _
  | .str _, _, _, h => by cases h; exact .str _
  | .list ds, _, p, h => by
    cases h with
    | lst a b => exact .lst a.sq (RpAll.dp ds _ (by simpa [PyData.plain] using p) b)
  | .tuple ds, _, p, h => by
    cases h with
    | tup a b => exact .tup a.sq (RpAll.dp ds _ (by simpa [PyData.plain] using p) b)
  | .dict _, _, p, _ => by simp [PyData.plain] at p
theorem RpAll.dp : ∀ (ds : List D) (vs : List V), PyData.plainAll ds = true → RpAll K O H vs ds → DpAll K H vs ds
  | [], _, _, h => by cases h; exact .nil
  | d :: ds, _, p, h => by
    have p : d.plain = true ∧ PyData.plainAll ds = true := by simpa [PyData.plainAll] using p
    cases h with
    | cons a b => exact .cons (Rp.dp d _ p.1 a) (RpAll.dp ds _ p.2 b)
end
mutual
theorem Rp.stepI (s : StepP O H O' H') : ∀ {v : V} {d : D}, Rp K O H v d → Rp K O' H' v d
  | _, _, .non => .non
  | _, _, .bl b => .bl b
  | _, _, .int i => .int i
  | _, _, .str x => .str x
  | _, _, .lst a b => .lst (a.step s) (RpAll.stepI s b)
  | _, _, .tup a b => .tup (a.step s) (RpAll.stepI s b)
  | _, _, .dct a l b => .dct (a.step s) l (RpAll.stepI s b)
theorem RpAll.stepI (s : StepP O H O' H') : ∀ {vs : List V} {ds : List D}, RpAll K O H vs ds → RpAll K O' H' vs ds
  | _, _, .nil => .nil
  | _, _, .cons a b => .cons (Rp.stepI s a) (RpAll.stepI s b)
end
theorem Rp.step (s : StepP O H O' H') (d : D) (v : V) (h : Rp K O H v d) : Rp K O' H' v d := h.stepI s
theorem RpAll.step (s : StepP O H O' H') (ds : List D) (vs : List V) (h : RpAll K O H vs ds) : RpAll K O' H' vs ds := h.stepI s
theorem RpAll.length : ∀ {vs : List V} {ds : List D}, RpAll K O H vs ds → vs.length = ds.length
  | _, _, .nil => rfl
  | _, _, .cons _ b => by rw [List.length_cons, List.length_cons, RpAll.length b]
theorem RpAll.append : ∀ {vs ws : List V} {ds es : List D}, RpAll K O H vs ds → RpAll K O H ws es → RpAll K O H (vs ++ ws) (ds ++ es)
  | _, _, _, _, .nil, h => h
  | _, _, _, _, .cons a b, h => .cons a (RpAll.append b h)
theorem RpAll.get : ∀ {vs : List V} {ds : List D} {i : Nat} {d : D}, RpAll K O H vs ds → ds[i]? = some d → ∃ v, vs[i]? = some v ∧ Rp K O H v d
  | _, _, _, _, .nil, e => by simp at e
  | _, _, 0, _, .cons a _, e => by simp at e; subst e; exact ⟨_, rfl, a⟩
  | _, _, i + 1, d, .cons _ b, e => by
    obtain ⟨v, h1, h2⟩ := RpAll.get (i := i) (d := d) b (by simpa using e)
    exact ⟨v, by simpa using h1, h2⟩
theorem RpAll.getV : ∀ {vs : List V} {ds : List D} {i : Nat} {v : V}, RpAll K O H vs ds → vs[i]? = some v → ∃ d, ds[i]? = some d ∧ Rp K O H v d
  | _, _, _, _, .nil, e => by simp at e
  | _, _, 0, _, .cons a _, e => by simp at e; subst e; exact ⟨_, rfl, a⟩
  | _, _, i + 1, v, .cons _ b, e => by
    obtain ⟨d, h1, h2⟩ := RpAll.getV (i := i) (v := v) b (by simpa using e)
    exact ⟨d, by simpa using h1, h2⟩
theorem RpAll.take : ∀ {vs : List V} {ds : List D} (n : Nat), RpAll K O H vs ds → RpAll K O H (vs.take n) (ds.take n)
  | _, _, 0, _ => .nil
  | _, _, _ + 1, .nil => .nil
  | _, _, n + 1, .cons a b => .cons a (RpAll.take n b)
theorem RpAll.drop : ∀ {vs : List V} {ds : List D} (n : Nat), RpAll K O H vs ds → RpAll K O H (vs.drop n) (ds.drop n)
  | _, _, 0, r => r
  | _, _, _ + 1, .nil => .nil
  | _, _, n + 1, .cons _ b => RpAll.drop n b
theorem RpAll.reverse : ∀ {vs : List V} {ds : List D}, RpAll K O H vs ds → RpAll K O H vs.reverse ds.reverse
  | _, _, .nil => .nil
  | _, _, .cons a b => by
    rw [List.reverse_cons, List.reverse_cons]
    exact (RpAll.reverse b).append (.cons a .nil)
theorem RpAll.set : ∀ {vs : List V} {ds : List D} {v : V} {d : D} (i : Nat), Rp K O H v d → RpAll K O H vs ds → RpAll K O H (vs.set i v) (ds.set i d)
  | _, _, _, _, _, _, .nil => .nil
  | _, _, _, _, 0, r, .cons _ b => .cons r b
  | _, _, _, _, i + 1, r, .cons a b => .cons a (RpAll.set i r b)
mutual
/-- less owned -/
theorem Rp.lessI (s : ∀ a, O' a → O a) : ∀ {v : V} {d : D}, Rp K O H v d → Rp K O' H v d
  | _, _, .non => .non
  | _, _, .bl b => .bl b
  | _, _, .int i => .int i
  | _, _, .str x => .str x
  | _, _, .lst a b => .lst ⟨fun y => a.1 (s _ y), a.2⟩ (RpAll.lessI s b)
  | _, _, .tup a b => .tup (a.imp (fun x => ⟨fun y => x.1 (s _ y), x.2⟩) id) (RpAll.lessI s b)
  | _, _, .dct a l b => .dct ⟨fun y => a.1 (s _ y), a.2⟩ l (RpAll.lessI s b)
theorem RpAll.lessI (s : ∀ a, O' a → O a) : ∀ {vs : List V} {ds : List D}, RpAll K O H vs ds → RpAll K O' H vs ds
  | _, _, .nil => .nil
  | _, _, .cons a b => .cons (Rp.lessI s a) (RpAll.lessI s b)
end
theorem Rp.less (s : ∀ a, O' a → O a) (d : D) (v : V) (h : Rp K O H v d) : Rp K O' H v d := h.lessI s
theorem RpAll.less (s : ∀ a, O' a → O a) (ds : List D) (vs : List V) (h : RpAll K O H vs ds) : RpAll K O' H vs ds := h.lessI s
/-- a new tuple, a new list -/
theorem Rp.newTup {p : Addr} {vs : List V} {ds : List D} (r : RpAll K O H vs ds) (n : H p = none) (ot : OT O H) : Rp K O (upd H p (.tup vs)) (.ref p) (.tuple ds) :=
  .tup (.inl ⟨ot.fresh n, upd_same⟩) (RpAll.step (.of_same (same_upd n)) ds _ r)
theorem Rp.newLst {p : Addr} {vs : List V} {ds : List D} (r : RpAll K O H vs ds) (n : H p = none) (ot : OT O H) : Rp K O (upd H p (.lst vs)) (.ref p) (.list ds) :=
  .lst ⟨ot.fresh n, upd_same⟩ (RpAll.step (.of_same (same_upd n)) ds _ r)
end
/-! ### pure operations on data -/
/-- g of the values -/
def rD (K : PySem.W.Frag) (g : List D → Option D) : List V → Hp → VK → Prop := fun vs H Q => ∃ (O : AS) (ds : List D) (d : D), OT O H ∧ RpAll K O H vs ds ∧ g ds = some d ∧ ∀ v H', Same H H' → Rp K O H' v d → Q v H'
abbrev OpD (X : Cx) (f : Value → Value → Sem Value) (g : List D → Option D) : Prop := OpR X f (fun x y H Q => rD X.K g [x, y] H Q)
abbrev UnD (X : Cx) (f : Value → Sem Value) (g : List D → Option D) : Prop := UnR X f (fun x H Q => rD X.K g [x] H Q)
abbrev CallD (X : Cx) (f : Value) (g : List D → Option D) : Prop := CallR X f (rD X.K g)
abbrev MtD (X : Cx) (id : String) (g : List D → Option D) : Prop := MtR X id (fun x xs H Q => rD X.K g (x :: xs) H Q)
abbrev IxD (X : Cx) (g : List D → Option D) : Prop := IxR X (fun x y H Q => rD X.K g [x, y] H Q)
end Mir

set_option Elab.async false
set_option linter.all false
set_option maxRecDepth 100000
set_option maxHeartbeats 4000000
namespace Mir
open PySem PySem.Spec PyProof.Rows L2
/-! ### the mirror -/
/-- a feed of draws -/
structure FS where
  cells : List Int
  next : Int
  left : Int
  drawn : Int
/-- an exception: which class, its fields -/
structure XV where
  cls : Nat
  fs : List D
inductive R (α : Type) where
  | ok (a : α) (f : FS)
  | exc (x : XV) (f : FS)
  | bad
def R.bind {α β : Type} : R α → (α → FS → R β) → R β
  | .ok a f, g => g a f
  | .exc x f, _ => .exc x f
  | .bad, _ => .bad
@[simp] theorem R.bind_ok {α β : Type} (a : α) (f : FS) (g : α → FS → R β) : (R.ok a f).bind g = g a f := rfl
@[simp] theorem R.bind_exc {α β : Type} (x : XV) (f : FS) (g : α → FS → R β) : (R.exc x f : R α).bind g = .exc x f := rfl
@[simp] theorem R.bind_bad {α β : Type} (g : α → FS → R β) : (R.bad : R α).bind g = .bad := rfl
/-- a slot of the mirror -/
inductive Sl where
  | no
  | d (x : D)
  | l (xs : List D)
  | fd
  /-- a dict of one's own, its keys texts -/
  | m (ks : List Str) (xs : List D)
  /-- the exception in hand -/
  | x
/-- a list or a dict of one's own -/
def Sl.own : Sl → Prop
  | .l _ => True
  | .m _ _ => True
  | _ => False
abbrev ME := List Sl → FS → R D
abbrev MA := List Sl → FS → R (List D)
abbrev MB := List Sl → FS → R Bool
inductive SR where
  | nx (ρ : List Sl) (f : FS)
  | ret (d : D) (f : FS)
  | brk (ρ : List Sl) (f : FS)
  | ct (ρ : List Sl) (f : FS)
  | exc (x : XV) (f : FS)
  | bad
abbrev MS := List Sl → FS → SR
/-! ### the ground of a def's run -/
structure XC where
  cls : Nat → Value
  nm : Nat → List Str
  tb : List (Addr × Str)
structure Gx where
  K : PySem.W.Frag
  H0 : Hp
  O0 : AS
  fa : Option Addr
  fc : Addr
  xc : XC
  /-- where the exception in hand lies -/
  xa : Option Addr
def fdDict (c : Addr) (f : FS) : HO := .dK [(.inr "cells", .ref c), (.inr "at", .int f.next), (.inr "held", .int f.left), (.inr "count", .int f.drawn)]
/-- the feed stands at a -/
def FeedAt (K : PySem.W.Frag) (O : AS) (H : Hp) (a c : Addr) (f : FS) : Prop := O a ∧ H a = some (fdDict c f) ∧ LstO K O H c (f.cells.map V.int)
def FeedOk (K : PySem.W.Frag) (O : AS) (H : Hp) : Option Addr → Addr → FS → Prop
  | none, _, _ => True
  | some a, c, f => FeedAt K O H a c f
def SlOk (K : PySem.W.Frag) (O0 O : AS) (H : Hp) (fa xa : Option Addr) : Option (Option V) → Sl → Prop
  | _, .no => True
  | sv, .d x => ∃ v, sv = some (some v) ∧ Rp K O H v x
  | sv, .l xs => ∃ a vs, sv = some (some (.ref a)) ∧ O a ∧ ¬ O0 a ∧ H a = some (.lst vs) ∧ RpAll K O H vs xs
  | sv, .fd => ∃ a, sv = some (some (.ref a)) ∧ fa = some a
  | sv, .m ks xs => ∃ a vs, sv = some (some (.ref a)) ∧ O a ∧ ¬ O0 a ∧ H a = some (.dK ((ks.map Sum.inr).zip vs)) ∧ RpAll K O H vs xs ∧ vs.length = ks.length
  | sv, .x => ∃ a, sv = some (some (.ref a)) ∧ xa = some a
structure Agr (G : Gx) (O : AS) (σ : L2.St) (H : Hp) (ρ : List Sl) (f : FS) : Prop where
  grow : ∀ b o, some b ≠ G.fa → notTbl o → G.H0 b = some o → H b = some o
  o0 : ∀ a, G.O0 a → O a
  onew : ∀ a, O a → G.O0 a ∨ ∀ o, notTbl o → G.H0 a ≠ some o
  ot : OT O H
  feed : FeedOk G.K O H G.fa G.fc f
  len : σ.length = ρ.length
  slots : ∀ (i : Nat) (s : Sl), ρ[i]? = some s → SlOk G.K G.O0 O H G.fa G.xa σ[i]? s
  inj : ∀ (i j : Nat) (xs ys : Sl) (a : Addr), ρ[i]? = some xs → ρ[j]? = some ys → xs.own → ys.own → σ[i]? = some (some (.ref a)) → σ[j]? = some (some (.ref a)) → i = j
  tabs : LamX.Tabs G.xc.tb H
theorem tabs_upd {T : List (Addr × Str)} {H : Hp} {a : Addr} {o o' : HO} (h : LamX.Tabs T H) (e : H a = some o) (n1 : notTbl o) (n2 : ∀ g, o ≠ .ext g) : LamX.Tabs T (upd H a o') := fun p hp => by
  obtain ⟨ps, e1, ok, f⟩ := h p hp
  refine ⟨ps, ?_, ok, fun pos cv hc => ?_⟩
  · rw [upd_ne fun z => ?_]
    · exact e1
    · rw [z, e] at e1
      exact n1 ps (Option.some.inj e1)
  · obtain ⟨c, rfl, ec⟩ := f pos cv hc
    refine ⟨c, rfl, ?_⟩
    rw [upd_ne fun z => ?_]
    · exact ec
    · rw [z, e] at ec
      exact n2 _ (Option.some.inj ec)
theorem FeedOk.same {K : PySem.W.Frag} {O : AS} {H H' : Hp} {fa : Option Addr} {c : Addr} {f : FS} (h : FeedOk K O H fa c f) (s : Same H H') : FeedOk K O H' fa c f := by
  cases fa with
  | none => trivial
  | some a =>
    obtain ⟨oa, e, l⟩ := h
    exact ⟨oa, s _ _ e, l.step (.of_same s)⟩
theorem SlOk.same {K : PySem.W.Frag} {O0 O : AS} {H H' : Hp} {fa xa : Option Addr} {sv : Option (Option V)} {x : Sl} (h : SlOk K O0 O H fa xa sv x) (s : Same H H') : SlOk K O0 O H' fa xa sv x := by
  cases x with
  | no => trivial
  | d x => obtain ⟨v, e, r⟩ := h; exact ⟨v, e, Rp.step (.of_same s) _ _ r⟩
  | l xs => obtain ⟨a, vs, e, o, n, q, r⟩ := h; exact ⟨a, vs, e, o, n, s _ _ q, RpAll.step (.of_same s) _ _ r⟩
  | fd => exact h
  | m ks xs => obtain ⟨a, vs, e, o, n, q, r, hz⟩ := h; exact ⟨a, vs, e, o, n, s _ _ q, RpAll.step (.of_same s) _ _ r, hz⟩
  | x => exact h
theorem Agr.same {G : Gx} {O : AS} {σ : L2.St} {H H' : Hp} {ρ : List Sl} {f : FS} (A : Agr G O σ H ρ f) (s : Same H H') : Agr G O σ H' ρ f :=
  ⟨fun b o n t e => s _ _ (A.grow b o n t e), A.o0, A.onew, A.ot.same s, A.feed.same s, A.len, fun i x e => (A.slots i x e).same s, A.inj, A.tabs.ext s⟩
/-- an exception as it lies -/
def XAt (G : Gx) (O : AS) (H : Hp) (cls : Value) (d : Option Addr) (x : XV) : Prop :=
  cls = G.xc.cls x.cls ∧ ∃ dd vs, d = some dd ∧ H dd = some (.xd ((G.xc.nm x.cls).zip vs)) ∧ vs.length = (G.xc.nm x.cls).length ∧ RpAll G.K O H vs x.fs ∧ ¬ O dd
def OutP (fa : Option Addr) (H H' : Hp) : Prop := ∀ b o, some b ≠ fa → notTbl o → H b = some o → H' b = some o
theorem OutP.refl (fa : Option Addr) (H : Hp) : OutP fa H H := fun _ _ _ _ e => e
theorem OutP.trans {fa : Option Addr} {H H1 H2 : Hp} (a : OutP fa H H1) (b : OutP fa H1 H2) : OutP fa H H2 := fun c o n t e => b c o n t (a c o n t e)
theorem OutP.of_same {fa : Option Addr} {H H' : Hp} (s : Same H H') : OutP fa H H' := fun _ _ _ _ e => s _ _ e
theorem OutP.step {fa : Option Addr} {O : AS} {H H' : Hp} (o : OutP fa H H') (h : ∀ a, fa = some a → O a) : StepO O H H' := fun b x n t e =>
  ⟨o b x (fun z => n (h b z.symm)) t e, n⟩
theorem FeedOk.own {K : PySem.W.Frag} {O : AS} {H : Hp} {fa : Option Addr} {c : Addr} {f : FS} (h : FeedOk K O H fa c f) {a : Addr} (e : fa = some a) : O a := by
  subst e
  exact h.1
theorem Agr.stepO {G : Gx} {O : AS} {σ : L2.St} {H H' : Hp} {ρ : List Sl} {f : FS} (A : Agr G O σ H ρ f) (o : OutP G.fa H H') : StepO O H H' := o.step fun _ e => FeedOk.own A.feed e
/-- what follows an expression -/
def Post {α β : Type} (G : Gx) (W : WX) (O : AS) (σ : L2.St) (H : Hp) (ρ : List Sl) (rel : AS → Hp → β → α → Prop) (r : R α) (Q : β → Hp → Prop) : Prop :=
  match r with
  | .ok d f => ∀ v H', Agr G O σ H' ρ f → OutP G.fa H H' → rel O H' v d → Q v H'
  | .exc x f => ∀ cls d H', Agr G O σ H' ρ f → OutP G.fa H H' → XAt G O H' cls d x → W cls d σ H'
  | .bad => False
def tP {α β : Type} (G : Gx) (W : WX) (rel : AS → Hp → β → α → Prop) (m : List Sl → FS → R α) (σ : L2.St) (H : Hp) (Q : β → Hp → Prop) : Prop :=
  ∃ O ρ f, Agr G O σ H ρ f ∧ Post G W O σ H ρ rel (m ρ f) Q
abbrev tM (G : Gx) (W : WX) (m : ME) : TE := fun σ H Q => tP G W (Rp G.K) m σ H Q
abbrev tMA (G : Gx) (W : WX) (m : MA) : TA := fun σ H Q => tP G W (RpAll G.K) m σ H Q
abbrev tMT (G : Gx) (W : WX) (m : MB) : TT := fun σ H Q => tP (β := Bool) G W (fun _ _ (b : Bool) (c : Bool) => b = c) m σ H Q
/-- .. with values held -/
def tH {α β : Type} (G : Gx) (W : WX) (rel : AS → Hp → β → α → Prop) (xs : List V) (m : List D → List Sl → FS → R α) (σ : L2.St) (H : Hp) (Q : β → Hp → Prop) : Prop :=
  ∃ O ρ f ds, Agr G O σ H ρ f ∧ RpAll G.K O H xs ds ∧ Post G W O σ H ρ rel (m ds ρ f) Q
section
variable {G : Gx} {W : WX} {σ : L2.St} {H : Hp} {α β : Type} {rel : AS → Hp → β → α → Prop} {Q : β → Hp → Prop}
/-- the post from a later heap -/
theorem Post.later {O : AS} {H1 : Hp} {ρ : List Sl} {r : R α} {f0 : FS} (p : Post G W O σ H ρ rel r Q) (A : Agr G O σ H ρ f0) (s : OutP G.fa H H1) : Post G W O σ H1 ρ rel r Q := by
  cases r with
  | ok d f => exact fun v H' A s' r => p v H' A (s.trans s') r
  | exc x f => exact fun cls d H' A' s' xa => p cls d H' A' (s.trans s') xa
  | bad => exact p
theorem tH_nil {m : List D → List Sl → FS → R α} (h : tP G W rel (m []) σ H Q) : tH G W rel [] m σ H Q := by
  obtain ⟨O, ρ, f, A, p⟩ := h
  exact ⟨O, ρ, f, [], A, .nil, p⟩
/-- one more expression, its value held -/
theorem tH_step {xs : List V} {ma : ME} {m : List D → List Sl → FS → R α} (h : tH G W rel xs (fun ds ρ f => (ma ρ f).bind fun d f1 => m (ds ++ [d]) ρ f1) σ H Q) :
    tM G W ma σ H (fun x H1 => tH G W rel (xs ++ [x]) m σ H1 Q) := by
  obtain ⟨O, ρ, f, ds, A, rs, p⟩ := h
  refine ⟨O, ρ, f, A, ?_⟩
  dsimp only at p
  cases e : ma ρ f with
  | ok d f1 =>
    rw [e] at p
    exact fun v H1 A1 s r => ⟨O, ρ, f1, ds ++ [d], A1, (RpAll.step (A.stepO s) _ _ rs).append (.cons r .nil), p.later A s⟩
  | exc x f1 =>
    rw [e] at p
    exact p
  | bad =>
    rw [e] at p
    exact p.elim
theorem tH_stepA {xs : List V} {ma : MA} {m : List D → List Sl → FS → R α} (h : tH G W rel xs (fun ds ρ f => (ma ρ f).bind fun d f1 => m (ds ++ d) ρ f1) σ H Q) :
    tMA G W ma σ H (fun x H1 => tH G W rel (xs ++ x) m σ H1 Q) := by
  obtain ⟨O, ρ, f, ds, A, rs, p⟩ := h
  refine ⟨O, ρ, f, A, ?_⟩
  dsimp only at p
  cases e : ma ρ f with
  | ok d f1 =>
    rw [e] at p
    exact fun v H1 A1 s r => ⟨O, ρ, f1, ds ++ d, A1, (RpAll.step (A.stepO s) _ _ rs).append r, p.later A s⟩
  | exc x f1 =>
    rw [e] at p
    exact p
  | bad =>
    rw [e] at p
    exact p.elim
end
/-- a reading may be weakened at its end -/
theorem tP.mono {α β : Type} {G : Gx} {W : WX} {rel : AS → Hp → β → α → Prop} {m : List Sl → FS → R α} {σ : L2.St} {H : Hp} {Q Q' : β → Hp → Prop} (h : tP G W rel m σ H Q) (k : ∀ v H', Q v H' → Q' v H') : tP G W rel m σ H Q' := by
  obtain ⟨O, ρ, f, A, p⟩ := h
  refine ⟨O, ρ, f, A, ?_⟩
  cases e : m ρ f with
  | ok d f1 => rw [e] at p; exact fun v H' A' s r => k _ _ (p v H' A' s r)
  | exc x f1 => rw [e] at p; exact p
  | bad => rw [e] at p; exact p.elim
/-- a pure operation's end -/
def ofO {α : Type} (o : Option α) (f : FS) : R α := match o with
  | some d => .ok d f
  | none => .bad
theorem tH_op {G : Gx} {W : WX} {σ : L2.St} {H : Hp} {Q : VK} {g : List D → Option D} {xs : List V} (h : tH G W (Rp G.K) xs (fun ds _ f => ofO (g ds) f) σ H Q) : rD G.K g xs H Q := by
  obtain ⟨O, ρ, f, ds, A, rs, p⟩ := h
  dsimp only at p
  cases e : g ds with
  | none => rw [e] at p; exact p.elim
  | some d =>
    rw [e] at p
    exact ⟨O, ds, d, A.ot, rs, e, fun v H' s r => p v H' (A.same s) (OutP.of_same s) r⟩
section
variable {X : Cx} {e a b c : Expr} {es : List Expr} {t t' : TE} {pos : Pos} {G : Gx} {W : WX} {ma mb mc : ME}
theorem peOf (h : PE X e t) (k : ∀ σ H Q, t' σ H Q → t σ H Q) : PE X e t' := ⟨fun pins s σ H Q I q => h.run pins s σ H Q I (k _ _ _ q)⟩
theorem ptOf {t t' : TT} (h : PT X e t) (k : ∀ σ H Q, t' σ H Q → t σ H Q) : PT X e t' := ⟨fun pins s σ H Q I q => h.run pins s σ H Q I (k _ _ _ q)⟩
theorem pwOf {t t' : TT} (h : PW X e t) (k : ∀ σ H Q, t' σ H Q → t σ H Q) : PW X e t' := ⟨fun wh pins s σ H Q I q => h.run wh pins s σ H Q I (k _ _ _ q)⟩
theorem paOf {t t' : TA} (h : PA X es t) (k : ∀ σ H Q, t' σ H Q → t σ H Q) : PA X es t' := ⟨fun pos pins s σ H Q I q => h.run pos pins s σ H Q I (k _ _ _ q)⟩
theorem pkOf {kws : List Keyword} {t t' : TA} (h : PK X kws t) (k : ∀ σ H Q, t' σ H Q → t σ H Q) : PK X kws t' := ⟨fun pos pins s σ H Q I q => h.run pos pins s σ H Q I (k _ _ _ q)⟩
theorem psOf {st : Stmt} {t t' : TS} (h : PS X st t) (k : ∀ D σ H, t' D σ H → t D σ H) : PS X st t' := ⟨fun pins s σ H D I q => h.run pins s σ H D I (k _ _ _ q)⟩
theorem pssOf {st : List Stmt} {t t' : TS} (h : PSs X st t) (k : ∀ D σ H, t' D σ H → t D σ H) : PSs X st t' := ⟨fun pins s σ H D I q => h.run pins s σ H D I (k _ _ _ q)⟩
/-! ### names and constants -/
def eVar (i : Nat) : ME := fun ρ f => match ρ[i]? with
  | some (.d x) => .ok x f
  | _ => .bad
def eC (d : D) : ME := fun _ f => .ok d f
theorem mVar (i : Nat) {x : Str} {pos : Pos} (h : PE X (.Name x pos) (tVar i)) : PE X (.Name x pos) (tM G W (eVar i)) := peOf h fun σ H Q q => by
  obtain ⟨O, ρ, f, A, p⟩ := q
  cases e : ρ[i]? with
  | none => rw [show eVar i ρ f = .bad by simp only [eVar, e]] at p; exact p.elim
  | some s =>
    cases s with
    | d x =>
      rw [show eVar i ρ f = .ok x f by simp only [eVar, e]] at p
      obtain ⟨v, ev, r⟩ := A.slots i _ e
      exact ⟨v, ev, p v H A (.refl _ _) r⟩
    | no => rw [show eVar i ρ f = .bad by simp only [eVar, e]] at p; exact p.elim
    | l xs => rw [show eVar i ρ f = .bad by simp only [eVar, e]] at p; exact p.elim
    | fd => rw [show eVar i ρ f = .bad by simp only [eVar, e]] at p; exact p.elim
    | m ks xs => rw [show eVar i ρ f = .bad by simp only [eVar, e]] at p; exact p.elim
    | x => rw [show eVar i ρ f = .bad by simp only [eVar, e]] at p; exact p.elim
theorem tM_const {v : V} {d : D} {σ : L2.St} {H : Hp} {Q : VK} (r : ∀ O H, Rp G.K O H v d) (h : tM G W (eC d) σ H Q) : Q v H := by
  obtain ⟨O, ρ, f, A, p⟩ := h
  exact p v H A (.refl _ _) (r _ _)
theorem mInt {i : Int} {j : Nat} : PE X (.Constant (.int i) j pos) (tM G W (eC (.int i))) := peOf pe_int fun _ _ _ q => tM_const (fun _ _ => .int i) q
theorem mBool {i : Bool} {j : Nat} : PE X (.Constant (.bool i) j pos) (tM G W (eC (.bool i))) := peOf pe_bl fun _ _ _ q => tM_const (fun _ _ => .bl i) q
theorem mNone {j : Nat} : PE X (.Constant .none j pos) (tM G W (eC .none)) := peOf pe_non fun _ _ _ q => tM_const (fun _ _ => .non) q
theorem mStr {i : Str} {j : Nat} : PE X (.Constant (.str i) j pos) (tM G W (eC (.str i))) := peOf pe_str fun _ _ _ q => tM_const (fun _ _ => .str i) q
/-- a module's constant: v is what the name holds, with its data -/
theorem mGlob {x : Str} {v : V} {u : Value} {d : D} (hg : Gl X x) (hm : X.mg x = some u) (rv : RelV v u) (r : ∀ O H, Rp G.K O H v d) (hd : (x == ("__debug__" : Str)) = false) : PE X (.Name x pos) (tM G W (eC d)) :=
  peOf (pe_glob hg hm rv hd) fun _ _ _ q => tM_const r q
/-! ### operators -/
def eBin (g : List D → Option D) (ma mb : ME) : ME := fun ρ f => (ma ρ f).bind fun x f1 => (mb ρ f1).bind fun y f2 => ofO (g [x, y]) f2
def eUn (g : List D → Option D) (ma : ME) : ME := fun ρ f => (ma ρ f).bind fun x f1 => ofO (g [x]) f1
theorem bin_read {g : List D → Option D} {σ : L2.St} {H : Hp} {Q : VK} (h : tM G W (eBin g ma mb) σ H Q) : tM G W ma σ H fun x H1 => tM G W mb σ H1 fun y H2 => rD G.K g [x, y] H2 Q := by
  exact (tH_step (xs := []) (ma := ma) (m := fun ds ρ f => (mb ρ f).bind fun y f2 => ofO (g (ds ++ [y])) f2) (tH_nil h)).mono fun x H1 h1 => (tH_step (m := fun ds _ f => ofO (g ds) f) h1).mono fun y H2 h2 => tH_op h2
end
end Mir

set_option Elab.async false
set_option linter.all false
set_option maxRecDepth 100000
set_option maxHeartbeats 4000000
namespace Mir
open PySem PySem.Spec PyProof.Rows L2
def lim : Nat := 100000
theorem lim_line : lim ≤ sizeLine := by decide
section
variable {K : PySem.W.Frag} {O : AS} {H : Hp}
end
section
variable {X : Cx} {pins : List (Addr × Obj)} {σ : L2.St} {H : Hp} {s : Shared} {O : AS} {Q : VK}
theorem Rp.reads (I : Inv X pins σ H s) {d : D} {v : V} {u : Value} (h : Rp X.K O H v d) (hp : d.plain = true) (r : RelV v u) : ∃ as, Reads s.heap u d as := Dp.reads I d v u (Rp.dp d v hp h) r
theorem r1 {K : PySem.W.Frag} {x : V} {ds : List D} (h : RpAll K O H [x] ds) : ∃ d, ds = [d] ∧ Rp K O H x d := by
  cases h with
  | cons a b => cases b; exact ⟨_, rfl, a⟩
theorem r2 {K : PySem.W.Frag} {x y : V} {ds : List D} (h : RpAll K O H [x, y] ds) : ∃ d e, ds = [d, e] ∧ Rp K O H x d ∧ Rp K O H y e := by
  cases h with
  | cons a b =>
    obtain ⟨e, rfl, r⟩ := r1 b
    exact ⟨_, e, rfl, a, r⟩
/-- at the end: a bool -/
theorem endB (I : Inv X pins σ H s) {b : Bool} (q : ∀ v H', Same H H' → Rp X.K O H' v (.bool b) → Q v H') : EP X pins σ Q (.bool b) s := ⟨.bl b, H, I, rfl, q _ _ (Same.refl H) (.bl b)⟩
end
def eqOk (a b : D) : Bool := decide (min a.depth b.depth ≤ 64) && (a.plain && b.plain)
theorem eqOk_of {a b : D} (h : eqOk a b = true) : min a.depth b.depth ≤ 64 ∧ a.plain = true ∧ b.plain = true := by
  unfold eqOk at h
  simp only [Bool.and_eq_true, decide_eq_true_eq] at h
  exact h
def gEq : List D → Option D
  | [a, b] => if eqOk a b then some (.bool (PyData.eqv a b)) else none
  | _ => none
def gNe : List D → Option D
  | [a, b] => if eqOk a b then some (.bool (!PyData.eqv a b)) else none
  | _ => none
def ltOk (a b : D) : Bool := PySem.W.alike a b && (match a with | .none => false | _ => true) && eqOk a b
def gLt : List D → Option D
  | [a, b] => if ltOk a b then some (.bool (PySem.W.dataLt a b)) else none
  | _ => none
def gGt : List D → Option D
  | [a, b] => if ltOk a b then some (.bool (PySem.W.dataLt b a)) else none
  | _ => none
def gLe : List D → Option D
  | [a, b] => if ltOk a b then some (.bool (!PySem.W.dataLt b a)) else none
  | _ => none
def gGe : List D → Option D
  | [a, b] => if ltOk a b then some (.bool (!PySem.W.dataLt a b)) else none
  | _ => none
def inOk (xs : List D) (x : D) : Bool := decide (min (PyData.depthAll xs) x.depth ≤ 62) && (PyData.plainAll xs && x.plain)
theorem inOk_of {xs : List D} {x : D} (h : inOk xs x = true) : min (PyData.depthAll xs) x.depth ≤ 62 ∧ PyData.plainAll xs = true ∧ x.plain = true := by
  unfold inOk at h
  simp only [Bool.and_eq_true, decide_eq_true_eq] at h
  exact h
def gIn : List D → Option D
  | [x, .list xs] => if inOk xs x then some (.bool (xs.any fun y => PyData.eqv y x)) else none
  | [x, .tuple xs] => if inOk xs x then some (.bool (xs.any fun y => PyData.eqv y x)) else none
  | [.str x, .str z] => match x.cps.toList with
    | [c] => some (.bool (decide (c ∈ z.cps.toList)))
    | _ => none
  | _ => none
def gNotIn : List D → Option D
  | [x, .list xs] => if inOk xs x then some (.bool (!xs.any fun y => PyData.eqv y x)) else none
  | [x, .tuple xs] => if inOk xs x then some (.bool (!xs.any fun y => PyData.eqv y x)) else none
  | [.str x, .str z] => match x.cps.toList with
    | [c] => some (.bool (!decide (c ∈ z.cps.toList)))
    | _ => none
  | _ => none
def gAdd : List D → Option D
  | [.int a, .int b] => some (.int (a + b))
  | [.str a, .str b] => if a.length + b.length ≤ lim then some (.str (a ++ b)) else none
  | [.list a, .list b] => if a.length + b.length ≤ lim then some (.list (a ++ b)) else none
  | [.tuple a, .tuple b] => if a.length + b.length ≤ lim then some (.tuple (a ++ b)) else none
  | _ => none
def gSub : List D → Option D
  | [.int a, .int b] => some (.int (a - b))
  | _ => none
def gNeg : List D → Option D
  | [.int a] => some (.int (-a))
  | _ => none
def gLen : List D → Option D
  | [.list xs] => some (.int (xs.length : Nat))
  | [.tuple xs] => some (.int (xs.length : Nat))
  | [.str x] => if x.length ≤ lim then some (.int (x.length : Nat)) else none
  | _ => none
def gIx : List D → Option D
  | [.list xs, .int i] => atI xs i
  | [.tuple xs, .int i] => atI xs i
  | [.str x, .int i] => if x.length ≤ lim then (atI x.cps.toList i).map fun c => .str ⟨#[c]⟩ else none
  | _ => none
section
variable {X : Cx}
theorem units_of {X : Cx} {k : Nat} (hr : Room k X.A) : X.A.units + 64 < cLine := hr.units
theorem oEq (hu : X.A.units + 64 < cLine) : OpD X (compareOp .Eq) gEq := by
  intro pins s σ H x y v u Q I rx ry h
  obtain ⟨O, ds, d, ot, rs, e, q⟩ := h
  obtain ⟨da, db, rfl, ra, rb⟩ := r2 rs
  simp only [gEq] at e
  split at e
  · rename_i hk
    cases e
    obtain ⟨hk', p1, p2⟩ := eqOk_of hk
    obtain ⟨as, pa⟩ := Rp.reads I ra p1 rx
    obtain ⟨bs, pb⟩ := Rp.reads I rb p2 ry
    exact SeqAt.eq_plain pa pb p1 p2 (by omega) (endB I q)
  · cases e
theorem oNe (hu : X.A.units + 64 < cLine) : OpD X (compareOp .NotEq) gNe := by
  intro pins s σ H x y v u Q I rx ry h
  obtain ⟨O, ds, d, ot, rs, e, q⟩ := h
  obtain ⟨da, db, rfl, ra, rb⟩ := r2 rs
  simp only [gNe] at e
  split at e
  · rename_i hk
    cases e
    obtain ⟨hk', p1, p2⟩ := eqOk_of hk
    obtain ⟨as, pa⟩ := Rp.reads I ra p1 rx
    obtain ⟨bs, pb⟩ := Rp.reads I rb p2 ry
    exact SeqAt.ne_plain pa pb p1 p2 (by omega) (endB I q)
  · cases e
theorem ltOk_of {a b : D} (h : ltOk a b = true) : PySem.W.alike a b = true ∧ a ≠ .none ∧ min a.depth b.depth ≤ 64 ∧ a.plain = true ∧ b.plain = true := by
  unfold ltOk at h
  simp only [Bool.and_eq_true] at h
  refine ⟨h.1.1, fun z => ?_, eqOk_of h.2⟩
  subst z
  exact absurd h.1.2 (by simp)
theorem oLt (hu : X.A.units + 64 < cLine) : OpD X (compareOp .Lt) gLt := by
  intro pins s σ H x y v u Q I rx ry h
  obtain ⟨O, ds, d, ot, rs, e, q⟩ := h
  obtain ⟨da, db, rfl, ra, rb⟩ := r2 rs
  simp only [gLt] at e
  split at e
  · rename_i hk
    cases e
    obtain ⟨h1, h2, h3, p1, p2⟩ := ltOk_of hk
    obtain ⟨as, pa⟩ := Rp.reads I ra p1 rx
    obtain ⟨bs, pb⟩ := Rp.reads I rb p2 ry
    exact PySem.W.lt_data pa pb h1 h2 (by omega) (endB I q)
  · cases e
theorem oGt (hu : X.A.units + 64 < cLine) : OpD X (compareOp .Gt) gGt := by
  intro pins s σ H x y v u Q I rx ry h
  obtain ⟨O, ds, d, ot, rs, e, q⟩ := h
  obtain ⟨da, db, rfl, ra, rb⟩ := r2 rs
  simp only [gGt] at e
  split at e
  · rename_i hk
    cases e
    obtain ⟨h1, h2, h3, p1, p2⟩ := ltOk_of hk
    obtain ⟨as, pa⟩ := Rp.reads I ra p1 rx
    obtain ⟨bs, pb⟩ := Rp.reads I rb p2 ry
    exact PySem.W.gt_data pa pb h1 h2 (by omega) (endB I q)
  · cases e
theorem oLe (hu : X.A.units + 64 < cLine) : OpD X (compareOp .LtE) gLe := by
  intro pins s σ H x y v u Q I rx ry h
  obtain ⟨O, ds, d, ot, rs, e, q⟩ := h
  obtain ⟨da, db, rfl, ra, rb⟩ := r2 rs
  simp only [gLe] at e
  split at e
  · rename_i hk
    cases e
    obtain ⟨h1, h2, h3, p1, p2⟩ := ltOk_of hk
    obtain ⟨as, pa⟩ := Rp.reads I ra p1 rx
    obtain ⟨bs, pb⟩ := Rp.reads I rb p2 ry
    exact PySem.W.le_data pa pb h1 h2 (by omega) (endB I q)
  · cases e
theorem oGe (hu : X.A.units + 64 < cLine) : OpD X (compareOp .GtE) gGe := by
  intro pins s σ H x y v u Q I rx ry h
  obtain ⟨O, ds, d, ot, rs, e, q⟩ := h
  obtain ⟨da, db, rfl, ra, rb⟩ := r2 rs
  simp only [gGe] at e
  split at e
  · rename_i hk
    cases e
    obtain ⟨h1, h2, h3, p1, p2⟩ := ltOk_of hk
    obtain ⟨as, pa⟩ := Rp.reads I ra p1 rx
    obtain ⟨bs, pb⟩ := Rp.reads I rb p2 ry
    exact PySem.W.ge_data pa pb h1 h2 (by omega) (endB I q)
  · cases e
theorem sign_of {x : Str} {c : Nat} (h : x.cps.toList = [c]) : x = ⟨#[c]⟩ := by
  obtain ⟨⟨l⟩⟩ := x
  simp only at h
  subst h
  rfl
theorem oIn (hu : X.A.units + 64 < cLine) : OpD X (compareOp .In) gIn := by
  intro pins s σ H x y v u Q I rx ry h
  obtain ⟨O, ds, d, ot, rs, e, q⟩ := h
  obtain ⟨da, db, rfl, ra, rb⟩ := r2 rs
  have sq : ∀ xs : List D, (db = .list xs ∨ db = .tuple xs) → inOk xs da = true → d = .bool (xs.any fun y => PyData.eqv y da) → wpAny (model X.prog X.w) X.A (compareOp .In v u) (EP X pins σ Q) X.xe s := by
    intro xs hd hk ed
    subst ed
    obtain ⟨hk', p2, p1⟩ := inOk_of hk
    obtain ⟨as, pa⟩ := Rp.reads I ra p1 rx
    rcases hd with rfl | rfl
    · obtain ⟨bs, pb⟩ := Rp.reads I rb (by simpa [PyData.plain] using p2) ry
      exact SeqAt.in_list_data pb pa p2 p1 (by omega) (endB I q)
    · obtain ⟨bs, pb⟩ := Rp.reads I rb (by simpa [PyData.plain] using p2) ry
      exact SeqAt.in_tuple_data pb pa p2 p1 (by omega) (endB I q)
  unfold gIn at e
  split at e
  · rename_i a b hh
    cases hh
    split at e
    · rename_i hk
      cases e
      exact sq _ (.inl rfl) hk rfl
    · cases e
  · rename_i a b hh
    cases hh
    split at e
    · rename_i hk
      cases e
      exact sq _ (.inr rfl) hk rfl
    · cases e
  · rename_i a b hh
    cases hh
    split at e
    · rename_i c hc
      cases e
      cases ra
      cases rb
      have := sign_of hc
      subst this
      exact op_in_sign pins s σ H _ _ v u Q I rx ry ⟨c, _, rfl, rfl, q _ _ (Same.refl H) (.bl _)⟩
    · cases e
  · cases e
theorem oNotIn (hu : X.A.units + 64 < cLine) : OpD X (compareOp .NotIn) gNotIn := by
  intro pins s σ H x y v u Q I rx ry h
  obtain ⟨O, ds, d, ot, rs, e, q⟩ := h
  obtain ⟨da, db, rfl, ra, rb⟩ := r2 rs
  have sq : ∀ xs : List D, (db = .list xs ∨ db = .tuple xs) → inOk xs da = true → d = .bool (!xs.any fun y => PyData.eqv y da) → wpAny (model X.prog X.w) X.A (compareOp .NotIn v u) (EP X pins σ Q) X.xe s := by
    intro xs hd hk ed
    subst ed
    obtain ⟨hk', p2, p1⟩ := inOk_of hk
    obtain ⟨as, pa⟩ := Rp.reads I ra p1 rx
    rcases hd with rfl | rfl
    · obtain ⟨bs, pb⟩ := Rp.reads I rb (by simpa [PyData.plain] using p2) ry
      exact SeqAt.notIn_list_data pb pa p2 p1 (by omega) (endB I q)
    · obtain ⟨bs, pb⟩ := Rp.reads I rb (by simpa [PyData.plain] using p2) ry
      exact SeqAt.notIn_tuple_data pb pa p2 p1 (by omega) (endB I q)
  unfold gNotIn at e
  split at e
  · rename_i a b hh
    cases hh
    split at e
    · rename_i hk
      cases e
      exact sq _ (.inl rfl) hk rfl
    · cases e
  · rename_i a b hh
    cases hh
    split at e
    · rename_i hk
      cases e
      exact sq _ (.inr rfl) hk rfl
    · cases e
  · rename_i a b hh
    cases hh
    split at e
    · rename_i c hc
      cases e
      cases ra
      cases rb
      have := sign_of hc
      subst this
      exact op_notIn_sign pins s σ H _ _ v u Q I rx ry ⟨c, _, rfl, rfl, q _ _ (Same.refl H) (.bl _)⟩
    · cases e
  · cases e
theorem oAdd : OpD X (binaryOp .Add) gAdd := by
  intro pins s σ H x y v u Q I rx ry h
  obtain ⟨O, ds, d, ot, rs, e, q⟩ := h
  obtain ⟨da, db, rfl, ra, rb⟩ := r2 rs
  unfold gAdd at e
  split at e
  · rename_i a b hh
    cases hh; cases e; cases ra; cases rb
    exact op_add pins s σ H _ _ v u Q I rx ry ⟨_, _, rfl, rfl, q _ _ (Same.refl H) (.int _)⟩
  · rename_i a b hh
    cases hh
    split at e
    · rename_i hk
      cases e; cases ra; cases rb
      exact op_add_str pins s σ H _ _ v u Q I rx ry ⟨_, _, rfl, rfl, Nat.le_trans hk lim_line, q _ _ (Same.refl H) (.str _)⟩
    · cases e
  · rename_i a b hh
    cases hh
    split at e
    · rename_i hk
      cases e
      cases ra with
      | lst a1 b1 =>
        cases rb with
        | lst a2 b2 =>
          refine op_cat pins s σ H _ _ v u Q I rx ry ⟨_, _, _, _, rfl, rfl, a1.2, a2.2, by rw [b1.length, b2.length]; exact Nat.le_trans hk lim_line, fun p hp => ?_⟩
          exact q _ _ (same_upd hp) (Rp.newLst (b1.append b2) hp ot)
    · cases e
  · rename_i a b hh
    cases hh
    split at e
    · rename_i hk
      cases e
      cases ra with
      | tup a1 b1 =>
        cases rb with
        | tup a2 b2 =>
          refine op_catA pins s σ H _ _ v u Q I rx ry ⟨_, _, _, _, rfl, rfl, a1.sq, a2.sq, by rw [b1.length, b2.length]; exact Nat.le_trans hk lim_line, fun h0 => ?_, fun h0 h1 => ?_, fun h0 h1 p hp => ?_⟩
          · subst h0
            cases b1
            exact q _ _ (Same.refl H) (.tup a2 b2)
          · subst h1
            cases b2
            rw [List.append_nil] at q
            exact q _ _ (Same.refl H) (.tup a1 b1)
          · exact q _ _ (same_upd hp) (Rp.newTup (b1.append b2) hp ot)
    · cases e
  · cases e
theorem oSub : OpD X (binaryOp .Sub) gSub := by
  intro pins s σ H x y v u Q I rx ry h
  obtain ⟨O, ds, d, ot, rs, e, q⟩ := h
  obtain ⟨da, db, rfl, ra, rb⟩ := r2 rs
  unfold gSub at e
  split at e
  · rename_i a b hh
    cases hh; cases e; cases ra; cases rb
    exact op_sub pins s σ H _ _ v u Q I rx ry ⟨_, _, rfl, rfl, q _ _ (Same.refl H) (.int _)⟩
  · cases e
theorem oNeg : UnD X (unaryOp .USub) gNeg := by
  intro pins s σ H x v Q I rx h
  obtain ⟨O, ds, d, ot, rs, e, q⟩ := h
  obtain ⟨da, rfl, ra⟩ := r1 rs
  unfold gNeg at e
  split at e
  · rename_i a hh
    cases hh; cases e; cases ra
    exact un_neg pins s σ H _ v Q I rx ⟨_, rfl, q _ _ (Same.refl H) (.int _)⟩
  · cases e
theorem cLen : CallD X (.builtin "len") gLen := by
  intro pins s σ H xs us Q I r h
  obtain ⟨O, ds, d, ot, rs, e, q⟩ := h
  unfold gLen at e
  split at e
  · rename_i l
    cases e
    cases rs with
    | cons a b =>
      cases b
      cases a with
      | lst a1 b1 =>
        refine call_len_seq pins s σ H _ us Q I r ⟨_, _, rfl, .inl a1.sq, ?_⟩
        rw [b1.length]
        exact q _ _ (Same.refl H) (.int _)
  · rename_i l
    cases e
    cases rs with
    | cons a b =>
      cases b
      cases a with
      | tup a1 b1 =>
        refine call_len_seq pins s σ H _ us Q I r ⟨_, _, rfl, .inr a1.sq, ?_⟩
        rw [b1.length]
        exact q _ _ (Same.refl H) (.int _)
  · rename_i l
    split at e
    · rename_i hk
      cases e
      cases rs with
      | cons a b =>
        cases b
        cases a
        exact call_len_str pins s σ H _ us Q I r ⟨_, rfl, Nat.le_trans hk lim_line, q _ _ (Same.refl H) (.int _)⟩
    · cases e
  · cases e
theorem atI_map {K : PySem.W.Frag} {O : AS} {H : Hp} {vs : List V} {ds : List D} {i : Int} {d : D} (b : RpAll K O H vs ds) (h : atI ds i = some d) : ∃ v, atI vs i = some v ∧ Rp K O H v d := by
  unfold atI at h ⊢
  rw [b.length]
  cases e : ixN ds.length i with
  | none => rw [e] at h; cases h
  | some j =>
    rw [e] at h
    exact b.get h
theorem iX : IxD X gIx := by
  intro value slice pins s σ H x y v u Q I rx ry h hsb
  obtain ⟨O, ds, d, ot, rs, e, q⟩ := h
  obtain ⟨da, db, rfl, ra, rb⟩ := r2 rs
  unfold gIx at e
  split at e
  · rename_i xs i hh
    cases hh
    cases rb
    cases ra with
    | lst a1 b1 =>
      obtain ⟨w, h1, h2⟩ := atI_map b1 e
      exact ix_list value slice pins s σ H _ _ v u Q I rx ry ⟨_, _, _, _, rfl, rfl, a1.sq, h1, q _ _ (Same.refl H) h2⟩ hsb
  · rename_i xs i hh
    cases hh
    cases rb
    cases ra with
    | tup a1 b1 =>
      obtain ⟨w, h1, h2⟩ := atI_map b1 e
      exact ix_tup value slice pins s σ H _ _ v u Q I rx ry ⟨_, _, _, _, rfl, rfl, a1.sq, h1, q _ _ (Same.refl H) h2⟩ hsb
  · rename_i xs i hh
    cases hh
    split at e
    · rename_i hk
      cases rb
      cases ra
      cases ea : atI xs.cps.toList i with
      | none => rw [ea] at e; cases e
      | some c =>
        rw [ea] at e
        cases e
        exact ix_str value slice pins s σ H _ _ v u Q I rx ry ⟨_, _, c, rfl, rfl, Nat.le_trans hk lim_line, ea, q _ _ (Same.refl H) (.str _)⟩ hsb
    · cases e
  · cases e
end
end Mir

set_option Elab.async false
set_option linter.all false
set_option maxRecDepth 100000
set_option maxHeartbeats 4000000
namespace Mir
open PySem PySem.Spec PyProof.Rows L2
def mulOk (i j : Int) : Bool := (decide (-(2 ^ 64) < i) && decide (i < 2 ^ 64)) || (decide (-(2 ^ 64) < j) && decide (j < 2 ^ 64))
def gMul : List D → Option D
  | [.int a, .int b] => if mulOk a b then some (.int (a * b)) else none
  | [.list xs, .int k] => if decide (-(2 ^ 63) ≤ k) && decide (k < 2 ^ 63) && decide (xs.length * k.toNat ≤ lim) then some (.list (List.replicate k.toNat xs).flatten) else none
  | _ => none
def gMod : List D → Option D
  | [.int a, .int b] => if 0 < b then some (.int (a % b)) else none
  | _ => none
def gFDiv : List D → Option D
  | [.int a, .int b] => if 0 < b && b < 1073741824 then some (.int (a / b)) else none
  | _ => none
def gPow : List D → Option D
  | [.int a, .int b] => if decide (0 ≤ b) && decide (b ≤ 1000000) && decide (a.natAbs < 2 ^ 64) then some (.int (a ^ b.toNat)) else none
  | _ => none
def gInt : List D → Option D
  | [.int a] => some (.int a)
  | [.bool b] => some (.int (if b then 1 else 0))
  | [.str x] => if x.length ≤ 640 then (PySem.intText? x).map .int else none
  | _ => none
def gStr : List D → Option D
  | [.int a] => if a.natAbs.log2 < 1920 then some (.str (toString a)) else none
  | [.str x] => some (.str x)
  | _ => none
def gList : List D → Option D
  | [.list xs] => some (.list xs)
  | [.tuple xs] => some (.list xs)
  | _ => none
def gTuple : List D → Option D
  | [.list xs] => some (.tuple xs)
  | [.tuple xs] => some (.tuple xs)
  | _ => none
def bools : List D → Option (List Bool)
  | [] => some []
  | .bool b :: ds => (bools ds).map (b :: ·)
  | _ => none
def gAll : List D → Option D
  | [.list xs] => (bools xs).map fun bs => .bool (bs.all id)
  | _ => none
def gAny : List D → Option D
  | [.list xs] => (bools xs).map fun bs => .bool (bs.any id)
  | _ => none
def gRepr : List D → Option D
  | [d] => if d.showable && decide (d.shown.length ≤ 10000000) && decide (d.depth ≤ 60) && d.plain then some (.str d.shown) else none
  | _ => none
def gIsI (T : String) : List D → Option D
  | [d] => match T with
    | "int" => some (.bool d.isInt)
    | "bool" => some (.bool d.isBool)
    | "str" => some (.bool d.isStr)
    | "tuple" => some (.bool d.isTuple)
    | "list" => some (.bool d.isList)
    | "dict" => some (.bool d.isDict)
    | _ => none
  | _ => none
def strsD : List D → Option (List Str)
  | [] => some []
  | .str b :: ds => (strsD ds).map (b :: ·)
  | _ => none
def gJoin : List D → Option D
  | [.str a, .list xs] => (strsD xs).bind fun ys => if (ys.map (·.length)).sum + ys.length * a.length ≤ lim then some (.str (Txt.join a ys)) else none
  | [.str a, .tuple xs] => (strsD xs).bind fun ys => if (ys.map (·.length)).sum + ys.length * a.length ≤ lim then some (.str (Txt.join a ys)) else none
  | _ => none
def gSplit : List D → Option D
  | [.str a, .str b] => if (b.length == 0) = false ∧ a.length + 2 ≤ lim then some (.list ((Txt.split a b).map .str)) else none
  | _ => none
def gUpper : List D → Option D
  | [.str a] => if a.length ≤ lim then some (.str (Txt.upper a)) else none
  | _ => none
theorem bools_rp {K : PySem.W.Frag} {O : AS} {H : Hp} : ∀ {ds : List D} {vs : List V} {bs : List Bool}, RpAll K O H vs ds → bools ds = some bs → vs = bs.map V.bl
  | [], _, _, r, e => by cases r; cases e; rfl
  | .bool b :: ds, _, bs, r, e => by
    cases r with
    | cons a r =>
      cases a
      simp only [bools] at e
      cases q : bools ds with
      | none => rw [q] at e; cases e
      | some cs =>
        rw [q] at e
        cases e
        rw [bools_rp r q]
        rfl
  | .none :: _, _, _, _, e => by simp [bools] at e
  | .int _ :: _, _, _, _, e => by simp [bools] at e
  | .str _ :: _, _, _, _, e => by simp [bools] at e
  | .list _ :: _, _, _, _, e => by simp [bools] at e
  | .tuple _ :: _, _, _, _, e => by simp [bools] at e
  | .dict _ :: _, _, _, _, e => by simp [bools] at e
theorem strs_rp {K : PySem.W.Frag} {O : AS} {H : Hp} : ∀ {ds : List D} {vs : List V} {bs : List Str}, RpAll K O H vs ds → strsD ds = some bs → vs = bs.map V.str
  | [], _, _, r, e => by cases r; cases e; rfl
  | .str b :: ds, _, bs, r, e => by
    cases r with
    | cons a r =>
      cases a
      simp only [strsD] at e
      cases q : strsD ds with
      | none => rw [q] at e; cases e
      | some cs =>
        rw [q] at e
        cases e
        rw [strs_rp r q]
        rfl
  | .none :: _, _, _, _, e => by simp [strsD] at e
  | .int _ :: _, _, _, _, e => by simp [strsD] at e
  | .bool _ :: _, _, _, _, e => by simp [strsD] at e
  | .list _ :: _, _, _, _, e => by simp [strsD] at e
  | .tuple _ :: _, _, _, _, e => by simp [strsD] at e
  | .dict _ :: _, _, _, _, e => by simp [strsD] at e
theorem rp_strs {K : PySem.W.Frag} {O : AS} {H : Hp} : ∀ ys : List Str, RpAll K O H (ys.map V.str) (ys.map PyData.str)
  | [] => .nil
  | y :: ys => .cons (.str y) (rp_strs ys)
section
variable {X : Cx}
theorem ctoP {a b : Prop} [Decidable a] [Decidable b] (h : (decide a && decide b) = true) : a ∧ b := by simpa using h
theorem rp_flat {K : PySem.W.Frag} {O : AS} {H : Hp} {vs : List V} {ds : List D} (r : RpAll K O H vs ds) : ∀ k : Nat, RpAll K O H (List.replicate k vs).flatten (List.replicate k ds).flatten
  | 0 => .nil
  | k + 1 => by
    rw [List.replicate_succ, List.replicate_succ, List.flatten_cons, List.flatten_cons]
    exact r.append (rp_flat r k)
theorem oMul : OpD X (binaryOp .Mult) gMul := by
  intro pins s σ H x y v u Q I rx ry h
  obtain ⟨O, ds, d, ot, rs, e, q⟩ := h
  obtain ⟨da, db, rfl, ra, rb⟩ := r2 rs
  unfold gMul at e
  split at e
  · rename_i a b hh
    cases hh
    split at e
    · rename_i hk
      cases e; cases ra; cases rb
      refine op_mul pins s σ H _ _ v u Q I rx ry ⟨_, _, rfl, rfl, ?_, q _ _ (Same.refl H) (.int _)⟩
      simpa [mulOk, CMul] using hk
    · cases e
  · rename_i a b hh
    cases hh
    split at e
    · rename_i hk
      cases e; cases rb
      simp only [Bool.and_eq_true, decide_eq_true_eq] at hk
      cases ra with
      | lst a1 b1 =>
        refine op_rep pins s σ H _ _ v u Q I rx ry ⟨_, _, _, rfl, rfl, a1.2, hk.1.1, hk.1.2, by rw [b1.length]; exact Nat.le_trans hk.2 lim_line, ?_⟩
        first
          | exact fun p hp => q _ _ (same_upd hp) (Rp.newLst (rp_flat b1 _) hp ot)
          | exact fun p hp => by
              have := q (.ref p) (upd H p (.lst (List.replicate b.toNat _).flatten)) (same_upd hp) (Rp.newLst (rp_flat b1 _) hp ot)
              exact this
    · cases e
  · cases e
theorem oMod : OpD X (binaryOp .Mod) gMod := by
  intro pins s σ H x y v u Q I rx ry h
  obtain ⟨O, ds, d, ot, rs, e, q⟩ := h
  obtain ⟨da, db, rfl, ra, rb⟩ := r2 rs
  unfold gMod at e
  split at e
  · rename_i a b hh
    cases hh
    split at e
    · rename_i hk
      cases e; cases ra; cases rb
      exact op_mod pins s σ H _ _ v u Q I rx ry ⟨_, _, rfl, rfl, hk, q _ _ (Same.refl H) (.int _)⟩
    · cases e
  · cases e
theorem oFDiv : OpD X (binaryOp .FloorDiv) gFDiv := by
  intro pins s σ H x y v u Q I rx ry h
  obtain ⟨O, ds, d, ot, rs, e, q⟩ := h
  obtain ⟨da, db, rfl, ra, rb⟩ := r2 rs
  unfold gFDiv at e
  split at e
  · rename_i a b hh
    cases hh
    split at e
    · rename_i hk
      cases e; cases ra; cases rb
      exact op_fdiv pins s σ H _ _ v u Q I rx ry ⟨_, _, rfl, rfl, ctoP hk, q _ _ (Same.refl H) (.int _)⟩
    · cases e
  · cases e
theorem oPow : OpD X (binaryOp .Pow) gPow := by
  intro pins s σ H x y v u Q I rx ry h
  obtain ⟨O, ds, d, ot, rs, e, q⟩ := h
  obtain ⟨da, db, rfl, ra, rb⟩ := r2 rs
  unfold gPow at e
  split at e
  · rename_i a b hh
    cases hh
    split at e
    · rename_i hk
      cases e; cases ra; cases rb
      simp only [Bool.and_eq_true, decide_eq_true_eq] at hk
      exact op_pow pins s σ H _ _ v u Q I rx ry ⟨_, _, rfl, rfl, ⟨hk.1.1, hk.1.2, hk.2⟩, q _ _ (Same.refl H) (.int _)⟩
    · cases e
  · cases e
theorem cInt : CallD X (.type "int") gInt := by
  intro pins s σ H xs us Q I r h
  obtain ⟨O, ds, d, ot, rs, e, q⟩ := h
  unfold gInt at e
  split at e
  · cases e
    cases rs with
    | cons a b =>
      cases b; cases a
      exact call_int1 pins s σ H _ us Q I r (.inl ⟨_, rfl, q _ _ (Same.refl H) (.int _)⟩)
  · cases e
    cases rs with
    | cons a b =>
      cases b; cases a
      exact call_int1 pins s σ H _ us Q I r (.inr ⟨_, rfl, q _ _ (Same.refl H) (.int _)⟩)
  · rename_i x
    split at e
    · rename_i hk
      cases ex : PySem.intText? x with
      | none => rw [ex] at e; cases e
      | some n =>
        rw [ex] at e
        cases e
        cases rs with
        | cons a b =>
          cases b; cases a
          exact call_int_str pins s σ H _ us Q I r ⟨_, n, rfl, ex, hk, q _ _ (Same.refl H) (.int _)⟩
    · cases e
  · cases e
theorem cStr : CallD X (.type "str") gStr := by
  intro pins s σ H xs us Q I r h
  obtain ⟨O, ds, d, ot, rs, e, q⟩ := h
  unfold gStr at e
  split at e
  · split at e
    · rename_i hk
      cases e
      cases rs with
      | cons a b =>
        cases b; cases a
        exact call_str_int pins s σ H _ us Q I r ⟨_, rfl, hk, q _ _ (Same.refl H) (.str _)⟩
    · cases e
  · cases e
    cases rs with
    | cons a b =>
      cases b; cases a
      obtain ⟨u, rfl, t, rfl⟩ := vals1 r
      exact PySem.P.str_of_str ⟨.str _, H, I, ⟨t, rfl⟩, q _ _ (Same.refl H) (.str _)⟩
  · cases e
theorem cList : CallD X (.type "list") gList := by
  intro pins s σ H xs us Q I r h
  obtain ⟨O, ds, d, ot, rs, e, q⟩ := h
  unfold gList at e
  split at e
  · cases e
    cases rs with
    | cons a b =>
      cases b
      cases a with
      | lst a1 b1 => exact call_list_of pins s σ H _ us Q I r ⟨_, _, rfl, .inl a1.sq, fun p hp => q _ _ (same_upd hp) (Rp.newLst b1 hp ot)⟩
  · cases e
    cases rs with
    | cons a b =>
      cases b
      cases a with
      | tup a1 b1 => exact call_list_of pins s σ H _ us Q I r ⟨_, _, rfl, .inr a1.sq, fun p hp => q _ _ (same_upd hp) (Rp.newLst b1 hp ot)⟩
  · cases e
theorem cTuple : CallD X (.type "tuple") gTuple := by
  intro pins s σ H xs us Q I r h
  obtain ⟨O, ds, d, ot, rs, e, q⟩ := h
  unfold gTuple at e
  split at e
  · cases e
    cases rs with
    | cons a b =>
      cases b
      cases a with
      | lst a1 b1 => exact call_tuple_of pins s σ H _ us Q I r ⟨_, _, rfl, .inl ⟨a1.sq, fun p hp => q _ _ (same_upd hp) (Rp.newTup b1 hp ot)⟩⟩
  · cases e
    cases rs with
    | cons a b =>
      cases b
      cases a with
      | tup a1 b1 => exact call_tuple_of pins s σ H _ us Q I r ⟨_, _, rfl, .inr ⟨a1.sq, q _ _ (Same.refl H) (.tup a1 b1)⟩⟩
  · cases e
theorem cAll (hc : X.calm = true) : CallD X (.builtin "all") gAll := by
  intro pins s σ H xs us Q I r h
  obtain ⟨O, ds, d, ot, rs, e, q⟩ := h
  unfold gAll at e
  split at e
  · rename_i ys
    cases eb : bools ys with
    | none => rw [eb] at e; cases e
    | some bs =>
      rw [eb] at e
      cases e
      cases rs with
      | cons a b =>
        cases b
        cases a with
        | lst a1 b1 =>
          have := bools_rp b1 eb
          subst this
          exact cr_all hc pins s σ H _ us Q I r ⟨_, _, rfl, a1.sq, q _ _ (Same.refl H) (.bl _)⟩
  · cases e
theorem cAny (hc : X.calm = true) : CallD X (.builtin "any") gAny := by
  intro pins s σ H xs us Q I r h
  obtain ⟨O, ds, d, ot, rs, e, q⟩ := h
  unfold gAny at e
  split at e
  · rename_i ys
    cases eb : bools ys with
    | none => rw [eb] at e; cases e
    | some bs =>
      rw [eb] at e
      cases e
      cases rs with
      | cons a b =>
        cases b
        cases a with
        | lst a1 b1 =>
          have := bools_rp b1 eb
          subst this
          exact cr_any hc pins s σ H _ us Q I r ⟨_, _, rfl, a1.sq, q _ _ (Same.refl H) (.bl _)⟩
  · cases e
mutual
theorem noDict_plain : ∀ d : D, d.plain = true → d.hasDict = false
  | .none, _ => rfl
  | .bool _, _ => rfl
  | .int _, _ => rfl
  | .str _, _ => rfl
  | .list ds, h => by
    simp only [PyData.hasDict]
    exact noDict_all ds (by simpa [PyData.plain] using h)
  | .tuple ds, h => by
    simp only [PyData.hasDict]
    exact noDict_all ds (by simpa [PyData.plain] using h)
  | .dict _, h => by cases h
theorem noDict_all : ∀ ds : List D, PyData.plainAll ds = true → PyData.hasDictAll ds = false
  | [], _ => rfl
  | d :: ds, h => by
    have h' : d.plain = true ∧ PyData.plainAll ds = true := by simpa [PyData.plainAll] using h
    simp only [PyData.hasDictAll, noDict_plain d h'.1, noDict_all ds h'.2, Bool.or_self]
end
theorem cRepr (hu : X.A.units + 64 < cLine) (hg : X.A.guards = some []) : CallD X (.builtin "repr") gRepr := by
  intro pins s σ H xs us Q I r h
  obtain ⟨O, ds, d, ot, rs, e, q⟩ := h
  unfold gRepr at e
  split at e
  · rename_i d0
    split at e
    · rename_i hk
      cases e
      simp only [Bool.and_eq_true, decide_eq_true_eq] at hk
      obtain ⟨⟨⟨h1, h2⟩, h3⟩, pl⟩ := hk
      have h2' : d0.shown.length ≤ sizeLine := Nat.le_trans h2 (by decide)
      cases rs with
      | cons a b =>
        cases b
        have qq := q (.str d0.shown) H (Same.refl H) (.str _)
        obtain ⟨u, rfl, rv⟩ := vals1 r
        obtain ⟨as, rd⟩ := Rp.reads I a pl rv
        cases a with
        | non => cases rv; exact PySem.P.repr_of_none ⟨.str _, H, I.tok _, ⟨_, rfl⟩, by simpa only [PyData.shown] using qq⟩
        | bl b => cases rv; exact PySem.P.repr_of_bool ⟨.str _, H, I.tok _, ⟨_, rfl⟩, by simpa only [PyData.shown] using qq⟩
        | int i =>
          obtain ⟨t, rfl⟩ := rv
          exact PySem.P.repr_of_int (by simpa [PyData.showable] using h1) ⟨.str _, H, I.tok _, ⟨_, rfl⟩, by simpa only [PyData.shown] using qq⟩
        | str i =>
          obtain ⟨t, rfl⟩ := rv
          exact PySem.P.repr_of_str ⟨.str _, H, I.tok _, ⟨_, rfl⟩, by simpa only [PyData.shown] using qq⟩ (by simpa only [PyData.shown] using h2')
        | lst _ _ =>
          cases rv
          exact repr_of_reads' rd h1 (PyData.noDict_hsm (noDict_plain _ pl)) hg (by omega) (fun _ _ e => e) (fun h' u tk k => ⟨.str _, H, I.kept k, ⟨u, rfl⟩, qq⟩) h2'
        | tup _ _ =>
          cases rv
          exact repr_of_reads' rd h1 (PyData.noDict_hsm (noDict_plain _ pl)) hg (by omega) (fun _ _ e => e) (fun h' u tk k => ⟨.str _, H, I.kept k, ⟨u, rfl⟩, qq⟩) h2'
        | dct _ _ _ => simp [PyData.plain] at pl
    · cases e
  · cases e
theorem mtJoin : MtD X "str.join" gJoin := by
  intro pins s σ H x xs v us Q I rx rs' h
  obtain ⟨O, ds, d, ot, rs, e, q⟩ := h
  have fin : ∀ (a : Str) (ys : List D) (zs : List Str), ds = [.str a, .list ys] ∨ ds = [.str a, .tuple ys] → strsD ys = some zs → (zs.map (·.length)).sum + zs.length * a.length ≤ lim → d = .str (Txt.join a zs) →
      wpAny (model X.prog X.w) X.A (call (.builtin "str.join") (v :: us)) (EP X pins σ Q) X.xe s := by
    intro a ys zs hd he hl ed
    subst ed
    have hl' : (zs.map (·.length)).sum + zs.length * a.length ≤ 16777216 := Nat.le_trans hl (by decide)
    have qq := q _ _ (Same.refl H) (.str _)
    rcases hd with rfl | rfl
    · cases rs with
      | cons a1 b1 =>
        cases a1
        cases b1 with
        | cons a2 b2 =>
          cases b2
          cases a2 with
          | lst a3 b3 =>
            have := strs_rp b3 he
            subst this
            exact mt_join pins s σ H _ _ v us Q I rx rs' ⟨a, _, zs, rfl, rfl, .inl a3.sq, hl', qq⟩
    · cases rs with
      | cons a1 b1 =>
        cases a1
        cases b1 with
        | cons a2 b2 =>
          cases b2
          cases a2 with
          | tup a3 b3 =>
            have := strs_rp b3 he
            subst this
            exact mt_join pins s σ H _ _ v us Q I rx rs' ⟨a, _, zs, rfl, rfl, .inr a3.sq, hl', qq⟩
  unfold gJoin at e
  split at e
  · rename_i a ys
    cases es : strsD ys with
    | none => rw [es] at e; cases e
    | some zs =>
      rw [es] at e
      dsimp only [Option.bind_some] at e
      split at e
      · rename_i hk
        cases e
        exact fin a ys zs (.inl rfl) es hk rfl
      · cases e
  · rename_i a ys
    cases es : strsD ys with
    | none => rw [es] at e; cases e
    | some zs =>
      rw [es] at e
      dsimp only [Option.bind_some] at e
      split at e
      · rename_i hk
        cases e
        exact fin a ys zs (.inr rfl) es hk rfl
      · cases e
  · cases e
theorem mtSplit : MtD X "str.split" gSplit := by
  intro pins s σ H x xs v us Q I rx rs' h
  obtain ⟨O, ds, d, ot, rs, e, q⟩ := h
  unfold gSplit at e
  split at e
  · rename_i a b
    split at e
    · rename_i hk
      cases e
      cases rs with
      | cons a1 b1 =>
        cases a1
        cases b1 with
        | cons a2 b2 =>
          cases b2
          cases a2
          exact mt_split pins s σ H _ _ v us Q I rx rs' ⟨a, b, rfl, rfl, hk.1, Nat.le_trans hk.2 lim_line, fun p hp => q _ _ (same_upd hp) (Rp.newLst (rp_strs _) hp ot)⟩
    · cases e
  · cases e
/-! ### slices -/
def cutD (xs : List D) (lo hi : Option Int) : List D := (xs.drop (HT.sIx xs.length 0 lo)).take (HT.sIx xs.length xs.length hi - HT.sIx xs.length 0 lo)
theorem cutD_rp {K : PySem.W.Frag} {O : AS} {H : Hp} {vs : List V} {ds : List D} (r : RpAll K O H vs ds) (lo hi : Option Int) : RpAll K O H (cutV vs lo hi) (cutD ds lo hi) := by
  unfold cutV cutD
  rw [r.length]
  exact (r.drop _).take _
def gSl (lo hi : Option Int) : List D → Option D
  | [.list xs] => some (.list (cutD xs lo hi))
  | [.tuple xs] => some (.tuple (cutD xs lo hi))
  | [.str z] => if z.length ≤ lim then some (.str (cutS z lo hi)) else none
  | _ => none
theorem cut_whole {xs : List D} {lo hi : Option Int} (h : HT.sIx xs.length 0 lo = 0 ∧ HT.sIx xs.length xs.length hi = xs.length) : cutD xs lo hi = xs := by
  unfold cutD
  rw [h.1, h.2]
  simp
theorem sl : SlR X (fun x lo hi H Q => rD X.K (gSl lo hi) [x] H Q) := by
  intro pins s σ H x v vl vu lo hi sl Q I rx hs pl pu h
  obtain ⟨O, ds, d, ot, rs, e, q⟩ := h
  unfold gSl at e
  split at e
  · cases e
    cases rs with
    | cons a b =>
      cases b
      cases a with
      | lst a1 b1 => exact sl_list pins s σ H _ v vl vu lo hi sl Q I rx hs pl pu ⟨_, _, rfl, a1.sq, fun p hp => q _ _ (same_upd hp) (Rp.newLst (cutD_rp b1 lo hi) hp ot)⟩
  · cases e
    cases rs with
    | cons a b =>
      cases b
      cases a with
      | tup a1 b1 =>
        refine sl_tupA pins s σ H _ v vl vu lo hi sl Q I rx hs pl pu ⟨_, _, rfl, a1.sq, fun hw => ?_, fun _ p hp => q _ _ (same_upd hp) (Rp.newTup (cutD_rp b1 lo hi) hp ot)⟩
        rw [b1.length] at hw
        rw [cut_whole hw] at q
        exact q _ _ (Same.refl H) (.tup a1 b1)
  · split at e
    · rename_i hk
      cases e
      cases rs with
      | cons a b =>
        cases b
        cases a
        exact sl_str pins s σ H _ v vl vu lo hi sl Q I rx hs pl pu ⟨_, rfl, Nat.le_trans hk lim_line, q _ _ (Same.refl H) (.str _)⟩
    · cases e
  · cases e
theorem kbF1 : kitB "list" "int" = some false := by decide +kernel
theorem kbF2 : kitB "list" "bool" = some false := by decide +kernel
theorem kbF3 : kitB "list" "str" = some false := by decide +kernel
theorem kbF4 : kitB "list" "tuple" = some false := by decide +kernel
theorem kbF5 : kitB "list" "list" = some true := by decide +kernel
theorem kbF6 : kitB "list" "dict" = some false := by decide +kernel
theorem kbT1 : kitB "tuple" "int" = some false := by decide +kernel
theorem kbT2 : kitB "tuple" "bool" = some false := by decide +kernel
theorem kbT3 : kitB "tuple" "str" = some false := by decide +kernel
theorem kbT4 : kitB "tuple" "tuple" = some true := by decide +kernel
theorem kbT5 : kitB "tuple" "list" = some false := by decide +kernel
theorem kbT6 : kitB "tuple" "dict" = some false := by decide +kernel
theorem kbD1 : kitB "dict" "int" = some false := by decide +kernel
theorem kbD2 : kitB "dict" "bool" = some false := by decide +kernel
theorem kbD3 : kitB "dict" "str" = some false := by decide +kernel
theorem kbD4 : kitB "dict" "tuple" = some false := by decide +kernel
theorem kbD5 : kitB "dict" "list" = some false := by decide +kernel
theorem kbD6 : kitB "dict" "dict" = some true := by decide +kernel
/-- isinstance(x, T) -/
theorem cIsI {T : String} : CallR X (.builtin "isinstance") (fun vs H Q => ∃ x, vs = [x, .ty T] ∧ rD X.K (gIsI T) [x] H Q) := by
  intro pins s σ H xs us Q I r h
  obtain ⟨x, rfl, O, ds, d, ot, rs, e, q⟩ := h
  obtain ⟨da, rfl, ra⟩ := r1 rs
  obtain ⟨u1, u2, rfl, rv, rt⟩ := vals2 r
  cases (show u2 = Value.type T from rt)
  have fin : ∀ b : Bool, d = .bool b → ∀ tk, EP X pins σ Q (.bool b) { s with toks := tk } := fun b eb tk => by
    subst eb
    exact ⟨.bl b, H, I.tok tk, rfl, q _ _ (Same.refl H) (.bl b)⟩
  cases hp : da.plain with
  | true =>
    obtain ⟨as, rd⟩ := Rp.reads I ra hp rv
    unfold gIsI at e
    dsimp only at e
    split at e
    · cases e; exact PySem.W.isinstance_int_data rd fun tk _ => fin _ rfl tk
    · cases e; exact PySem.W.isinstance_bool_data rd fun tk _ => fin _ rfl tk
    · cases e; exact PySem.W.isinstance_str_data rd fun tk _ => fin _ rfl tk
    · cases e; exact PySem.W.isinstance_tuple_data rd fun tk _ => fin _ rfl tk
    · cases e; exact PySem.W.isinstance_list_data rd fun tk _ => fin _ rfl tk
    · cases e; exact PySem.W.isinstance_dict_data rd fun tk _ => fin _ rfl tk
    · cases e
  | false =>
    have go : ∀ (t : String), TyX X.K H x (.type t) → (∀ b : Bool, d = .bool b → kitB t T = some b) → wpAny (model X.prog X.w) X.A (call (.builtin "isinstance") [u1, .type T]) (EP X pins σ Q) X.xe s := fun t ht hb => by
      have hd : ∃ b, d = .bool b := by
        unfold gIsI at e
        dsimp only at e
        split at e <;> first | (cases e; exact ⟨_, rfl⟩) | cases e
      obtain ⟨b, eb⟩ := hd
      subst eb
      exact call_isi pins s σ H _ _ Q I r ⟨x, .ty T, .type t, .type T, b, rfl, .ty T, ht, kit_ty (hb b rfl), q _ _ (Same.refl H) (.bl b)⟩
    cases ra with
    | non => simp [PyData.plain] at hp
    | bl b => simp [PyData.plain] at hp
    | int i => simp [PyData.plain] at hp
    | str z => simp [PyData.plain] at hp
    | lst a b =>
      refine go "list" (.base (.lst a.2)) fun b eb => ?_
      subst eb
      unfold gIsI at e
      dsimp only at e
      split at e <;> first | (injection e with e; injection e with e; subst e; first | exact kbF1 | exact kbF2 | exact kbF3 | exact kbF4 | exact kbF5 | exact kbF6) | cases e
    | tup a b =>
      have tt : TyX X.K H (.ref _) (.type "tuple") := a.elim (fun z => .base (.tup z.2)) fun ⟨o, _, _, h1, h2, _⟩ => .kTuple h1 h2
      refine go "tuple" tt fun b eb => ?_
      subst eb
      unfold gIsI at e
      dsimp only at e
      split at e <;> first | (injection e with e; injection e with e; subst e; first | exact kbT1 | exact kbT2 | exact kbT3 | exact kbT4 | exact kbT5 | exact kbT6) | cases e
    | dct a l b =>
      refine go "dict" (.base (.dK a.2)) fun b eb => ?_
      subst eb
      unfold gIsI at e
      dsimp only at e
      split at e <;> first | (injection e with e; injection e with e; subst e; first | exact kbD1 | exact kbD2 | exact kbD3 | exact kbD4 | exact kbD5 | exact kbD6) | cases e
end
end Mir

set_option Elab.async false
set_option linter.all false
set_option maxRecDepth 100000
set_option maxHeartbeats 4000000
namespace Mir
open PySem PySem.Spec PyProof.Rows L2
section
variable {X : Cx} {e a b c : Expr} {es : List Expr} {pos : Pos} {G : Gx} {W : WX} {ma mb mc : ME} {ms : MA} {ba bb : MB}
theorem un_read {g : List D → Option D} {σ : L2.St} {H : Hp} {Q : VK} (h : tM G W (eUn g ma) σ H Q) : tM G W ma σ H fun x H1 => rD G.K g [x] H1 Q :=
  (tH_step (xs := []) (ma := ma) (m := fun ds _ f => ofO (g ds) f) (tH_nil h)).mono fun _ _ h1 => tH_op h1
def eList (g : List D → Option D) (ms : MA) : ME := fun ρ f => (ms ρ f).bind fun ds f1 => ofO (g ds) f1
theorem list_read {g : List D → Option D} {σ : L2.St} {H : Hp} {Q : VK} (h : tM G W (eList g ms) σ H Q) : tMA G W ms σ H fun xs H1 => rD G.K g xs H1 Q :=
  (tH_stepA (xs := []) (ma := ms) (m := fun ds _ f => ofO (g ds) f) (tH_nil h)).mono fun _ _ h1 => tH_op h1
/-! ### operators -/
theorem mBin {op : Operator} {g : List D → Option D} (ho : OpD X (binaryOp op) g) (hK : G.K = X.K) (ha : PE X a (tM G W ma)) (hb : PE X b (tM G W mb)) : PE X (.BinOp a op b pos) (tM G W (eBin g ma mb)) :=
  peOf (pe_op ho ha hb) fun _ _ _ q => by rw [← hK]; exact bin_read q
theorem mUn {op : UnaryOp} {g : List D → Option D} (ho : UnD X (unaryOp op) g) (hK : G.K = X.K) (ha : PE X a (tM G W ma)) : PE X (.UnaryOp op a pos) (tM G W (eUn g ma)) :=
  peOf (pe_un ho ha) fun _ _ _ q => by rw [← hK]; exact un_read q
theorem mCmp {op : CmpOp} {g : List D → Option D} (ho : OpD X (compareOp op) g) (hK : G.K = X.K) (ha : PE X a (tM G W ma)) (hb : PE X b (tM G W mb)) (hm : behindInMarks op b = false) : PE X (.Compare a [op] [b] pos) (tM G W (eBin g ma mb)) :=
  peOf (pe_cmpR ho ha hb hm) fun _ _ _ q => by rw [← hK]; exact bin_read q
theorem mIx {g : List D → Option D} (ho : IxD X g) (hK : G.K = X.K) (ha : PE X a (tM G W ma)) (hb : PE X b (tM G W mb)) (hs : PlainIx b) : PE X (.Subscript a b pos) (tM G W (eBin g ma mb)) :=
  peOf (pe_ix ho ha hb hs) fun _ _ _ q => by rw [← hK]; exact bin_read q
/-! ### is None -/
def gIsN : List D → Option D
  | [.none] => some (.bool true)
  | [_] => some (.bool false)
  | _ => none
def gNotN : List D → Option D
  | [.none] => some (.bool false)
  | [_] => some (.bool true)
  | _ => none
theorem isN_rd {K : PySem.W.Frag} {x : V} {H : Hp} {Q : VK} (h : rD K gIsN [x] H Q) : Q (.bl (decide (x = .non))) H := by
  obtain ⟨O, ds, d, ot, rs, e, q⟩ := h
  obtain ⟨da, rfl, ra⟩ := r1 rs
  cases ra <;> (simp only [gIsN, Option.some.injEq] at e; subst e; exact q _ _ (Same.refl H) (.bl _))
theorem notN_rd {K : PySem.W.Frag} {x : V} {H : Hp} {Q : VK} (h : rD K gNotN [x] H Q) : Q (.bl (!decide (x = .non))) H := by
  obtain ⟨O, ds, d, ot, rs, e, q⟩ := h
  obtain ⟨da, rfl, ra⟩ := r1 rs
  cases ra <;> (simp only [gNotN, Option.some.injEq] at e; subst e; exact q _ _ (Same.refl H) (.bl _))
theorem mIsN {j : Nat} {p' : Pos} (ha : PE X a (tM G W ma)) : PE X (.Compare a [.Is] [.Constant .none j p'] pos) (tM G W (eUn gIsN ma)) :=
  peOf (pe_cmp (pc_isN ha) (nobehind _ (by decide) (by decide))) fun _ _ _ q => (un_read q).mono fun _ _ h => isN_rd h
theorem mNotN {j : Nat} {p' : Pos} (ha : PE X a (tM G W ma)) : PE X (.Compare a [.IsNot] [.Constant .none j p'] pos) (tM G W (eUn gNotN ma)) :=
  peOf (pe_cmp (pc_notN ha) (nobehind _ (by decide) (by decide))) fun _ _ _ q => (un_read q).mono fun _ _ h => notN_rd h
/-! ### values that are bools, as tests -/
def asB : D → Option Bool
  | .bool b => some b
  | _ => none
def tB (m : ME) : MB := fun ρ f => (m ρ f).bind fun d f1 => ofO (asB d) f1
theorem tB_read {σ : L2.St} {H : Hp} {Q : Bool → Hp → Prop} (h : tMT G W (tB ma) σ H Q) : tM G W ma σ H fun x H1 => ∃ k, x = .bl k ∧ Q k H1 := by
  have h1 := tH_step (xs := []) (ma := ma) (m := fun ds _ f => ofO (ds.head?.bind asB) f) (tH_nil h)
  refine h1.mono fun x H1 q => ?_
  obtain ⟨O, ρ, f, ds, A, rs, p⟩ := q
  obtain ⟨d, rfl, r⟩ := r1 rs
  cases r <;> first
    | exact ⟨_, rfl, p _ H1 A (.refl _ _) rfl⟩
    | exact absurd p (by simp [asB, ofO, Post])
theorem ptCmp {op : CmpOp} {g : List D → Option D} (ho : OpD X (compareOp op) g) (hK : G.K = X.K) (ha : PE X a (tM G W ma)) (hb : PE X b (tM G W mb)) (hm : behindInMarks op b = false) : PT X (.Compare a [op] [b] pos) (tMT G W (tB (eBin g ma mb))) :=
  ptOf (pt_cmpR ho ha hb hm) fun _ _ _ q => by
    have h := bin_read (tB_read q)
    rw [hK] at h
    exact h
theorem ptIsN {j : Nat} {p' : Pos} (ha : PE X a (tM G W ma)) : PT X (.Compare a [.Is] [.Constant .none j p'] pos) (tMT G W (tB (eUn gIsN ma))) :=
  ptOf (pt_cmp (pc_isN ha) (nobehind _ (by decide) (by decide))) fun _ _ _ q => (un_read (tB_read q)).mono fun _ _ h => isN_rd h
theorem ptNotN {j : Nat} {p' : Pos} (ha : PE X a (tM G W ma)) : PT X (.Compare a [.IsNot] [.Constant .none j p'] pos) (tMT G W (tB (eUn gNotN ma))) :=
  ptOf (pt_cmp (pc_notN ha) (nobehind _ (by decide) (by decide))) fun _ _ _ q => (un_read (tB_read q)).mono fun _ _ h => notN_rd h
/-- any value's truth -/
def truthD : D → Option Bool
  | .none => some false
  | .bool b => some b
  | .int i => some (i != 0)
  | .str x => if x.length ≤ lim then some ((x.length : Int) != 0) else none
  | .list xs => some (!xs.isEmpty)
  | .tuple xs => some (!xs.isEmpty)
  | .dict _ => none
def tT (m : ME) : MB := fun ρ f => (m ρ f).bind fun d f1 => ofO (truthD d) f1
theorem rp_empty {K : PySem.W.Frag} {O : AS} {H : Hp} {vs : List V} {ds : List D} (r : RpAll K O H vs ds) : vs.isEmpty = ds.isEmpty := by
  cases r <;> rfl
theorem truV_of {K : PySem.W.Frag} {O : AS} {H : Hp} {v : V} {d : D} {k : Bool} (r : Rp K O H v d) (e : truthD d = some k) : TruV K v H k := by
  cases r with
  | non => cases e; rfl
  | bl b => cases e; rfl
  | int i => cases e; rfl
  | str x =>
    simp only [truthD] at e
    split at e
    · rename_i hk
      cases e
      exact ⟨Nat.le_trans hk lim_line, rfl⟩
    · cases e
  | lst a b => cases e; exact .inl ⟨_, a.sq, by rw [rp_empty b]⟩
  | tup a b => cases e; exact .inr (.inl ⟨_, a.sq, by rw [rp_empty b]⟩)
  | dct a l b => simp [truthD] at e
theorem ptTru (hK : G.K = X.K) (ha : PE X a (tM G W ma)) (he : ∀ whole, isTrue a X.env whole = (do let v ← whole; standAt a.pos; holding [v] (truthy v))) : PT X a (tMT G W (tT ma)) :=
  ptOf (pt_truth ha he) fun σ H Q q => by
    have h1 := tH_step (xs := []) (ma := ma) (m := fun ds _ f => ofO (ds.head?.bind truthD) f) (tH_nil q)
    refine h1.mono fun x H1 q => ?_
    obtain ⟨O, ρ, f, ds, A, rs, p⟩ := q
    obtain ⟨d, rfl, r⟩ := r1 rs
    dsimp only [List.nil_append, List.head?_cons, Option.bind_some] at p
    cases e : truthD d with
    | none => rw [e] at p; exact p.elim
    | some k =>
      rw [e] at p
      rw [hK] at r
      exact ⟨k, truV_of r e, p k H1 A (.refl _ _) rfl⟩
/-! ### and, or, not in tests -/
def bAnd (a b : MB) : MB := fun ρ f => (a ρ f).bind fun c f1 => if c = true then b ρ f1 else .ok false f1
def bOr (a b : MB) : MB := fun ρ f => (a ρ f).bind fun c f1 => if c = true then .ok true f1 else b ρ f1
def bNot (a : MB) : MB := fun ρ f => (a ρ f).bind fun c f1 => .ok (!c) f1
theorem tT_bind {α β : Type} {rel : AS → Hp → β → α → Prop} {g : Bool → List Sl → FS → R α} {σ : L2.St} {H : Hp} {Q : β → Hp → Prop} (h : tP G W rel (fun ρ f => (ba ρ f).bind fun c f1 => g c ρ f1) σ H Q) :
    tMT G W ba σ H fun c H1 => tP G W rel (g c) σ H1 Q := by
  obtain ⟨O, ρ, f, A, p⟩ := h
  refine ⟨O, ρ, f, A, ?_⟩
  dsimp only at p
  cases e : ba ρ f with
  | ok c f1 =>
    rw [e] at p
    intro v H1 A1 s r
    cases r
    exact ⟨O, ρ, f1, A1, p.later A s⟩
  | exc x f1 => rw [e] at p; exact p
  | bad => rw [e] at p; exact p.elim
theorem tMT_pure {c : Bool} {σ : L2.St} {H : Hp} {Q : Bool → Hp → Prop} (h : tMT G W (fun _ f => .ok c f) σ H Q) : Q c H := by
  obtain ⟨O, ρ, f, A, p⟩ := h
  exact p c H A (.refl _ _) rfl
theorem pwOne (ha : PT X a (tMT G W ba)) : PW X (.BoolOp .And [a] pos) (tMT G W ba) := pw_and1 ha
theorem pwOneOr (ha : PT X a (tMT G W ba)) : PW X (.BoolOp .Or [a] pos) (tMT G W ba) := pw_or1 ha
theorem pwAnd {rest : List Expr} (ha : PT X a (tMT G W ba)) (hb : PW X (.BoolOp .And (b :: rest) pos) (tMT G W bb)) : PW X (.BoolOp .And (a :: b :: rest) pos) (tMT G W (bAnd ba bb)) :=
  pwOf (pw_and ha hb) fun σ H Q q => (tT_bind (g := fun c ρ f1 => if c = true then bb ρ f1 else .ok false f1) q).mono fun c H1 h => by
    cases c with
    | true => rw [if_pos rfl]; simpa using h
    | false => rw [if_neg Bool.false_ne_true]; exact tMT_pure (G := G) (W := W) (σ := σ) (by simpa using h)
theorem pwOr {rest : List Expr} (ha : PT X a (tMT G W ba)) (hb : PW X (.BoolOp .Or (b :: rest) pos) (tMT G W bb)) : PW X (.BoolOp .Or (a :: b :: rest) pos) (tMT G W (bOr ba bb)) :=
  pwOf (pw_or ha hb) fun σ H Q q => (tT_bind (g := fun c ρ f1 => if c = true then .ok true f1 else bb ρ f1) q).mono fun c H1 h => by
    cases c with
    | false => rw [if_neg Bool.false_ne_true]; simpa using h
    | true => rw [if_pos rfl]; exact tMT_pure (G := G) (W := W) (σ := σ) (by simpa using h)
theorem ptNot (ha : PT X a (tMT G W ba)) : PT X (.UnaryOp .Not a pos) (tMT G W (bNot ba)) :=
  ptOf (pt_not ha) fun σ H Q q => (tT_bind (g := fun c _ f1 => .ok (!c) f1) q).mono fun c H1 h => tMT_pure h
/-! ### and, or, not as values -/
def eAnd (a b : ME) : ME := fun ρ f => (a ρ f).bind fun c f1 => match c with
  | .bool true => b ρ f1
  | .bool false => .ok (.bool false) f1
  | _ => .bad
def eOr (a b : ME) : ME := fun ρ f => (a ρ f).bind fun c f1 => match c with
  | .bool true => .ok (.bool true) f1
  | .bool false => b ρ f1
  | _ => .bad
def gNotB : List D → Option D
  | [.bool b] => some (.bool (!b))
  | _ => none
theorem tM_bind {α β : Type} {rel : AS → Hp → β → α → Prop} {g : D → List Sl → FS → R α} {σ : L2.St} {H : Hp} {Q : β → Hp → Prop} (h : tP G W rel (fun ρ f => (ma ρ f).bind fun d f1 => g d ρ f1) σ H Q) :
    tM G W ma σ H fun x H1 => ∃ O ρ f d, Agr G O σ H1 ρ f ∧ Rp G.K O H1 x d ∧ Post G W O σ H1 ρ rel (g d ρ f) Q := by
  obtain ⟨O, ρ, f, A, p⟩ := h
  refine ⟨O, ρ, f, A, ?_⟩
  dsimp only at p
  cases e : ma ρ f with
  | ok d f1 =>
    rw [e] at p
    exact fun v H1 A1 s r => ⟨O, ρ, f1, d, A1, r, p.later A s⟩
  | exc x f1 => rw [e] at p; exact p
  | bad => rw [e] at p; exact p.elim
theorem mAnd {rest : List Expr} (ha : PE X a (tM G W ma)) (hb : PE X (.BoolOp .And (b :: rest) pos) (tM G W mb)) : PE X (.BoolOp .And (a :: b :: rest) pos) (tM G W (eAnd ma mb)) :=
  peOf (pe_and ha hb) fun σ H Q q => (tM_bind (g := fun c ρ f1 => match c with | .bool true => mb ρ f1 | .bool false => .ok (.bool false) f1 | _ => .bad) q).mono fun x H1 h => by
    obtain ⟨O, ρ, f, d, A, r, p⟩ := h
    cases r <;> first
      | exact p.elim
      | skip
    rename_i c
    refine ⟨c, rfl, ?_⟩
    cases c with
    | true => rw [if_pos rfl]; exact ⟨O, ρ, f, A, p⟩
    | false => rw [if_neg Bool.false_ne_true]; exact p _ H1 A (.refl _ _) (.bl _)
theorem mOr {rest : List Expr} (ha : PE X a (tM G W ma)) (hb : PE X (.BoolOp .Or (b :: rest) pos) (tM G W mb)) : PE X (.BoolOp .Or (a :: b :: rest) pos) (tM G W (eOr ma mb)) :=
  peOf (pe_or ha hb) fun σ H Q q => (tM_bind (g := fun c ρ f1 => match c with | .bool true => .ok (.bool true) f1 | .bool false => mb ρ f1 | _ => .bad) q).mono fun x H1 h => by
    obtain ⟨O, ρ, f, d, A, r, p⟩ := h
    cases r <;> first
      | exact p.elim
      | skip
    rename_i c
    refine ⟨c, rfl, ?_⟩
    cases c with
    | false => rw [if_neg Bool.false_ne_true]; exact ⟨O, ρ, f, A, p⟩
    | true => rw [if_pos rfl]; exact p _ H1 A (.refl _ _) (.bl _)
theorem mOne {op} (h : PE X a (tM G W ma)) : PE X (.BoolOp op [a] pos) (tM G W ma) := pe_one h
theorem mNot (ha : PE X a (tM G W ma)) : PE X (.UnaryOp .Not a pos) (tM G W (eUn gNotB ma)) :=
  peOf (pe_not ha) fun σ H Q q => (un_read q).mono fun x H1 h => by
    obtain ⟨O, ds, d, ot, rs, e, q⟩ := h
    obtain ⟨da, rfl, ra⟩ := r1 rs
    cases ra <;> first
      | (simp only [gNotB] at e; cases e; done)
      | skip
    simp only [gNotB, Option.some.injEq] at e
    subst e
    exact ⟨_, rfl, q _ _ (Same.refl _) (.bl _)⟩
/-- a if t else b -/
def eIf (t : MB) (a b : ME) : ME := fun ρ f => (t ρ f).bind fun c f1 => if c = true then a ρ f1 else b ρ f1
theorem mIf (ht : PT X c (tMT G W ba)) (ha : PE X a (tM G W ma)) (hb : PE X b (tM G W mb)) : PE X (.IfExp c a b pos) (tM G W (eIf ba ma mb)) :=
  peOf (pe_ifExp ht ha hb) fun σ H Q q => (tT_bind (g := fun c ρ f1 => if c = true then ma ρ f1 else mb ρ f1) q).mono fun c H1 h => by
    cases c with
    | true => rw [if_pos rfl]; simpa using h
    | false => rw [if_neg Bool.false_ne_true]; simpa using h
/-- a op b op' c -/
def eChain (g g' : List D → Option D) (a b c : ME) : ME := fun ρ f => (a ρ f).bind fun x f1 => (b ρ f1).bind fun y f2 => match g [x, y] with
  | some (.bool true) => (c ρ f2).bind fun z f3 => ofO (g' [y, z]) f3
  | some (.bool false) => .ok (.bool false) f2
  | _ => .bad
theorem chain_read {g g' : List D → Option D} {σ : L2.St} {H : Hp} {Q : VK} (h : tM G W (eChain g g' ma mb mc) σ H Q) :
    tM G W ma σ H fun x H1 => tM G W mb σ H1 fun y H2 => rD G.K g [x, y] H2 fun z H3 => ∃ k, z = .bl k ∧ (if k = true then tM G W mc σ H3 fun w H4 => rD G.K g' [y, w] H4 Q else Q (.bl false) H3) := by
  have e1 := tH_step (xs := []) (ma := ma) (m := fun ds ρ f => (mb ρ f).bind fun y f2 => match g (ds ++ [y]) with
    | some (.bool true) => (mc ρ f2).bind fun z f3 => ofO (g' [y, z]) f3
    | some (.bool false) => .ok (.bool false) f2
    | _ => .bad) (tH_nil h)
  refine e1.mono fun x H1 h1 => ?_
  have e2 := tH_step (ma := mb) (m := fun ds ρ f2 => match g ds with
    | some (.bool true) => (mc ρ f2).bind fun z f3 => ofO (g' [ds.getD 1 .none, z]) f3
    | some (.bool false) => .ok (.bool false) f2
    | _ => .bad) (by
      obtain ⟨O, ρ, f, ds, A, rs, p⟩ := h1
      obtain ⟨d, rfl, r⟩ := r1 rs
      exact ⟨O, ρ, f, [d], A, rs, p⟩)
  refine e2.mono fun y H2 h2 => ?_
  obtain ⟨O, ρ, f, ds, A, rs, p⟩ := h2
  obtain ⟨dx, dy, rfl, rx, ry⟩ := r2 rs
  dsimp only at p
  cases eg : g [dx, dy] with
  | none => rw [eg] at p; exact p.elim
  | some r =>
    refine ⟨O, [dx, dy], r, A.ot, rs, eg, fun z H3 s3 rz => ?_⟩
    rw [eg] at p
    cases rz <;> first
      | exact p.elim
      | skip
    rename_i k
    refine ⟨k, rfl, ?_⟩
    have p3 := p
    cases k with
    | false => rw [if_neg Bool.false_ne_true]; exact p _ H3 (A.same s3) (OutP.of_same s3) (.bl _)
    | true =>
      rw [if_pos rfl]
      have q3 : tH G W (Rp G.K) [y] (fun ds ρ f => (mc ρ f).bind fun z f3 => ofO (g' (ds ++ [z])) f3) σ H3 Q :=
        ⟨O, ρ, f, [dy], A.same s3, .cons (Rp.step (.of_same s3) _ _ ry) .nil, Post.later p A (OutP.of_same s3)⟩
      exact (tH_step (m := fun ds _ f3 => ofO (g' ds) f3) q3).mono fun w H4 h4 => tH_op h4
theorem mChain {op op' : CmpOp} {g g' : List D → Option D} (ho : OpD X (compareOp op) g) (ho' : OpD X (compareOp op') g') (hK : G.K = X.K) (ha : PE X a (tM G W ma)) (hb : PE X b (tM G W mb)) (hc : PE X c (tM G W mc)) (hm : lastMarks [op, op'] [b, c] = false) :
    PE X (.Compare a [op, op'] [b, c] pos) (tM G W (eChain g g' ma mb mc)) := peOf (pe_chain ho ho' ha hb hc hm) fun _ _ _ q => by
  have h := chain_read q
  rw [hK] at h
  exact h
theorem ptChain {op op' : CmpOp} {g g' : List D → Option D} (ho : OpD X (compareOp op) g) (ho' : OpD X (compareOp op') g') (hK : G.K = X.K) (ha : PE X a (tM G W ma)) (hb : PE X b (tM G W mb)) (hc : PE X c (tM G W mc)) (hm : lastMarks [op, op'] [b, c] = false) :
    PT X (.Compare a [op, op'] [b, c] pos) (tMT G W (tB (eChain g g' ma mb mc))) := ptOf (pt_chain ho ho' ha hb hc hm) fun _ _ _ q => by
  have h := chain_read (tB_read q)
  rw [hK] at h
  exact h
/-! ### argument lists, displays -/
def aNil : MA := fun _ f => .ok [] f
def aCons (m : ME) (ms : MA) : MA := fun ρ f => (m ρ f).bind fun d f1 => (ms ρ f1).bind fun ds f2 => .ok (d :: ds) f2
theorem paNil : PA X [] (tMA G W aNil) := paOf pa_nil fun σ H Q q => by
  obtain ⟨O, ρ, f, A, p⟩ := q
  exact p [] H A (.refl _ _) .nil
theorem tH_pureA {xs : List V} {h : List D → List D} {σ : L2.St} {H : Hp} {Q : List V → Hp → Prop} (k : tH G W (RpAll G.K) xs (fun ds _ f => .ok (h ds) f) σ H Q) (hh : ∀ O ds, RpAll G.K O H xs ds → RpAll G.K O H xs (h ds)) : Q xs H := by
  obtain ⟨O, ρ, f, ds, A, rs, p⟩ := k
  exact p xs H A (.refl _ _) (hh O ds rs)
theorem paCons (ha : PE X a (tM G W ma)) (hr : PA X es (tMA G W ms)) (hs : starEach (a :: es) X.env = (false, eval a X.env) :: starEach es X.env) : PA X (a :: es) (tMA G W (aCons ma ms)) :=
  paOf (pa_cons ha hr hs) fun σ H Q q => by
    have h1 := tH_step (xs := []) (ma := ma) (m := fun xs ρ f1 => (ms ρ f1).bind fun ds f2 => .ok (xs ++ ds) f2) (tH_nil q)
    refine h1.mono fun x H1 h2 => ?_
    refine (tH_stepA (m := fun ds _ f => .ok ds f) h2).mono fun xs H2 h3 => ?_
    exact tH_pureA (xs := x :: xs) (h := fun ds => ds) h3 fun _ _ r => r
def eTup (ms : MA) : ME := fun ρ f => (ms ρ f).bind fun ds f1 => if ds.length ≤ lim then .ok (.tuple ds) f1 else .bad
def eLst (ms : MA) : ME := fun ρ f => (ms ρ f).bind fun ds f1 => if ds.length ≤ lim then .ok (.list ds) f1 else .bad
theorem mTup {j} (h : PA X es (tMA G W ms)) : PE X (.Tuple es j pos) (tM G W (eTup ms)) := peOf (pe_tup h) fun σ H Q q => by
  refine (tH_stepA (xs := []) (ma := ms) (m := fun ds _ f1 => if ds.length ≤ lim then R.ok (PyData.tuple ds) f1 else .bad) (tH_nil q)).mono fun xs H1 h => ?_
  obtain ⟨O, ρ, f, ds, A, rs, p⟩ := h
  dsimp only at p
  by_cases hk : ds.length ≤ lim
  · rw [if_pos hk] at p
    exact ⟨by rw [show xs.length = ds.length from rs.length]; exact Nat.le_trans hk lim_line, fun p' hp => p _ _ (A.same (same_upd hp)) (OutP.of_same (same_upd hp)) (Rp.newTup rs hp A.ot)⟩
  · rw [if_neg hk] at p; exact p.elim
theorem mLst (h : PA X es (tMA G W ms)) : PE X (.List es pos) (tM G W (eLst ms)) := peOf (pe_lst h) fun σ H Q q => by
  refine (tH_stepA (xs := []) (ma := ms) (m := fun ds _ f1 => if ds.length ≤ lim then R.ok (PyData.list ds) f1 else .bad) (tH_nil q)).mono fun xs H1 h => ?_
  obtain ⟨O, ρ, f, ds, A, rs, p⟩ := h
  dsimp only at p
  by_cases hk : ds.length ≤ lim
  · rw [if_pos hk] at p
    exact ⟨by rw [show xs.length = ds.length from rs.length]; exact Nat.le_trans hk lim_line, fun p' hp => p _ _ (A.same (same_upd hp)) (OutP.of_same (same_upd hp)) (Rp.newLst rs hp A.ot)⟩
  · rw [if_neg hk] at p; exact p.elim
/-! ### built-ins -/
theorem mCallB {x : Str} {p : Pos} {id : String} {g : List D → Option D} (hc : CallD X (.builtin id) g) (hK : G.K = X.K) (hg : Gl X x) (hm : X.mg x = none) (hv : bootBuiltins x = some (.builtin id)) (ha : PA X (e :: es) (tMA G W ms)) (hn : x ≠ "__name__") (hdb : (x == ("__debug__" : Str)) = false)
    (he : starEach (e :: es) X.env = (false, eval e X.env) :: starEach es X.env) (hpl : (backTo pos (starEach es X.env)).any (·.1) = false) : PE X (.Call (.Name x p) (e :: es) [] pos) (tM G W (eList g ms)) :=
  peOf (pe_callB hc hg hm hv ha hn hdb he hpl) fun _ _ _ q => by
    have h := list_read q
    rw [hK] at h
    exact h
theorem mCallTy {x : Str} {p : Pos} {T : String} {g : List D → Option D} (hc : CallD X (.type T) g) (hK : G.K = X.K) (hg : Gl X x) (hm : X.mg x = none) (hv : bootBuiltins x = some (.type T)) (ha : PA X (e :: es) (tMA G W ms)) (hn : x ≠ "__name__") (hdb : (x == ("__debug__" : Str)) = false)
    (he : starEach (e :: es) X.env = (false, eval e X.env) :: starEach es X.env) (hpl : (backTo pos (starEach es X.env)).any (·.1) = false) : PE X (.Call (.Name x p) (e :: es) [] pos) (tM G W (eList g ms)) :=
  peOf (pe_callTy hc hg hm hv ha hn hdb he hpl) fun _ _ _ q => by
    have h := list_read q
    rw [hK] at h
    exact h
end
end Mir

set_option Elab.async false
set_option linter.all false
set_option maxRecDepth 100000
set_option maxHeartbeats 4000000
namespace Mir
open PySem PySem.Spec PyProof.Rows L2
/-! ### own defs called -/
def ArgsOk (K : PySem.W.Frag) (O : AS) (H : Hp) (ff : Bool) (fa : Option Addr) (vs : List V) (ds : List D) : Prop :=
  if ff = true then ∃ a vs', fa = some a ∧ vs = .ref a :: vs' ∧ RpAll K O H vs' ds else fa = none ∧ RpAll K O H vs ds
def XAtK (K : PySem.W.Frag) (xc : XC) (O : AS) (H : Hp) (cls : Value) (d : Option Addr) (x : XV) : Prop :=
  cls = xc.cls x.cls ∧ ∃ dd vs, d = some dd ∧ H dd = some (.xd ((xc.nm x.cls).zip vs)) ∧ vs.length = (xc.nm x.cls).length ∧ RpAll K O H vs x.fs ∧ ¬ O dd
/-- a def's promise by its mirror -/
def spM (K : PySem.W.Frag) (xc : XC) (ff : Bool) (mf : List D → FS → R D) : Sp := fun vs H Q E => ∃ (O : AS) (fa : Option Addr) (fc : Addr) (f : FS) (ds : List D), LamX.Tabs xc.tb H ∧ OT O H ∧ FeedOk K O H fa fc f ∧ ArgsOk K O H ff fa vs ds ∧
  match mf ds f with
  | .ok d f' => ∀ v H', OutP fa H H' → LamX.Tabs xc.tb H' → FeedOk K O H' fa fc f' → Rp K O H' v d → Q v H'
  | .exc x f' => ∀ cls d H', OutP fa H H' → LamX.Tabs xc.tb H' → FeedOk K O H' fa fc f' → XAtK K xc O H' cls d x → E cls d H'
  | .bad => False
theorem OT.out {K : PySem.W.Frag} {fa : Option Addr} {c : Addr} {O : AS} {H H' : Hp} {f : FS} (ot : OT O H) (o : OutP fa H H') (fo : FeedOk K O H' fa c f) : OT O H' := fun a ha => by
  obtain ⟨x, e, t⟩ := ot a ha
  by_cases z : some a = fa
  · subst z
    obtain ⟨_, e', _⟩ := fo
    exact ⟨_, e', notTbl_dK⟩
  · exact ⟨x, o a x z t e, t⟩
/-- behind a callee -/
theorem Agr.out {G : Gx} {O : AS} {σ : L2.St} {H H' : Hp} {ρ : List Sl} {f f' : FS} {fa : Option Addr} (A : Agr G O σ H ρ f) (o : OutP fa H H') (hfa : ∀ a, fa = some a → G.fa = some a) (tb : LamX.Tabs G.xc.tb H') (fo : FeedOk G.K O H' G.fa G.fc f') (hO0 : ∀ a, G.fa = some a → G.O0 a) : Agr G O σ H' ρ f' := by
  have st : StepO O H H' := o.step fun a e => FeedOk.own A.feed (hfa a e)
  refine ⟨fun b x n t e => o b x (fun z => n ?_) t (A.grow b x n t e), A.o0, A.onew, ?_, fo, A.len, fun i s e => ?_, A.inj, tb⟩
  · cases hq : fa with
    | none => rw [hq] at z; cases z
    | some a => rw [hq] at z; cases z; exact (hfa b hq).symm
  · have o' : OutP G.fa H H' := fun b x n t e => o b x (fun z => n (by
      cases hq : fa with
      | none => rw [hq] at z; cases z
      | some a => rw [hq] at z; cases z; exact (hfa b hq).symm)) t e
    exact A.ot.out o' fo
  · have q := A.slots i s e
    cases s with
    | no => trivial
    | d x => obtain ⟨v, e1, r⟩ := q; exact ⟨v, e1, Rp.step st _ _ r⟩
    | l xs =>
      obtain ⟨a, vs, e1, oa, na, ea, r⟩ := q
      refine ⟨a, vs, e1, oa, na, o a _ (fun z => na (hO0 a (hfa a z.symm))) notTbl_lst ea, RpAll.step st _ _ r⟩
    | m ks xs =>
      obtain ⟨a, vs, e1, oa, na, ea, r, hz⟩ := q
      refine ⟨a, vs, e1, oa, na, o a _ (fun z => na (hO0 a (hfa a z.symm))) notTbl_dK ea, RpAll.step st _ _ r, hz⟩
    | fd => exact q
    | x => exact q
/-- the mirror of a call: a def without the feed leaves it as it is -/
def eCall (ff : Bool) (mf : List D → FS → R D) (ms : MA) : ME := fun ρ f => (ms ρ f).bind fun ds f1 => match mf ds f1 with
  | .ok d f2 => .ok d (if ff = true then f2 else f1)
  | .exc x f2 => .exc x (if ff = true then f2 else f1)
  | .bad => .bad
/-- arguments, the feed ahead of them -/
def relA (G : Gx) (ff : Bool) : AS → Hp → List V → List D → Prop := fun O H vs ds => if ff = true then ∃ a vs', G.fa = some a ∧ vs = .ref a :: vs' ∧ RpAll G.K O H vs' ds else RpAll G.K O H vs ds
abbrev tMF (G : Gx) (W : WX) (ff : Bool) (m : MA) : TA := fun σ H Q => tP G W (relA G ff) m σ H Q
/-- what the ground of a run is -/
structure GOk (G : Gx) : Prop where
  fo : ∀ a, G.fa = some a → G.O0 a
section
variable {X : Cx} {e a : Expr} {es : List Expr} {pos : Pos} {G : Gx} {W : WX} {ma : ME} {ms : MA} {ff : Bool} {mf : List D → FS → R D}
theorem paF (h : PA X es (tMA G W ms)) : PA X es (tMF G W false ms) := paOf h fun σ H Q q => by
  obtain ⟨O, ρ, f, A, p⟩ := q
  refine ⟨O, ρ, f, A, ?_⟩
  cases e : ms ρ f with
  | ok d f1 => rw [e] at p; exact fun v H' A' s r => p v H' A' s (by unfold relA; rw [if_neg Bool.false_ne_true]; exact r)
  | exc x f1 => rw [e] at p; exact p
  | bad => rw [e] at p; exact p
/-- the feed's name, then the arguments -/
def aFd (i : Nat) (ms : MA) : MA := fun ρ f => match ρ[i]? with
  | some .fd => ms ρ f
  | _ => .bad
theorem paFd (i : Nat) {x : Str} {p : Pos} (hv : PE X (.Name x p) (tVar i)) (hr : PA X es (tMA G W ms)) (hs : starEach (.Name x p :: es) X.env = (false, eval (.Name x p) X.env) :: starEach es X.env) : PA X (.Name x p :: es) (tMF G W true (aFd i ms)) :=
  paOf (pa_cons hv hr hs) fun σ H Q q => by
    obtain ⟨O, ρ, f, A, pp⟩ := q
    cases e : ρ[i]? with
    | none => rw [show aFd i ms ρ f = .bad by simp only [aFd, e]] at pp; exact pp.elim
    | some s =>
      cases s with
      | fd =>
        rw [show aFd i ms ρ f = ms ρ f by simp only [aFd, e]] at pp
        obtain ⟨a, ea, fa⟩ := A.slots i _ e
        refine ⟨.ref a, ea, O, ρ, f, A, ?_⟩
        cases e2 : ms ρ f with
        | ok d f1 => rw [e2] at pp; exact fun v H' A' s r => pp _ H' A' s (by unfold relA; rw [if_pos rfl]; exact ⟨a, v, fa, rfl, r⟩)
        | exc x f1 => rw [e2] at pp; exact pp
        | bad => rw [e2] at pp; exact pp
      | no => rw [show aFd i ms ρ f = .bad by simp only [aFd, e]] at pp; exact pp.elim
      | d x => rw [show aFd i ms ρ f = .bad by simp only [aFd, e]] at pp; exact pp.elim
      | l xs => rw [show aFd i ms ρ f = .bad by simp only [aFd, e]] at pp; exact pp.elim
      | m ks xs => rw [show aFd i ms ρ f = .bad by simp only [aFd, e]] at pp; exact pp.elim
      | x => rw [show aFd i ms ρ f = .bad by simp only [aFd, e]] at pp; exact pp.elim
theorem call_read {σ : L2.St} {H : Hp} {Q : VK} (gok : GOk G) (h : tM G W (eCall ff mf ms) σ H Q) : tMF G W ff ms σ H fun vs H1 => spM G.K G.xc ff mf vs H1 Q (WE W σ) := by
  obtain ⟨O, ρ, f, A, p⟩ := h
  refine ⟨O, ρ, f, A, ?_⟩
  unfold eCall at p
  cases e : ms ρ f with
  | bad => rw [e] at p; exact p.elim
  | exc x f1 => rw [e] at p; exact p
  | ok ds f1 =>
    rw [e] at p
    dsimp only [R.bind_ok] at p
    intro vs H1 A1 s1 r
    unfold relA at r
    cases ff with
    | true =>
      rw [if_pos rfl] at r
      obtain ⟨a, vs', fa, rfl, r⟩ := r
      refine ⟨O, some a, G.fc, f1, ds, A1.tabs, A1.ot, by rw [← fa]; exact A1.feed, by unfold ArgsOk; rw [if_pos rfl]; exact ⟨a, vs', rfl, rfl, r⟩, ?_⟩
      cases e2 : mf ds f1 with
      | bad => rw [e2] at p; exact p.elim
      | ok d f2 =>
        rw [e2] at p
        dsimp only at p
        rw [if_pos rfl] at p
        exact fun v H' out tb fo rv => p v H' (A1.out out (fun b z => by cases z; exact fa) tb (by rw [fa]; exact fo) gok.fo) (s1.trans (by rw [fa]; exact out)) rv
      | exc x f2 =>
        rw [e2] at p
        dsimp only at p
        rw [if_pos rfl] at p
        exact fun cls d H' out tb fo xa => p cls d H' (A1.out out (fun b z => by cases z; exact fa) tb (by rw [fa]; exact fo) gok.fo) (s1.trans (by rw [fa]; exact out)) xa
    | false =>
      rw [if_neg Bool.false_ne_true] at r
      refine ⟨O, none, 0, f1, ds, A1.tabs, A1.ot, trivial, by unfold ArgsOk; rw [if_neg Bool.false_ne_true]; exact ⟨rfl, r⟩, ?_⟩
      have feed' : ∀ H', OutP none H1 H' → FeedOk G.K O H' G.fa G.fc f1 := fun H' out => by
        have q := A1.feed
        cases hfa : G.fa with
        | none => trivial
        | some a =>
          rw [hfa] at q
          obtain ⟨oa, ec, lc⟩ := q
          refine ⟨oa, out a _ (by simp) notTbl_dK ec, lc.step (out.step fun b z => nomatch z)⟩
      cases e2 : mf ds f1 with
      | bad => rw [e2] at p; exact p.elim
      | ok d f2 =>
        rw [e2] at p
        dsimp only at p
        rw [if_neg Bool.false_ne_true] at p
        exact fun v H' out tb _ rv => p v H' (A1.out out (fun b z => nomatch z) tb (feed' H' out) gok.fo) (s1.trans fun b o n t e => out b o (by simp) t e) rv
      | exc x f2 =>
        rw [e2] at p
        dsimp only at p
        rw [if_neg Bool.false_ne_true] at p
        exact fun cls d H' out tb _ xa => p cls d H' (A1.out out (fun b z => nomatch z) tb (feed' H' out) gok.fo) (s1.trans fun b o n t e => out b o (by simp) t e) xa
/-- a def that stands behind the top: its statement, parameters, level, mirror -/
structure DefAt (P : Program) (w : World) (K : PySem.W.Frag) (mg : Str → Option Value) (base : Heap) (xc : XC) (x : Str) (st : Stmt) (ps : List Str) (k : Nat) (ff : Bool) (mf : List D → FS → R D) : Prop where
  ex : ∃ f fd, mg x = some (.ref f) ∧ FunD K x x (defArgs st) (defBody st) (defScope st) [] [] f fd ∧ FnG P w K mg base (L2.CX P w) k f fd ps (spM K xc ff mf) ∧
    (∀ us : List Value, us.length = ps.length → ∀ s : Shared, BindsTo s fd ⟨us, []⟩ (ps.zip us)) 
/-- f(e, ..), every parameter written by place -/
theorem mCall {x : Str} {st : Stmt} {p : Pos} {ps : List Str} {k : Nat} (D : DefAt X.prog X.w X.K X.mg X.base G.xc x st ps k ff mf) (gok : GOk G) (hK : G.K = X.K) (hr : Room k X.A) (hgd : X.A.guards = some []) (hg : Gl X x) (tk : Takes X W)
    (ha : PA X (e :: es) (tMF G W ff ms)) (hdb : (x == ("__debug__" : Str)) = false) (he : starEach (e :: es) X.env = (false, eval e X.env) :: starEach es X.env) (hpl : (backTo pos (starEach es X.env)).any (·.1) = false) :
    PE X (.Call (.Name x p) (e :: es) [] pos) (tM G W (eCall ff mf ms)) := by
  obtain ⟨f, fd, hm, FD, F, hb⟩ := D.ex
  have hk := FD.kp
  refine ⟨fun pins s σ H Q I h => ?_⟩
  refine wpAny_Call_Name_kw (ld_glob I hg hm ?_ hdb)
  refine PySem.W.callWith_K (h₀ := X.base) I.ok.mod.kin hk (thn (ha.run pos pins s σ H _ I (call_read gok h)) fun us s1 ⟨vs, H1, I1, r, q⟩ => ⟨I1.kIn, ?_⟩) he hpl
  rw [hK] at q
  have hl : us.length = ps.length := by rw [← r.length]; exact F.len _ _ _ _ q
  refine wpAny_call (codeAny_mono (F.run X.A X.stack s1 H1 ⟨us, []⟩ us vs Q (WE W σ) hr hgd I1.env0 (hb us hl s1) r q) fun r s' hq => ?_)
  cases r with
  | error e => exact passAt tk σ pins H1 s1 e s' I1 hq
  | ok fl =>
    cases fl with
    | ret u => exact I1.after hq
    | next => exact False.elim hq
    | brk => exact False.elim hq
    | cont => exact False.elim hq
/-- f() -/
theorem mCall0 {x : Str} {st : Stmt} {p : Pos} {ps : List Str} {k : Nat} (D : DefAt X.prog X.w X.K X.mg X.base G.xc x st ps k false mf) (gok : GOk G) (hK : G.K = X.K) (hr : Room k X.A) (hgd : X.A.guards = some []) (hg : Gl X x) (tk : Takes X W)
    (hdb : (x == ("__debug__" : Str)) = false) : PE X (.Call (.Name x p) [] [] pos) (tM G W (eCall false mf aNil)) := by
  obtain ⟨f, fd, hm, FD, F, hb⟩ := D.ex
  have hk := FD.kp
  refine ⟨fun pins s σ H Q I h => ?_⟩
  refine wpAny_Call_Name_kw (ld_glob I hg hm ?_ hdb)
  have q := call_read gok h
  obtain ⟨O, ρ, f1, A, pp⟩ := q
  have q := pp [] H A (.refl _ _) (by unfold relA; rw [if_neg Bool.false_ne_true]; exact .nil)
  rw [hK] at q
  have hl : ([] : List Value).length = ps.length := F.len [] _ _ _ q
  refine PySem.W.callWith_K0 I.kIn hk ?_
  refine wpAny_call (codeAny_mono (F.run X.A X.stack s H ⟨[], []⟩ [] [] Q (WE W σ) hr hgd I.env0 (hb [] hl s) .nil q) fun r s' hq => ?_)
  cases r with
  | error e => exact passAt tk σ pins H s e s' I hq
  | ok fl =>
    cases fl with
    | ret u => exact I.after hq
    | next => exact False.elim hq
    | brk => exact False.elim hq
    | cont => exact False.elim hq
end
end Mir

set_option Elab.async false
set_option linter.all false
set_option maxRecDepth 100000
set_option maxHeartbeats 4000000
namespace Mir
open PySem PySem.Spec PyProof.Rows L2
/-! ### what is walked -/
structure WalkD (K : PySem.W.Frag) (J : It) (ds : List D) (O : AS) (H : Hp) : Prop where
  go : ∀ (i : Nat) (O' : AS) (H' : Hp), i < ds.length → StepP O H O' H' → J.go i H'
  stop : ∀ (O' : AS) (H' : Hp), StepP O H O' H' → J.stop ds.length H'
  yld : ∀ (i : Nat) (O' : AS) (H' : Hp) (x : V) (H'' : Hp), i < ds.length → StepP O H O' H' → OT O' H' → J.yld i H' x H'' → Same H' H'' ∧ ∃ d, ds[i]? = some d ∧ Rp K O' H'' x d
abbrev tMI (G : Gx) (W : WX) (m : MA) : TI := fun σ H R => tP G W (fun O H' (J : It) ds => WalkD G.K J ds O H') m σ H R
theorem walkD_list {K : PySem.W.Frag} {O : AS} {H : Hp} {a : Addr} {vs : List V} {ds : List D} (l : LstO K O H a vs) (r : RpAll K O H vs ds) : WalkD K (Itl K a) ds O H where
  go := fun i O' H' hi s => by
    have hi' : i < vs.length := by rw [r.length]; exact hi
    exact ⟨vs, vs[i], (l.step s).sq, by simp [hi']⟩
  stop := fun O' H' s => ⟨vs, (l.step s).sq, by rw [r.length]; exact Nat.le_refl _⟩
  yld := fun i O' H' x H'' hi s ot y => by
    obtain ⟨rfl, h⟩ := y
    obtain ⟨d, e, rd⟩ := (RpAll.step s _ _ r).getV (h vs (l.step s).sq)
    exact ⟨Same.refl _, d, e, rd⟩
theorem walkD_tup {K : PySem.W.Frag} {O : AS} {H : Hp} {a : Addr} {vs : List V} {ds : List D} (l : TupO K O H a vs) (r : RpAll K O H vs ds) : WalkD K (Itt K a) ds O H where
  go := fun i O' H' hi s => by
    have hi' : i < vs.length := by rw [r.length]; exact hi
    exact ⟨vs, vs[i], (l.step s).sq, by simp [hi']⟩
  stop := fun O' H' s => ⟨vs, (l.step s).sq, by rw [r.length]; exact Nat.le_refl _⟩
  yld := fun i O' H' x H'' hi s ot y => by
    obtain ⟨rfl, h⟩ := y
    obtain ⟨d, e, rd⟩ := (RpAll.step s _ _ r).getV (h vs (l.step s).sq)
    exact ⟨Same.refl _, d, e, rd⟩
def signsD (z : Str) : List D := z.cps.toList.map fun c => .str ⟨#[c]⟩
theorem walkD_str {K : PySem.W.Frag} {O : AS} {H : Hp} {z : Str} : WalkD K (Its z) (signsD z) O H where
  go := fun i O' H' hi s => by
    have : i < z.cps.size := by simpa [signsD] using hi
    exact this
  stop := fun O' H' s => by
    show z.cps.size ≤ (signsD z).length
    simp [signsD]
  yld := fun i O' H' x H'' hi s ot y => by
    obtain ⟨rfl, c, e, rfl⟩ := y
    refine ⟨Same.refl _, .str ⟨#[c]⟩, ?_, .str _⟩
    unfold signsD
    rw [List.getElem?_map, Array.getElem?_toList, e]
    rfl
def rangeD (lo : Int) (n : Nat) : List D := (List.range n).map fun i => .int (lo + (i : Nat))
theorem walkD_range {K : PySem.W.Frag} {O : AS} {H : Hp} {lo : Int} {n : Nat} : WalkD K (Itr lo n) (rangeD lo n) O H where
  go := fun i O' H' hi s => by
    have : i < n := by simpa [rangeD] using hi
    exact this
  stop := fun O' H' s => by
    show n ≤ (rangeD lo n).length
    simp [rangeD]
  yld := fun i O' H' x H'' hi s ot y => by
    obtain ⟨rfl, rfl⟩ := y
    have hi' : i < n := by simpa [rangeD] using hi
    refine ⟨Same.refl _, .int (lo + i), ?_, .int _⟩
    unfold rangeD
    rw [List.getElem?_map, List.getElem?_range hi']
    rfl
def enumD (ds : List D) : List D := (List.range ds.length).map fun i => .tuple [.int (i : Nat), ds.getD i .none]
theorem walkD_enum {K : PySem.W.Frag} {O : AS} {H : Hp} {a : Addr} {vs : List V} {ds : List D} (l : LstO K O H a vs) (r : RpAll K O H vs ds) : WalkD K (Ite K a) (enumD ds) O H where
  go := fun i O' H' hi s => by
    have hi' : i < vs.length := by rw [r.length]; simpa [enumD] using hi
    exact ⟨vs, vs[i], (l.step s).sq, by simp [hi']⟩
  stop := fun O' H' s => ⟨vs, (l.step s).sq, by rw [r.length]; simp [enumD]⟩
  yld := fun i O' H' x H'' hi s ot y => by
    obtain ⟨T, y, rfl, hT, rfl, h⟩ := y
    obtain ⟨d, e, rd⟩ := (RpAll.step s _ _ r).getV (h vs (l.step s).sq)
    have hi' : i < ds.length := by simpa [enumD] using hi
    refine ⟨same_upd hT, .tuple [.int (i : Nat), d], ?_, Rp.newTup (.cons (.int _) (.cons rd .nil)) hT ot⟩
    unfold enumD
    rw [List.getElem?_map, List.getElem?_range hi']
    simp [e]
def zipD (ds es : List D) : List D := (ds.zip es).map fun p => .tuple [p.1, p.2]
theorem zipD_get {ds es : List D} {i : Nat} {d e : D} (h1 : ds[i]? = some d) (h2 : es[i]? = some e) : (zipD ds es)[i]? = some (.tuple [d, e]) := by
  unfold zipD
  have : (ds.zip es)[i]? = some (d, e) := List.getElem?_zip_eq_some.mpr ⟨h1, h2⟩
  rw [List.getElem?_map, this]
  rfl
theorem walkD_zip {K : PySem.W.Frag} {O : AS} {H : Hp} {a b : Addr} {vs ws : List V} {ds es : List D} (l : LstO K O H a vs) (r : RpAll K O H vs ds) (l2 : LstO K O H b ws) (r2 : RpAll K O H ws es) : WalkD K (Itz K a b) (zipD ds es) O H where
  go := fun i O' H' hi s => by
    have hi' : i < ds.length ∧ i < es.length := by simpa [zipD, Nat.lt_min] using hi
    have h1 : i < vs.length := by rw [r.length]; exact hi'.1
    have h2 : i < ws.length := by rw [r2.length]; exact hi'.2
    exact ⟨vs, ws, vs[i], ws[i], (l.step s).sq, (l2.step s).sq, by simp [h1], by simp [h2]⟩
  stop := fun O' H' s => ⟨vs, ws, (l.step s).sq, (l2.step s).sq, by rw [r.length, r2.length]; simp only [zipD, List.length_map, List.length_zip]; omega⟩
  yld := fun i O' H' x H'' hi s ot y => by
    obtain ⟨T, p, q, rfl, hT, rfl, h1, h2⟩ := y
    obtain ⟨d, e, rd⟩ := (RpAll.step s _ _ r).getV (h1 vs (l.step s).sq)
    obtain ⟨d2, e2, rd2⟩ := (RpAll.step s _ _ r2).getV (h2 ws (l2.step s).sq)
    exact ⟨same_upd hT, .tuple [d, d2], zipD_get e e2, Rp.newTup (.cons rd (.cons rd2 .nil)) hT ot⟩
theorem walkD_zipT {K : PySem.W.Frag} {O : AS} {H : Hp} {a b : Addr} {vs ws : List V} {ds es : List D} (l : TupO K O H a vs) (r : RpAll K O H vs ds) (l2 : TupO K O H b ws) (r2 : RpAll K O H ws es) : WalkD K (RZ.ItzT K a b) (zipD ds es) O H where
  go := fun i O' H' hi s => by
    have hi' : i < ds.length ∧ i < es.length := by simpa [zipD, Nat.lt_min] using hi
    have h1 : i < vs.length := by rw [r.length]; exact hi'.1
    have h2 : i < ws.length := by rw [r2.length]; exact hi'.2
    exact ⟨vs, ws, vs[i], ws[i], (l.step s).sq, (l2.step s).sq, by simp [h1], by simp [h2]⟩
  stop := fun O' H' s => ⟨vs, ws, (l.step s).sq, (l2.step s).sq, by rw [r.length, r2.length]; simp only [zipD, List.length_map, List.length_zip]; omega⟩
  yld := fun i O' H' x H'' hi s ot y => by
    obtain ⟨T, p, q, rfl, hT, rfl, h1, h2⟩ := y
    obtain ⟨d, e, rd⟩ := (RpAll.step s _ _ r).getV (h1 vs (l.step s).sq)
    obtain ⟨d2, e2, rd2⟩ := (RpAll.step s _ _ r2).getV (h2 ws (l2.step s).sq)
    exact ⟨same_upd hT, .tuple [d, d2], zipD_get e e2, Rp.newTup (.cons rd (.cons rd2 .nil)) hT ot⟩
/-! ### over any sequence -/
section
variable {X : Cx} {tg e a b : Expr} {es : List Expr} {G : Gx} {W : WX} {ma mb : ME} {ms : MA}
theorem piOf {wi wi' : TI} (h : PI X tg e wi) (k : ∀ σ H R, wi' σ H R → wi σ H R) : PI X tg e wi' := ⟨fun pins s σ H R I q => h.run pins s σ H R I (k _ _ _ q)⟩
def itemsD : D → Option (List D)
  | .list xs => some xs
  | .tuple xs => some xs
  | .str z => some (signsD z)
  | _ => none
def iSeq (m : ME) : MA := fun ρ f => (m ρ f).bind fun d f1 => ofO (itemsD d) f1
theorem pi_any {l : Expr} {tl : TE} (hl : PE X l tl) : PI X tg l (fun σ H R => tl σ H fun x H1 => (∃ a, x = .ref a ∧ (∃ xs, SqL X.K H1 a xs) ∧ R (Itl X.K a) H1) ∨ (∃ a, x = .ref a ∧ (∃ xs, SqT X.K H1 a xs) ∧ R (Itt X.K a) H1) ∨ ∃ z, x = .str z ∧ R (Its z) H1) := by
  refine ⟨fun pins s σ H R I h => ?_⟩
  refine thn (hl.run pins s σ H _ I h) fun v s1 ⟨x, H1, I1, r1, q1⟩ => ?_
  rcases q1 with ⟨a, e, ⟨xs, hq⟩, q⟩ | ⟨a, e, ⟨xs, hq⟩, q⟩ | ⟨x, ex, q⟩
  · subst e
    cases r1
    obtain ⟨its, rv, p, hz⟩ := I1.list hq
    refine wpAny_pyIter_list p.isList ?_
    refine ⟨s1.heap.objs.size, [s1.heap.objs.size], _, _, H1, rfl, I1.kept (t' := s1.toks) fun b o e => Heap.get?_push_of_some _ e, turn_list a _, ⟨_, Heap.get?_push_size _ rfl, rfl, rfl⟩, fun b hb => ?_, q⟩
    have e : b = s1.heap.objs.size := by simpa using hb
    subst e
    exact I1.fpOk (Nat.le_refl _) (I1.hok.fresh (Nat.le_refl _))
  · subst e
    cases r1
    obtain ⟨its, rv, p, hz⟩ := I1.tuple hq
    refine wpAny_pyIter_tuple (show s1.heap.IsTuple a its.toArray from p) ?_
    refine ⟨s1.heap.objs.size, [s1.heap.objs.size], _, _, H1, rfl, I1.kept (t' := s1.toks) fun b o e => Heap.get?_push_of_some _ e, turn_tuple a _, ⟨_, Heap.get?_push_size _ rfl, rfl, rfl⟩, fun b hb => ?_, q⟩
    have e : b = s1.heap.objs.size := by simpa using hb
    subst e
    exact I1.fpOk (Nat.le_refl _) (I1.hok.fresh (Nat.le_refl _))
  · subst ex
    obtain ⟨t, rfl⟩ := r1
    cases ha : x.cps.all (· < 128)
    · exact wpAny_pyIter_wide ha (pi_one (tk := s1.toks) I1 _ (turn_str _ x t "str_iterator" (.inr rfl)) ⟨_, Heap.get?_push_size _ rfl, rfl, rfl⟩ q)
    · exact wpAny_pyIter_ascii ha (pi_one (tk := s1.toks) I1 _ (turn_str _ x t "str_ascii_iterator" (.inl rfl)) ⟨_, Heap.get?_push_size _ rfl, rfl, rfl⟩ q)
theorem mSeq (hK : G.K = X.K) (hl : PE X e (tM G W ma)) : PI X tg e (tMI G W (iSeq ma)) := piOf (pi_any hl) fun σ H R q => by
  refine (tM_bind (g := fun d _ f1 => ofO (itemsD d) f1) q).mono fun x H1 h => ?_
  obtain ⟨O, ρ, f, d, A, r, p⟩ := h
  cases r with
  | lst l rs => exact .inl ⟨_, rfl, ⟨_, by rw [← hK]; exact l.sq⟩, by rw [← hK]; exact p _ H1 A (.refl _ _) (walkD_list l rs)⟩
  | tup l rs => exact .inr (.inl ⟨_, rfl, ⟨_, by rw [← hK]; exact l.sq⟩, by rw [← hK]; exact p _ H1 A (.refl _ _) (walkD_tup l rs)⟩)
  | str z => exact .inr (.inr ⟨_, rfl, p _ H1 A (.refl _ _) walkD_str⟩)
  | non => exact p.elim
  | bl b => exact p.elim
  | int i => exact p.elim
  | dct _ _ _ => exact p.elim
def rngOk (j : Int) : Bool := decide (-(2 ^ 62) ≤ j) && decide (j < 2 ^ 62)
def rng1 : List D → Option (List D)
  | [.int j] => if rngOk j then some (rangeD 0 j.toNat) else none
  | _ => none
def rng2 : List D → Option (List D)
  | [.int i, .int j] => if rngOk i && rngOk j then some (rangeD i (j - i).toNat) else none
  | _ => none
def iArgs (g : List D → Option (List D)) (ms : MA) : MA := fun ρ f => (ms ρ f).bind fun ds f1 => ofO (g ds) f1
theorem tMA_bind {α β : Type} {rel : AS → Hp → β → α → Prop} {g : List D → List Sl → FS → R α} {σ : L2.St} {H : Hp} {Q : β → Hp → Prop} (h : tP G W rel (fun ρ f => (ms ρ f).bind fun d f1 => g d ρ f1) σ H Q) :
    tMA G W ms σ H fun x H1 => ∃ O ρ f d, Agr G O σ H1 ρ f ∧ RpAll G.K O H1 x d ∧ Post G W O σ H1 ρ rel (g d ρ f) Q := by
  obtain ⟨O, ρ, f, A, p⟩ := h
  refine ⟨O, ρ, f, A, ?_⟩
  dsimp only at p
  cases e : ms ρ f with
  | ok d f1 =>
    rw [e] at p
    exact fun v H1 A1 s r => ⟨O, ρ, f1, d, A1, r, p.later A s⟩
  | exc x f1 => rw [e] at p; exact p
  | bad => rw [e] at p; exact p.elim
theorem mRange1 {p pos : Pos} (hg : Gl X "range") (hm : X.mg "range" = none) (ha : PA X [a] (tMA G W ms)) (hs : starEach [a] X.env = [(false, eval a X.env)]) : PI X tg (.Call (.Name "range" p) [a] [] pos) (tMI G W (iArgs rng1 ms)) :=
  piOf (pi_range1 hg hm ha hs) fun σ H R q => (tMA_bind (g := fun ds _ f1 => ofO (rng1 ds) f1) q).mono fun vs H1 h => by
    obtain ⟨O, ρ, f, ds, A, r, p⟩ := h
    unfold rng1 at p
    split at p
    · rename_i j
      split at p
      · rename_i hk
        cases r with
        | cons a b =>
          cases a; cases b
          have hk' := ctoP hk
          exact ⟨j, rfl, hk'.1, hk'.2, p _ H1 A (.refl _ _) walkD_range⟩
      · exact p.elim
    · exact p.elim
theorem mRange2 {p pos : Pos} (hg : Gl X "range") (hm : X.mg "range" = none) (ha : PA X [a, b] (tMA G W ms)) (hs : starEach [a, b] X.env = [(false, eval a X.env), (false, eval b X.env)]) (hs2 : starEach [b] X.env = [(false, eval b X.env)]) : PI X tg (.Call (.Name "range" p) [a, b] [] pos) (tMI G W (iArgs rng2 ms)) :=
  piOf (pi_range2 hg hm ha hs hs2) fun σ H R q => (tMA_bind (g := fun ds _ f1 => ofO (rng2 ds) f1) q).mono fun vs H1 h => by
    obtain ⟨O, ρ, f, ds, A, r, p⟩ := h
    unfold rng2 at p
    split at p
    · rename_i i j
      split at p
      · rename_i hk
        cases r with
        | cons a b =>
          cases a
          cases b with
          | cons a b =>
            cases a; cases b
            simp only [rngOk, Bool.and_eq_true, decide_eq_true_eq] at hk
            exact ⟨i, j, rfl, ⟨hk.1.1, hk.1.2, hk.2.1, hk.2.2⟩, p _ H1 A (.refl _ _) walkD_range⟩
      · exact p.elim
    · exact p.elim
def enumL : List D → Option (List D)
  | [.list xs] => some (enumD xs)
  | _ => none
theorem mEnum {p pos tpos : Pos} {elts : List Expr} {kk : Nat} (hK : G.K = X.K) (hg : Gl X "enumerate") (hm : X.mg "enumerate" = none) (ha : PA X [a] (tMA G W ms)) (hs : starEach [a] X.env = [(false, eval a X.env)]) :
    PI X (.Tuple elts kk tpos) (.Call (.Name "enumerate" p) [a] [] pos) (tMI G W (iArgs enumL ms)) :=
  piOf (pi_enum hg hm ha hs) fun σ H R q => (tMA_bind (g := fun ds _ f1 => ofO (enumL ds) f1) q).mono fun vs H1 h => by
    obtain ⟨O, ρ, f, ds, A, r, p⟩ := h
    unfold enumL at p
    split at p
    · cases r with
      | cons a b =>
        cases b
        cases a with
        | lst l rs => exact ⟨_, _, rfl, by rw [← hK]; exact l.sq, by rw [← hK]; exact p _ H1 A (.refl _ _) (walkD_enum l rs)⟩
    · exact p.elim
def zip2 : List D → Option (List D)
  | [.list xs, .list ys] => some (zipD xs ys)
  | [.tuple xs, .tuple ys] => some (zipD xs ys)
  | _ => none
theorem mZip {p pos tpos : Pos} {elts : List Expr} {kk : Nat} (hK : G.K = X.K) (hg : Gl X "zip") (hm : X.mg "zip" = none) (ha : PA X [a, b] (tMA G W ms)) (hs : starEach [a, b] X.env = (false, eval a X.env) :: starEach [b] X.env)
    (hpl : (backTo pos (starEach [b] X.env)).any (·.1) = false) :
    PI X (.Tuple elts kk tpos) (.Call (.Name "zip" p) [a, b] [] pos) (tMI G W (iArgs zip2 ms)) :=
  piOf (RZ.pi_zipA hg hm ha hs hpl) fun σ H R q => (tMA_bind (g := fun ds _ f1 => ofO (zip2 ds) f1) q).mono fun vs H1 h => by
    obtain ⟨O, ρ, f, ds, A, r, p⟩ := h
    unfold zip2 at p
    split at p
    · cases r with
      | cons a b =>
        cases b with
        | cons a2 b2 =>
          cases b2
          cases a with
          | lst l rs =>
            cases a2 with
            | lst l2 rs2 => exact ⟨_, _, _, _, rfl, .inl ⟨by rw [← hK]; exact l.sq, by rw [← hK]; exact l2.sq, by rw [← hK]; exact p _ H1 A (.refl _ _) (walkD_zip l rs l2 rs2)⟩⟩
    · cases r with
      | cons a b =>
        cases b with
        | cons a2 b2 =>
          cases b2
          cases a with
          | tup l rs =>
            cases a2 with
            | tup l2 rs2 => exact ⟨_, _, _, _, rfl, .inr ⟨by rw [← hK]; exact l.sq, by rw [← hK]; exact l2.sq, by rw [← hK]; exact p _ H1 A (.refl _ _) (walkD_zipT l rs l2 rs2)⟩⟩
    · exact p.elim
end
end Mir

set_option Elab.async false
set_option linter.all false
set_option maxRecDepth 100000
set_option maxHeartbeats 4000000
namespace Mir
open PySem PySem.Spec PyProof.Rows L2
/-! ### slots set, forgotten -/
theorem Agr.setD {G : Gx} {O : AS} {σ : L2.St} {H : Hp} {ρ : List Sl} {f : FS} (A : Agr G O σ H ρ f) (i : Nat) {v : V} {d : D} (r : Rp G.K O H v d) : Agr G O (σ.set i (some v)) H (ρ.set i (.d d)) f := by
  have hl := A.len
  refine ⟨A.grow, A.o0, A.onew, A.ot, A.feed, by simp [hl], fun j s e => ?_, fun j k xs ys a e1 e2 w1 w2 s1 s2 => ?_, A.tabs⟩
  · by_cases hj : i = j
    · subst hj
      have hi : i < ρ.length := by
        have := (List.getElem?_eq_some_iff.mp e).1
        simpa using this
      rw [List.getElem?_set_self hi] at e
      cases e
      exact ⟨v, by rw [List.getElem?_set_self (by omega)], r⟩
    · rw [List.getElem?_set_ne hj] at e
      have q := A.slots j s e
      rw [List.getElem?_set_ne hj]
      exact q
  · have ne : ∀ m (zs : Sl), (ρ.set i (.d d))[m]? = some zs → zs.own → i ≠ m := fun m zs e w hm => by
      subst hm
      have hi : i < ρ.length := by
        have := (List.getElem?_eq_some_iff.mp e).1
        simpa using this
      rw [List.getElem?_set_self hi] at e
      cases e
      exact w
    have n1 := ne _ _ e1 w1
    have n2 := ne _ _ e2 w2
    rw [List.getElem?_set_ne n1] at e1 s1
    rw [List.getElem?_set_ne n2] at e2 s2
    exact A.inj j k xs ys a e1 e2 w1 w2 s1 s2
theorem Agr.setNo {G : Gx} {O : AS} {σ : L2.St} {H : Hp} {ρ : List Sl} {f : FS} (A : Agr G O σ H ρ f) (i : Nat) {v : Option V} : Agr G O (σ.set i v) H (ρ.set i .no) f := by
  have hl := A.len
  refine ⟨A.grow, A.o0, A.onew, A.ot, A.feed, by simp [hl], fun j s e => ?_, fun j k xs ys a e1 e2 w1 w2 s1 s2 => ?_, A.tabs⟩
  · by_cases hj : i = j
    · subst hj
      have hi : i < ρ.length := by
        have := (List.getElem?_eq_some_iff.mp e).1
        simpa using this
      rw [List.getElem?_set_self hi] at e
      cases e
      trivial
    · rw [List.getElem?_set_ne hj] at e
      have q := A.slots j s e
      rw [List.getElem?_set_ne hj]
      exact q
  · have ne : ∀ m (zs : Sl), (ρ.set i .no)[m]? = some zs → zs.own → i ≠ m := fun m zs e w hm => by
      subst hm
      have hi : i < ρ.length := by
        have := (List.getElem?_eq_some_iff.mp e).1
        simpa using this
      rw [List.getElem?_set_self hi] at e
      cases e
      exact w
    have n1 := ne _ _ e1 w1
    have n2 := ne _ _ e2 w2
    rw [List.getElem?_set_ne n1] at e1 s1
    rw [List.getElem?_set_ne n2] at e2 s2
    exact A.inj j k xs ys a e1 e2 w1 w2 s1 s2
def wipeR (ρ : List Sl) : List Nat → List Sl
  | [] => ρ
  | v :: vs => (wipeR ρ vs).set v .no
theorem Agr.wipe {G : Gx} {O : AS} {σ : L2.St} {H : Hp} {ρ : List Sl} {f : FS} (A : Agr G O σ H ρ f) : ∀ vs : List Nat, Agr G O (L2.wipe σ vs) H (wipeR ρ vs) f
  | [] => A
  | v :: vs => (Agr.wipe A vs).setNo v
theorem wipe_get {σ : L2.St} {i : Nat} : ∀ {vs : List Nat}, i ∉ vs → (L2.wipe σ vs)[i]? = σ[i]?
  | [], _ => rfl
  | v :: vs, h => by
    simp only [List.mem_cons, not_or] at h
    unfold L2.wipe
    rw [List.getElem?_set_ne (Ne.symm h.1)]
    exact wipe_get h.2
theorem wipeR_get {ρ : List Sl} {i : Nat} : ∀ {vs : List Nat}, i ∉ vs → (wipeR ρ vs)[i]? = ρ[i]?
  | [], _ => rfl
  | v :: vs, h => by
    simp only [List.mem_cons, not_or] at h
    unfold wipeR
    rw [List.getElem?_set_ne (Ne.symm h.1)]
    exact wipeR_get h.2
theorem wipe_in {σ : L2.St} {i : Nat} : ∀ {vs : List Nat}, i ∈ vs → i < σ.length → (L2.wipe σ vs)[i]? = some none
  | [], h, _ => by cases h
  | v :: vs, h, hl => by
    unfold L2.wipe
    by_cases e : v = i
    · subst e
      rw [List.getElem?_set_self (by rw [wipe_length]; exact hl)]
    · rw [List.getElem?_set_ne e]
      rcases List.mem_cons.mp h with z | z
      · exact absurd z.symm e
      · exact wipe_in z hl
theorem wipe_eq {σ σ' : L2.St} {vs : List Nat} (hl : σ.length = σ'.length) (h : ∀ i, i ∉ vs → σ[i]? = σ'[i]?) : L2.wipe σ vs = L2.wipe σ' vs := by
  apply List.ext_getElem?
  intro i
  by_cases hi : i ∈ vs
  · by_cases hl1 : i < σ.length
    · rw [wipe_in hi hl1, wipe_in hi (by omega)]
    · rw [List.getElem?_eq_none (by rw [wipe_length]; omega), List.getElem?_eq_none (by rw [wipe_length]; omega)]
  · rw [wipe_get hi, wipe_get hi, h i hi]
theorem wipe_set {σ : L2.St} {vs : List Nat} {i : Nat} {x : Option V} (h : i ∈ vs) : L2.wipe (σ.set i x) vs = L2.wipe σ vs :=
  wipe_eq (by simp) fun j hj => List.getElem?_set_ne fun e => hj (by rw [← e]; exact h)
theorem wipe_wipe {σ : L2.St} {vs : List Nat} : L2.wipe (L2.wipe σ vs) vs = L2.wipe σ vs := wipe_eq (wipe_length _ _) fun _ hj => wipe_get hj
/-! ### targets -/
abbrev MG := D → List Sl → Option (List Sl)
def TGOk (G : Gx) (vs : List Nat) (g : TG) (mg : MG) : Prop := ∀ (O : AS) (σ : L2.St) (H : Hp) (ρ : List Sl) (f : FS) (x : V) (d : D) (ρ' : List Sl) (Q : L2.St → Hp → Prop), Agr G O σ H ρ f → Rp G.K O H x d → mg d ρ = some ρ' →
  (∀ σ', Agr G O σ' H ρ' f → L2.wipe σ' vs = L2.wipe σ vs → Q σ' H) → g x σ H Q
abbrev MGs := List D → List Sl → Option (List Sl)
def TGsOk (G : Gx) (vs : List Nat) (g : TGs) (mg : MGs) : Prop := ∀ (O : AS) (σ : L2.St) (H : Hp) (ρ : List Sl) (f : FS) (xs : List V) (ds : List D) (ρ' : List Sl) (Q : L2.St → Hp → Prop), Agr G O σ H ρ f → RpAll G.K O H xs ds → mg ds ρ = some ρ' →
  (∀ σ', Agr G O σ' H ρ' f → L2.wipe σ' vs = L2.wipe σ vs → Q σ' H) → g xs σ H Q
def gmName (i : Nat) : MG := fun d ρ => some (ρ.set i (.d d))
def gmNil : MGs := fun ds ρ => match ds with
  | [] => some ρ
  | _ => none
def gmCons (a : MG) (b : MGs) : MGs := fun ds ρ => match ds with
  | d :: r => (a d ρ).bind (b r)
  | [] => none
def gmTup (n : Nat) (a : MGs) : MG := fun d ρ => match d with
  | .tuple ds => if ds.length = n then a ds ρ else none
  | _ => none
theorem tgName {G : Gx} {vs : List Nat} {i : Nat} (h : i ∈ vs) : TGOk G vs (gName i) (gmName i) := fun O σ H ρ f x d ρ' Q A r e q => by
  cases e
  exact q _ (A.setD i r) (wipe_set h)
theorem tgsNil {G : Gx} {vs : List Nat} : TGsOk G vs gNil gmNil := fun O σ H ρ f xs ds ρ' Q A r e q => by
  cases r with
  | nil => cases e; exact ⟨rfl, q σ A rfl⟩
  | cons a b => cases e
theorem tgsCons {G : Gx} {vs : List Nat} {g : TG} {gs : TGs} {m : MG} {ms : MGs} (h : TGOk G vs g m) (hs : TGsOk G vs gs ms) : TGsOk G vs (gCons g gs) (gmCons m ms) := fun O σ H ρ f xs ds ρ' Q A r e q => by
  cases r with
  | nil => cases e
  | @cons v vr d dr a b =>
    refine ⟨v, vr, rfl, ?_⟩
    simp only [gmCons] at e
    cases e1 : m d ρ with
    | none => rw [e1] at e; cases e
    | some ρ1 =>
      rw [e1] at e
      exact h O σ H ρ f v d ρ1 _ A a e1 fun σ1 A1 w1 => hs O σ1 H ρ1 f vr dr ρ' _ A1 b e fun σ2 A2 w2 => q σ2 A2 (w2.trans w1)
theorem tgTup {G : Gx} {K : PySem.W.Frag} {vs : List Nat} {gs : TGs} {ms : MGs} {n : Nat} (hK : G.K = K) (hs : TGsOk G vs gs ms) : TGOk G vs (gTup K n gs) (gmTup n ms) := fun O σ H ρ f x d ρ' Q A r e q => by
  unfold gmTup at e
  split at e
  · rename_i ds
    split at e
    · rename_i hn
      cases r with
      | tup l rs => exact ⟨_, _, rfl, by rw [← hK]; exact l.sq, by rw [rs.length]; exact hn, hs O σ H ρ f _ _ ρ' Q A rs e q⟩
    · cases e
  · cases e
/-! ### list comprehensions -/
def noX {α : Type} : R α → R α
  | .ok a f => .ok a f
  | _ => .bad
def compLoop (mg : MG) (mt : MB) (me : ME) : List D → List Sl → FS → List D → R (List D)
  | [], _, f, acc => .ok acc f
  | d :: ds, ρ, f, acc => match mg d ρ with
    | none => .bad
    | some ρ' => (noX (mt ρ' f)).bind fun c f1 => if c = true then (noX (me ρ' f1)).bind fun y f2 => compLoop mg mt me ds ρ f2 (acc ++ [y]) else compLoop mg mt me ds ρ f1 acc
def okW (ρ : List Sl) (vs : List Nat) : Bool := vs.all fun v => match ρ[v]? with
  | some (.l _) => false
  | some (.m _ _) => false
  | _ => true
def eComp (vs : List Nat) (mi : MA) (mg : MG) (mt : MB) (me : ME) : ME := fun ρ f => (mi ρ f).bind fun ds f1 => if decide (ds.length ≤ lim) && okW ρ vs then (noX (compLoop mg mt me ds (wipeR ρ vs) f1 [])).bind fun ys f2 => .ok (.list ys) f2 else .bad
abbrev W0 : WX := fun _ _ _ _ => False
def bYes : MB := fun _ f => .ok true f
theorem noX_post {α β : Type} {G : Gx} {W : WX} {O : AS} {σ : L2.St} {H : Hp} {ρ : List Sl} {rel : AS → Hp → β → α → Prop} {r : R α} {Q : β → Hp → Prop} (h : Post G W0 O σ H ρ rel (noX r) Q) : Post G W O σ H ρ rel r Q := by
  cases r with
  | ok a f => exact h
  | exc x f => exact h.elim
  | bad => exact h.elim
theorem comp_read {G : Gx} (gok : GOk G) {W : WX} {σ : L2.St} {H : Hp} {Q : VK} {vs : List Nat} {mi : MA} {g : TG} {mg : MG} {mt : MB} {me : ME} {tt : TT} (hg : TGOk G vs g mg) (ht : ∀ σ H Q, tMT G W0 mt σ H Q → tt σ H Q)
    (h : tM G W (eComp vs mi mg mt me) σ H Q) : tLc (tMI G W mi) g tt (tM G W0 me) vs σ H Q := by
  obtain ⟨O, ρ, f, A, p⟩ := h
  refine ⟨O, ρ, f, A, ?_⟩
  unfold eComp at p
  cases e : mi ρ f with
  | bad => rw [e] at p; exact p.elim
  | exc x f1 => rw [e] at p; exact p
  | ok ds f1 =>
    rw [e] at p
    dsimp only [R.bind_ok] at p
    have hc : (decide (ds.length ≤ lim) && okW ρ vs) = true := by
      cases q : (decide (ds.length ≤ lim) && okW ρ vs) with
      | true => rfl
      | false => rw [q, if_neg Bool.false_ne_true] at p; exact p.elim
    rw [if_pos hc] at p
    simp only [Bool.and_eq_true, decide_eq_true_eq] at hc
    obtain ⟨hlen, hw⟩ := hc
    intro J H1 A1 o1 wk D nD
    -- the ground of the loop: the new list is owned
    have sD : Same H1 (upd H1 D (.lst [])) := same_upd nD
    have nO : ¬ O D := A1.ot.fresh nD
    have up : StepP O H1 (fun a => O a ∨ a = D) (upd H1 D (.lst [])) := fun b o n t e => ⟨sD _ _ e, fun z => z.elim n fun q => by rw [q, nD] at e; cases e⟩
    have nH0 : ∀ o, notTbl o → G.H0 D ≠ some o := fun o t q => by
      by_cases hfa : some D = G.fa
      · exact nO (FeedOk.own A1.feed hfa.symm)
      · have := A1.grow D o hfa t q
        rw [nD] at this; cases this
    have AD : Agr G (fun a => O a ∨ a = D) (L2.wipe σ vs) (upd H1 D (.lst [])) (wipeR ρ vs) f1 := by
      have B := (A1.same sD).wipe vs
      have C := A1.wipe vs
      refine ⟨B.grow, fun a ha => .inl (B.o0 a ha), fun a ha => ?_, fun a ha => ?_, ?_, B.len, fun i s es => ?_, B.inj, B.tabs⟩
      · rcases ha with ha | rfl
        · exact B.onew a ha
        · exact .inr nH0
      · rcases ha with ha | rfl
        · exact B.ot a ha
        · exact ⟨_, upd_same, notTbl_lst⟩
      · have q := A1.feed
        revert q
        cases hfa : G.fa with
        | none => intro _; trivial
        | some a =>
          intro q
          obtain ⟨oa, ec, lc⟩ := q
          exact ⟨.inl oa, sD _ _ ec, lc.step up⟩
      · have q := C.slots i s es
        cases s with
        | no => trivial
        | d x => obtain ⟨v, e1, r⟩ := q; exact ⟨v, e1, Rp.step up _ _ r⟩
        | l xs => obtain ⟨a, ws, e1, oa, na, ea, r⟩ := q; exact ⟨a, ws, e1, .inl oa, na, sD _ _ ea, RpAll.step up _ _ r⟩
        | m ks xs => obtain ⟨a, ws, e1, oa, na, ea, r, hz⟩ := q; exact ⟨a, ws, e1, .inl oa, na, sD _ _ ea, RpAll.step up _ _ r, hz⟩
        | fd => exact q
        | x => exact q
    have hnl : ∀ (j : Nat) (xs : Sl), (wipeR ρ vs)[j]? = some xs → xs.own → (L2.wipe σ vs)[j]? ≠ some (some (V.ref D)) := fun j xs e1 w e2 => by
      by_cases hj : j ∈ vs
      · by_cases hl : j < σ.length
        · rw [wipe_in hj hl] at e2; cases e2
        · rw [List.getElem?_eq_none (by rw [wipe_length]; omega)] at e2; cases e2
      · rw [wipeR_get hj] at e1
        rw [wipe_get hj] at e2
        have qq := A1.slots j _ e1
        cases xs with
        | l xs =>
          obtain ⟨a, us, e3, _, _, ea, _⟩ := qq
          rw [e2] at e3
          cases e3
          rw [nD] at ea; cases ea
        | m ks xs =>
          obtain ⟨a, us, e3, _, _, ea, _⟩ := qq
          rw [e2] at e3
          cases e3
          rw [nD] at ea; cases ea
        | no => exact w
        | d x => exact w
        | fd => exact w
        | x => exact w
    -- what holds at turn i
    let Pv : Nat → Hp → Prop := fun i H' => ∃ acc ws f', Agr G (fun a => O a ∨ a = D) (L2.wipe σ vs) H' (wipeR ρ vs) f' ∧ (∀ b o, b ≠ D → some b ≠ G.fa → notTbl o → H1 b = some o → H' b = some o) ∧ H' D = some (.lst ws) ∧
      RpAll G.K (fun a => O a ∨ a = D) H' ws acc ∧ ws.length ≤ i ∧ Post G W O σ H ρ (Rp G.K) ((noX (compLoop mg mt me (ds.drop i) (wipeR ρ vs) f' acc)).bind fun ys f2 => .ok (.list ys) f2) Q
    have stepP : ∀ {H'}, (∀ b o, b ≠ D → some b ≠ G.fa → notTbl o → H1 b = some o → H' b = some o) → StepP O H1 (fun a => O a ∨ a = D) H' := fun k b o n t e => by
      have hb : b ≠ D := fun z => by rw [z, nD] at e; cases e
      exact ⟨k b o hb (fun z => n (FeedOk.own A1.feed z.symm)) t e, fun z => z.elim n hb⟩
    refine ⟨fun i m H' => m = ds.length - i ∧ i ≤ ds.length ∧ Pv i H', ⟨ds.length, by simp, Nat.zero_le _, [], [], f1, AD, fun b o hb _ _ e => by rw [upd_ne hb]; exact e, upd_same, .nil, Nat.le_refl _, by rw [List.drop_zero]; exact p⟩, ?_⟩
    rintro i m H' ⟨rfl, hi, acc, ws, f', A', k', eD, rw', hwl, pp⟩
    by_cases hlt : i < ds.length
    · refine .inr ⟨wk.go i _ H' hlt (stepP k'), Pv (i + 1), fun H'' p' => ⟨ds.length - (i + 1), by omega, rfl, hlt, p'⟩, fun x H'' y => ?_⟩
      obtain ⟨sy, d, ed, rd⟩ := wk.yld i _ H' x H'' hlt (stepP k') A'.ot y
      have edrop : ds.drop i = d :: ds.drop (i + 1) := by
        have := List.drop_eq_getElem_cons hlt
        rw [this]
        congr 1
        exact Option.some.inj ((List.getElem?_eq_getElem hlt).symm.trans ed)
      rw [edrop] at pp
      unfold compLoop at pp
      cases em : mg d (wipeR ρ vs) with
      | none => rw [em] at pp; exact pp.elim
      | some ρ' =>
        rw [em] at pp
        dsimp only at pp
        refine hg _ _ _ _ f' x d ρ' _ (A'.same sy) rd em fun σ2 A2 w2 => ⟨w2.trans wipe_wipe, ht _ _ _ ⟨_, ρ', f', A2, ?_⟩⟩
        have w2' := w2.trans wipe_wipe
        cases et : mt ρ' f' with
        | bad => rw [et] at pp; exact pp.elim
        | exc z f2 => rw [et] at pp; exact pp.elim
        | ok c f2 =>
          rw [et] at pp
          dsimp only [noX, R.bind_ok] at pp
          intro b H3 A3 o3 eb
          subst eb
          have back : ∀ {H4 : Hp} {f4 : FS} {σ4 : L2.St}, Agr G (fun a => O a ∨ a = D) σ4 H4 ρ' f4 → L2.wipe σ4 vs = L2.wipe σ vs → OutP G.fa H'' H4 → Agr G (fun a => O a ∨ a = D) (L2.wipe σ vs) H4 (wipeR ρ vs) f4 := fun {H4 f4 σ4} A4 w4 o4 => by
            have st : StepO (fun a => O a ∨ a = D) H' H4 := fun b o n t e => ⟨o4 b o (fun z => n (.inl (FeedOk.own A1.feed z.symm))) t (sy _ _ e), n⟩
            refine ⟨A4.grow, A4.o0, A4.onew, A4.ot, A4.feed, A'.len, fun j s es => ?_, A'.inj, A4.tabs⟩
            have q := A'.slots j s es
            cases s with
            | no => trivial
            | d x => obtain ⟨v, e1, r⟩ := q; exact ⟨v, e1, Rp.step st _ _ r⟩
            | l xs =>
              obtain ⟨a, ws, e1, oa, na, ea, r⟩ := q
              exact ⟨a, ws, e1, oa, na, o4 a _ (fun z => na (gok.fo a z.symm)) notTbl_lst (sy _ _ ea), RpAll.step st _ _ r⟩
            | m ks xs =>
              obtain ⟨a, ws, e1, oa, na, ea, r, hz⟩ := q
              exact ⟨a, ws, e1, oa, na, o4 a _ (fun z => na (gok.fo a z.symm)) notTbl_dK (sy _ _ ea), RpAll.step st _ _ r, hz⟩
            | fd => exact q
            | x => exact q
          have nDf : some D ≠ G.fa := fun z => nO (FeedOk.own A1.feed z.symm)
          have o3' : OutP G.fa H'' H3 := o3
          cases b with
          | false =>
            rw [if_neg Bool.false_ne_true] at pp ⊢
            have st : StepO (fun a => O a ∨ a = D) H' H3 := fun b o n t e => ⟨o3' b o (fun z => n (.inl (FeedOk.own A1.feed z.symm))) t (sy _ _ e), n⟩
            exact ⟨acc, ws, f2, back A3 w2' o3', fun b o h1 h2 t e => o3' b o h2 t (sy _ _ (k' b o h1 h2 t e)), o3' D _ nDf notTbl_lst (sy _ _ eD), RpAll.step st _ _ rw', Nat.le_succ_of_le hwl, pp⟩
          | true =>
            rw [if_pos rfl] at pp ⊢
            refine ⟨_, ρ', f2, A3, ?_⟩
            cases ee : me ρ' f2 with
            | bad => rw [ee] at pp; exact pp.elim
            | exc z f3 => rw [ee] at pp; exact pp.elim
            | ok yd f3 =>
              rw [ee] at pp
              dsimp only [noX, R.bind_ok] at pp
              intro y H4 A4 o4 ry
              have o34 := o3'.trans o4
              have eD4 : H4 D = some (.lst ws) := o34 D _ nDf notTbl_lst (sy _ _ eD)
              refine ⟨ws, eD4, by have : lim < sizeLine := by decide
                                  omega, ?_⟩
              have B := back A4 w2' o34
              have st : StepO (fun a => O a ∨ a = D) H' H4 := fun b o n t e => ⟨o34 b o (fun z => n (.inl (FeedOk.own A1.feed z.symm))) t (sy _ _ e), n⟩
              have su : StepO (fun a => O a ∨ a = D) H4 (upd H4 D (.lst (ws ++ [y]))) := fun b o n t e => ⟨by rw [upd_ne (fun z => n (.inr z))]; exact e, n⟩
              refine ⟨acc ++ [yd], ws ++ [y], f3, ⟨fun b o h1 t e => ?_, B.o0, B.onew, fun a ha => ?_, ?_, B.len, fun j s es => ?_, B.inj, tabs_upd B.tabs eD4 notTbl_lst (fun _ z => by cases z)⟩, fun b o h1 h2 t e => ?_, upd_same, (RpAll.step su _ _ (RpAll.step st _ _ rw')).append (.cons (Rp.step su _ _ ry) .nil), by simp; omega, pp⟩
              · by_cases hb : b = D
                · rw [hb] at e; exact absurd e (nH0 o t)
                · rw [upd_ne hb]; exact B.grow b o h1 t e
              · by_cases hb : a = D
                · rw [hb]; exact ⟨_, upd_same, notTbl_lst⟩
                · rw [upd_ne hb]; exact B.ot a ha
              · have q := B.feed
                revert q
                cases hfa : G.fa with
                | none => intro _; trivial
                | some a =>
                  intro q
                  obtain ⟨oa, ec, lc⟩ := q
                  exact ⟨oa, by rw [upd_ne (fun z => nDf (by rw [← z, hfa]))]; exact ec, lc.step su⟩
              · have q := B.slots j s es
                cases s with
                | no => trivial
                | d x => obtain ⟨v, e1, r⟩ := q; exact ⟨v, e1, Rp.step su _ _ r⟩
                | l xs =>
                  obtain ⟨a, us, e1, oa, na, ea, r⟩ := q
                  have hb : a ≠ D := fun z => hnl j _ es True.intro (by rw [e1, z])
                  exact ⟨a, us, e1, oa, na, by rw [upd_ne hb]; exact ea, RpAll.step su _ _ r⟩
                | m ks xs =>
                  obtain ⟨a, us, e1, oa, na, ea, r, hz⟩ := q
                  have hb : a ≠ D := fun z => hnl j _ es True.intro (by rw [e1, z])
                  exact ⟨a, us, e1, oa, na, by rw [upd_ne hb]; exact ea, RpAll.step su _ _ r, hz⟩
                | fd => exact q
                | x => exact q
              · rw [upd_ne h1]
                exact o34 b o h2 t (sy _ _ (k' b o h1 h2 t e))
    · have ei : i = ds.length := by omega
      subst ei
      refine .inl ⟨wk.stop _ H' (stepP k'), ?_⟩
      rw [List.drop_length] at pp
      unfold compLoop at pp
      dsimp only [noX, R.bind_ok] at pp
      have less : ∀ a, O a → O a ∨ a = D := fun a h => .inl h
      have st1 : StepO O H1 H' := fun b o n t e => ⟨k' b o (fun z => by rw [z, nD] at e; cases e) (fun z => n (FeedOk.own A1.feed z.symm)) t e, n⟩
      refine pp (.ref D) H' ⟨A'.grow, A1.o0, A1.onew, fun a ha => A'.ot a (.inl ha), ?_, A1.len, fun j s es => ?_, A1.inj, A'.tabs⟩ (fun b o n t e => ?_) (.lst ⟨nO, eD⟩ (RpAll.less less _ _ rw'))
      · have q := A'.feed
        revert q
        cases hfa : G.fa with
        | none => intro _; trivial
        | some a =>
          intro q
          obtain ⟨oa, ec, lc⟩ := q
          have fe := A1.feed
          rw [hfa] at fe
          exact ⟨fe.1, ec, fun z => lc.1 (.inl z), lc.2⟩
      · by_cases hj : j ∈ vs
        · have q := A1.slots j s es
          cases s with
          | no => trivial
          | d x => obtain ⟨v, e1, r⟩ := q; exact ⟨v, e1, Rp.step st1 _ _ r⟩
          | l xs =>
            exfalso
            have := List.all_eq_true.mp hw j hj
            rw [es] at this
            cases this
          | m ks xs =>
            exfalso
            have := List.all_eq_true.mp hw j hj
            rw [es] at this
            cases this
          | fd => exact q
          | x => exact q
        · have q := A'.slots j s (by rw [wipeR_get hj]; exact es)
          rw [wipe_get hj] at q
          cases s with
          | no => trivial
          | d x => obtain ⟨v, e1, r⟩ := q; exact ⟨v, e1, Rp.less less _ _ r⟩
          | l xs =>
            obtain ⟨a, us, e1, oa, na, ea, r⟩ := q
            have hb : a ≠ D := fun z => hnl j (.l xs) (by rw [wipeR_get hj]; exact es) True.intro (by rw [wipe_get hj, e1, z])
            exact ⟨a, us, e1, oa.elim id (fun z => absurd z hb), na, ea, RpAll.less less _ _ r⟩
          | m ks xs =>
            obtain ⟨a, us, e1, oa, na, ea, r, hz⟩ := q
            have hb : a ≠ D := fun z => hnl j (.m ks xs) (by rw [wipeR_get hj]; exact es) True.intro (by rw [wipe_get hj, e1, z])
            exact ⟨a, us, e1, oa.elim id (fun z => absurd z hb), na, ea, RpAll.less less _ _ r, hz⟩
          | fd => exact q
          | x => exact q
      · have e1 := o1 b o n t e
        exact k' b o (fun z => by rw [z, nD] at e1; cases e1) n t e1
end Mir

set_option Elab.async false
set_option linter.all false
set_option maxRecDepth 100000
set_option maxHeartbeats 4000000
namespace Mir
open PySem PySem.Spec PyProof.Rows L2
section
variable {X : Cx} {G : Gx} {W : WX}
theorem mComp {elt tg iter : Expr} {ifs : List Expr} {scope : Scope} {own : List (Str × Nat)} {pos : Pos} {g : TG} {mg : MG} {tt : TT} {mi : MA} {mt : MB} {me : ME} (gok : GOk G) (hc : X.calm = true) (hN : X.N.Nodup) (hi : PI X tg iter (tMI G W mi)) (ok : BlkOk X.N X.env.scope scope own)
    (hgo : TGOk G (own.map (·.2)) g mg) (htt : ∀ σ H Q, tMT G W0 mt σ H Q → tt σ H Q)
    (hg : ∀ (s : Shared) (H : Hp) (C : Addr) (cl : List (Str × Addr)) (fp : List Addr), PG (X.blk s H scope (compEnvC scope cl C X.env) fp) tg g) (ht : ∀ (s : Shared) (H : Hp) (C : Addr) (cl : List (Str × Addr)) (fp : List Addr), PTs (X.blk s H scope (compEnvC scope cl C X.env) fp) ifs tt)
    (he : ∀ (s : Shared) (H : Hp) (C : Addr) (cl : List (Str × Addr)) (fp : List Addr), PE (X.blk s H scope (compEnvC scope cl C X.env) fp) elt (tM G W0 me)) (hs : ∀ x, foldedSetIterable iter X.env x = pure x) :
    PE X (.ListComp elt [⟨tg, iter, ifs, 0⟩] scope pos) (tM G W (eComp (own.map (·.2)) mi mg mt me)) :=
  peOf (pe_lc hc hN hi ok hg ht he hs) fun σ H Q q => comp_read gok hgo htt q
theorem yes_read {σ : L2.St} {H : Hp} {Q : Bool → Hp → Prop} (h : tMT G W0 bYes σ H Q) : tYes σ H Q := tMT_pure h
end
/-! ### statements -/
def PostS (G : Gx) (W : WX) (O : AS) (H : Hp) (r : SR) (D : Ends) : Prop :=
  match r with
  | .nx ρ f => ∀ O' σ' H', Agr G O' σ' H' ρ f → StepP O H O' H' → D.nx σ' H'
  | .ret d f => ∀ O' σ' ρ v H', Agr G O' σ' H' ρ f → StepP O H O' H' → Rp G.K O' H' v d → D.rt v H'
  | .brk ρ f => ∀ O' σ' H', Agr G O' σ' H' ρ f → StepP O H O' H' → D.bk σ' H'
  | .ct ρ f => ∀ O' σ' H', Agr G O' σ' H' ρ f → StepP O H O' H' → D.ct σ' H'
  | .exc x f => ∀ O' σ' ρ cls d H', Agr G O' σ' H' ρ f → StepP O H O' H' → XAt G O' H' cls d x → W cls d σ' H'
  | .bad => False
def tMS (G : Gx) (W : WX) (m : MS) : TS := fun D σ H => ∃ O ρ f, Agr G O σ H ρ f ∧ PostS G W O H (m ρ f) D
theorem PostS.later {G : Gx} {W : WX} {O O1 : AS} {H H1 : Hp} {r : SR} {D : Ends} (p : PostS G W O H r D) (s : StepP O H O1 H1) : PostS G W O1 H1 r D := by
  cases r with
  | nx ρ f => exact fun O' σ' H' A q => p O' σ' H' A (s.trans q)
  | ret d f => exact fun O' σ' ρ v H' A q r => p O' σ' ρ v H' A (s.trans q) r
  | brk ρ f => exact fun O' σ' H' A q => p O' σ' H' A (s.trans q)
  | ct ρ f => exact fun O' σ' H' A q => p O' σ' H' A (s.trans q)
  | exc x f => exact fun O' σ' ρ cls d H' A q r => p O' σ' ρ cls d H' A (s.trans q) r
  | bad => exact p
/-- an expression, then k -/
def sBind {α : Type} (r : R α) (k : α → FS → SR) : SR := match r with
  | .ok a f => k a f
  | .exc x f => .exc x f
  | .bad => .bad
theorem sBind_read {α β : Type} {G : Gx} {W : WX} {rel : AS → Hp → β → α → Prop} {m : List Sl → FS → R α} {k : α → List Sl → FS → SR} {σ : L2.St} {H : Hp} {D : Ends} (h : tMS G W (fun ρ f => sBind (m ρ f) fun d f1 => k d ρ f1) D σ H) :
    tP G W rel m σ H fun x H1 => ∃ O ρ f d, Agr G O σ H1 ρ f ∧ rel O H1 x d ∧ PostS G W O H1 (k d ρ f) D := by
  obtain ⟨O, ρ, f, A, p⟩ := h
  refine ⟨O, ρ, f, A, ?_⟩
  dsimp only at p
  cases e : m ρ f with
  | ok d f1 =>
    rw [e] at p
    exact fun v H1 A1 s r => ⟨O, ρ, f1, d, A1, r, PostS.later p (A.stepO s)⟩
  | exc x f1 => rw [e] at p; exact fun cls d H' A' s' xa => p O σ ρ cls d H' A' (A.stepO s') xa
  | bad => rw [e] at p; exact p.elim
def sSkip : MS := fun ρ f => .nx ρ f
def sSeq (a b : MS) : MS := fun ρ f => match a ρ f with
  | .nx ρ1 f1 => b ρ1 f1
  | r => r
def sSet (i : Nat) (m : ME) : MS := fun ρ f => sBind (m ρ f) fun d f1 => .nx (ρ.set i (.d d)) f1
def sAsg (mg : MG) (m : ME) : MS := fun ρ f => sBind (m ρ f) fun d f1 => match mg d ρ with
  | some ρ' => .nx ρ' f1
  | none => .bad
def sRet (m : ME) : MS := fun ρ f => sBind (m ρ f) fun d f1 => .ret d f1
def sRetN : MS := fun _ f => .ret .none f
def sDrop (m : ME) : MS := fun ρ f => sBind (m ρ f) fun _ f1 => .nx ρ f1
def sIf (t : MB) (a b : MS) : MS := fun ρ f => sBind (t ρ f) fun c f1 => if c = true then a ρ f1 else b ρ f1
def sPar (i j : Nat) (ms : MA) : MS := fun ρ f => sBind (ms ρ f) fun ds f1 => match ds with
  | [d, e] => .nx ((ρ.set i (.d d)).set j (.d e)) f1
  | _ => .bad
def forLoop (mg : MG) (body : MS) : List D → List Sl → FS → SR
  | [], ρ, f => .nx ρ f
  | d :: ds, ρ, f => match mg d ρ with
    | none => .bad
    | some ρ' => match body ρ' f with
      | .nx ρ2 f2 => forLoop mg body ds ρ2 f2
      | .ct ρ2 f2 => forLoop mg body ds ρ2 f2
      | .brk ρ2 f2 => .nx ρ2 f2
      | .ret d f2 => .ret d f2
      | .exc x f2 => .exc x f2
      | .bad => .bad
def sFor (mi : MA) (mg : MG) (body : MS) : MS := fun ρ f => sBind (mi ρ f) fun ds f1 => forLoop mg body ds ρ f1
def whileLoop (c : MB) (body : MS) : Nat → List Sl → FS → SR
  | 0, _, _ => .bad
  | n + 1, ρ, f => sBind (c ρ f) fun b f1 => if b = true then match body ρ f1 with
      | .nx ρ2 f2 => whileLoop c body n ρ2 f2
      | .ct ρ2 f2 => whileLoop c body n ρ2 f2
      | .brk ρ2 f2 => .nx ρ2 f2
      | .ret d f2 => .ret d f2
      | .exc x f2 => .exc x f2
      | .bad => .bad
    else .nx ρ f1
def sWhile (fuel : Nat) (c : MB) (body : MS) : MS := whileLoop c body fuel
section
variable {X : Cx} {G : Gx} {W : WX} {st : Stmt} {rest : List Stmt} {a b : MS} {e tg : Expr} {ma : ME} {pos : Pos}
theorem psNil : PSs X [] (tMS G W sSkip) := pssOf pss_nil fun D σ H q => by
  obtain ⟨O, ρ, f, A, p⟩ := q
  exact p O σ H A (.refl _ _)
theorem psCons (h1 : PS X st (tMS G W a)) (h2 : PSs X rest (tMS G W b)) : PSs X (st :: rest) (tMS G W (sSeq a b)) := pssOf (pss_cons h1 h2) fun D σ H q => by
  obtain ⟨O, ρ, f, A, p⟩ := q
  refine ⟨O, ρ, f, A, ?_⟩
  unfold sSeq at p
  cases e : a ρ f with
  | nx ρ1 f1 =>
    rw [e] at p
    exact fun O' σ' H' A' s => ⟨O', ρ1, f1, A', PostS.later p s⟩
  | ret d f1 => rw [e] at p; exact p
  | brk ρ1 f1 => rw [e] at p; exact p
  | ct ρ1 f1 => rw [e] at p; exact p
  | exc x f1 => rw [e] at p; exact p
  | bad => rw [e] at p; exact p
theorem psOne (h1 : PS X st (tMS G W a)) : PSs X [st] (tMS G W a) := pss_one h1
theorem psPass : PS X (.Pass pos) (tMS G W sSkip) := psOf ps_pass fun D σ H q => by
  obtain ⟨O, ρ, f, A, p⟩ := q
  exact p O σ H A (.refl _ _)
theorem psAsg {g : TG} {mg : MG} {vs : List Nat} (hgo : TGOk G vs g mg) (he : PE X e (tM G W ma)) (hg : PG X tg g) (hs : swapsWithSole [tg] e pos.line X.env = pure false) (hw : swappedStores [tg] e X.env = pure none)
    (h1 : (assignEach [tg] X.env).map (·.2) = [assign tg X.env]) : PS X (.Assign [tg] e pos) (tMS G W (sAsg mg ma)) := psOf (ps_asg he hg hs hw h1) fun D σ H q => by
  refine (sBind_read (k := fun d ρ f1 => match mg d ρ with | some ρ' => SR.nx ρ' f1 | none => SR.bad) q).mono fun x H1 h => ?_
  obtain ⟨O, ρ, f, d, A, r, p⟩ := h
  cases em : mg d ρ with
  | none => rw [em] at p; exact p.elim
  | some ρ' =>
    rw [em] at p
    exact hgo O σ H1 ρ f x d ρ' _ A r em fun σ' A' _ => p O σ' H1 A' (.refl _ _)
theorem psSet {i : Nat} {x : Str} {pos' : Pos} (hN : X.N.Nodup) (hi : X.N[i]? = some x) (hx : Loc X.env.scope x) (he : PE X e (tM G W ma)) (hs : swapsWith e (some (.Name x pos')) pos.line X.env = pure false) (hf : X.fn x = true ∨ X.env.scope.names.lookup x = some .local) :
    PS X (.Assign [.Name x pos'] e pos) (tMS G W (sSet i ma)) := psOf (ps_set hN hi hx he hs hf) fun D σ H q => by
  refine (sBind_read (k := fun d ρ f1 => SR.nx (ρ.set i (.d d)) f1) q).mono fun x H1 h => ?_
  obtain ⟨O, ρ, f, d, A, r, p⟩ := h
  exact p O _ H1 (A.setD i r) (.refl _ _)
theorem psSetLc {i : Nat} {y : Str} {py : Pos} {elt iter : Expr} {ifs : List Expr} {scope : Scope} {own : List (Str × Nat)} {spos : Pos} {g : TG} {mg : MG} {tt : TT} {mi : MA} {mt : MB} {me : ME} (gok : GOk G) (hc : X.calm = true) (hN : X.N.Nodup) (hy : X.N[i]? = some y) (hyl : X.env.scope.names.lookup y = some .local)
    (hsw : swapsWith (.ListComp elt [⟨tg, iter, ifs, 0⟩] scope pos) (some (.Name y py)) spos.line X.env = pure true) (hi : PI X tg iter (tMI G W mi)) (ok : BlkOk X.N X.env.scope scope own)
    (hgo : TGOk G (own.map (·.2)) g mg) (htt : ∀ σ H Q, tMT G W0 mt σ H Q → tt σ H Q)
    (hg : ∀ (s : Shared) (H : Hp) (C : Addr) (cl : List (Str × Addr)) (fp : List Addr), PG (X.blk s H scope (compEnvC scope cl C X.env) fp) tg g) (ht : ∀ (s : Shared) (H : Hp) (C : Addr) (cl : List (Str × Addr)) (fp : List Addr), PTs (X.blk s H scope (compEnvC scope cl C X.env) fp) ifs tt)
    (he : ∀ (s : Shared) (H : Hp) (C : Addr) (cl : List (Str × Addr)) (fp : List Addr), PE (X.blk s H scope (compEnvC scope cl C X.env) fp) elt (tM G W0 me)) (hs : ∀ x, foldedSetIterable iter X.env x = pure x) :
    PS X (.Assign [.Name y py] (.ListComp elt [⟨tg, iter, ifs, 0⟩] scope pos) spos) (tMS G W (sSet i (eComp (own.map (·.2)) mi mg mt me))) := psOf (ps_setLc hc hN hy hyl hsw hi ok hg ht he hs) fun D σ H q => by
  refine comp_read (W := W) gok hgo htt ((sBind_read (rel := Rp G.K) (k := fun d ρ f1 => SR.nx (ρ.set i (.d d)) f1) q).mono fun x H1 h => ?_)
  obtain ⟨O, ρ, f, d, A, r, p⟩ := h
  exact p O _ H1 (A.setD i r) (.refl _ _)
theorem psPar {i j : Nat} {x y : Str} {a b : Expr} {ms : MA} {px py pt : Pos} {kt k2 pt2} (hc : X.calm = true) (hN : X.N.Nodup) (hi : X.N[i]? = some x) (hj : X.N[j]? = some y) (hij : i ≠ j)
    (hx : X.env.scope.names.lookup x = some .local) (hy : X.env.scope.names.lookup y = some .local) (ha : PA X [a, b] (tMA G W ms))
    (hw : swappedStores [.Tuple [.Name x px, .Name y py] kt pt] (.Tuple [a, b] k2 pt2) X.env = pure (some [x, y]))
    (hs : swapsWithSole [.Tuple [.Name x px, .Name y py] kt pt] (.Tuple [a, b] k2 pt2) pos.line X.env = pure false) :
    PS X (.Assign [.Tuple [.Name x px, .Name y py] kt pt] (.Tuple [a, b] k2 pt2) pos) (tMS G W (sPar i j ms)) := psOf (ps_par hc hN hi hj hij hx hy ha hw hs) fun D σ H q => by
  refine (sBind_read (rel := RpAll G.K) (k := fun ds ρ f1 => match ds with | [d, e] => SR.nx ((ρ.set i (.d d)).set j (.d e)) f1 | _ => SR.bad) q).mono fun vs H1 h => ?_
  obtain ⟨O, ρ, f, ds, A, r, p⟩ := h
  cases r with
  | nil => exact p.elim
  | cons r1 r =>
    cases r with
    | nil => exact p.elim
    | cons r2 r =>
      cases r with
      | nil => exact ⟨_, _, rfl, p O _ H1 ((A.setD i r1).setD j r2) (.refl _ _)⟩
      | cons _ _ => exact p.elim
theorem psRet (he : PE X e (tM G W ma)) : PS X (.Return (some e) pos) (tMS G W (sRet ma)) := psOf (ps_ret he) fun D σ H q => by
  refine (sBind_read (rel := Rp G.K) (k := fun d _ f1 => SR.ret d f1) q).mono fun x H1 h => ?_
  obtain ⟨O, ρ, f, d, A, r, p⟩ := h
  exact p O σ ρ x H1 A (.refl _ _) r
theorem psRetN : PS X (.Return none pos) (tMS G W sRetN) := psOf ps_retN fun D σ H q => by
  obtain ⟨O, ρ, f, A, p⟩ := q
  exact p O σ ρ .non H A (.refl _ _) .non
theorem psDrop (he : PE X e (tM G W ma)) (hs : swapsWith e none pos.line X.env = pure false) : PS X (.Expr e pos) (tMS G W (sDrop ma)) := psOf (ps_expr he hs) fun D σ H q => by
  refine (sBind_read (rel := Rp G.K) (k := fun _ ρ f1 => SR.nx ρ f1) q).mono fun x H1 h => ?_
  obtain ⟨O, ρ, f, d, A, r, p⟩ := h
  exact p O σ H1 A (.refl _ _)
theorem psIf {c : Expr} {sa sb : List Stmt} {t : MB} (hc : PT X c (tMT G W t)) (ha : PSs X sa (tMS G W a)) (hb : PSs X sb (tMS G W b)) : PS X (.If c sa sb pos) (tMS G W (sIf t a b)) := psOf (ps_if hc ha hb) fun D σ H q => by
  refine (sBind_read (β := Bool) (rel := fun _ _ (b : Bool) (c : Bool) => b = c) (k := fun c ρ f1 => if c = true then a ρ f1 else b ρ f1) q).mono fun x H1 h => ?_
  obtain ⟨O, ρ, f, d, A, r, p⟩ := h
  cases r
  cases x with
  | true => rw [if_pos rfl] at p ⊢; exact ⟨O, ρ, f, A, p⟩
  | false => rw [if_neg Bool.false_ne_true] at p ⊢; exact ⟨O, ρ, f, A, p⟩
theorem psFor {iter : Expr} {body : List Stmt} {mi : MA} {g : TG} {mg : MG} {vs : List Nat} (hgo : TGOk G vs g mg) (hp : PassesOwn (model X.prog X.w) X.A X.env X.xe) (hc : X.calm = true) (hi : PI X tg iter (tMI G W mi)) (hg : PG X tg g) (hb : PSs X body (tMS G W b))
    (hs : ∀ x, foldedSetIterable iter X.env x = pure x) : PS X (.For tg iter body [] pos) (tMS G W (sFor mi mg b)) := psOf (ps_for hp hc hi hg hb hs) fun D σ H q => by
  refine (sBind_read (k := fun ds ρ f1 => forLoop mg b ds ρ f1) q).mono fun J H1 h => ?_
  obtain ⟨O, ρ, f, ds, A, wk, p⟩ := h
  refine ⟨fun i m σ' H' => m = ds.length - i ∧ i ≤ ds.length ∧ ∃ O' ρ' f', Agr G O' σ' H' ρ' f' ∧ StepP O H1 O' H' ∧ PostS G W O' H' (forLoop mg b (ds.drop i) ρ' f') D, ⟨ds.length, by simp, Nat.zero_le _, O, ρ, f, A, .refl _ _, by rw [List.drop_zero]; exact p⟩, ?_⟩
  rintro i m σ' H' ⟨rfl, hi, O', ρ', f', A', s', p'⟩
  by_cases hlt : i < ds.length
  · refine .inr ⟨wk.go i _ H' hlt s', fun σ2 H2 => ∃ O' ρ' f', Agr G O' σ2 H2 ρ' f' ∧ StepP O H1 O' H2 ∧ PostS G W O' H2 (forLoop mg b (ds.drop (i + 1)) ρ' f') D, fun σ2 H2 p2 => ⟨ds.length - (i + 1), by omega, rfl, hlt, p2⟩, fun x H'' y => ?_⟩
    obtain ⟨sy, d, ed, rd⟩ := wk.yld i _ H' x H'' hlt s' A'.ot y
    have edrop : ds.drop i = d :: ds.drop (i + 1) := by
      have := List.drop_eq_getElem_cons hlt
      rw [this]
      congr 1
      exact Option.some.inj ((List.getElem?_eq_getElem hlt).symm.trans ed)
    rw [edrop] at p'
    unfold forLoop at p'
    cases em : mg d ρ' with
    | none => rw [em] at p'; exact p'.elim
    | some ρ2 =>
      rw [em] at p'
      dsimp only at p'
      refine hgo O' σ' H'' ρ' f' x d ρ2 _ (A'.same sy) rd em fun σ2 A2 _ => ⟨O', ρ2, f', A2, ?_⟩
      have s2 : StepP O H1 O' H'' := s'.trans (.of_same sy)
      have p2 := p'
      cases eb : b ρ2 f' with
      | nx ρ3 f3 =>
        rw [eb] at p'
        exact fun O3 σ3 H3 A3 s3 => ⟨O3, ρ3, f3, A3, s2.trans s3, PostS.later p' ((StepP.of_same sy).trans s3)⟩
      | ct ρ3 f3 =>
        rw [eb] at p'
        exact fun O3 σ3 H3 A3 s3 => ⟨O3, ρ3, f3, A3, s2.trans s3, PostS.later p' ((StepP.of_same sy).trans s3)⟩
      | brk ρ3 f3 =>
        rw [eb] at p'
        exact fun O3 σ3 H3 A3 s3 => p' O3 σ3 H3 A3 ((StepP.of_same sy).trans s3)
      | ret d3 f3 =>
        rw [eb] at p'
        exact fun O3 σ3 ρ4 v H3 A3 s3 r => p' O3 σ3 ρ4 v H3 A3 ((StepP.of_same sy).trans s3) r
      | exc z f3 =>
        rw [eb] at p'
        exact fun O3 σ3 ρ4 cls dd H3 A3 s3 r => p' O3 σ3 ρ4 cls dd H3 A3 ((StepP.of_same sy).trans s3) r
      | bad => rw [eb] at p'; exact p'
  · have ei : i = ds.length := by omega
    subst ei
    rw [List.drop_length] at p'
    exact .inl ⟨wk.stop _ H' s', p' O' σ' H' A' (.refl _ _)⟩
theorem psWhile {c : Expr} {body : List Stmt} {t : MB} (fuel : Nat) (hp : PassesOwn (model X.prog X.w) X.A X.env X.xe) (hc : PT X c (tMT G W t)) (hb : PSs X body (tMS G W b)) : PS X (.While c body [] pos) (tMS G W (sWhile fuel t b)) := psOf (ps_while hp hc hb) fun D σ H q => by
  obtain ⟨O, ρ, f, A, p⟩ := q
  refine ⟨fun m σ' H' => ∃ O' ρ' f', Agr G O' σ' H' ρ' f' ∧ PostS G W O' H' (whileLoop t b m ρ' f') D, ⟨fuel, O, ρ, f, A, p⟩, ?_⟩
  rintro m σ' H' ⟨O', ρ', f', A', p'⟩
  cases m with
  | zero => exact p'.elim
  | succ n =>
    have q' : tMS G W (fun ρ f => sBind (t ρ f) fun d f1 => (fun bb ρ f1 => if bb = true then match b ρ f1 with
      | .nx ρ2 f2 => whileLoop t b n ρ2 f2
      | .ct ρ2 f2 => whileLoop t b n ρ2 f2
      | .brk ρ2 f2 => .nx ρ2 f2
      | .ret d f2 => .ret d f2
      | .exc x f2 => .exc x f2
      | .bad => .bad
    else .nx ρ f1) d ρ f1) D σ' H' := ⟨O', ρ', f', A', p'⟩
    refine (sBind_read (β := Bool) (rel := fun _ _ (b : Bool) (c : Bool) => b = c) q').mono fun x H1 h => ?_
    obtain ⟨O2, ρ2, f2, d, A2, r, p2⟩ := h
    cases r
    cases x with
    | false =>
      rw [if_neg Bool.false_ne_true] at p2 ⊢
      exact p2 O2 _ H1 A2 (.refl _ _)
    | true =>
      rw [if_pos rfl] at p2 ⊢
      refine ⟨fun σ3 H3 => ∃ O' ρ' f', Agr G O' σ3 H3 ρ' f' ∧ PostS G W O' H3 (whileLoop t b n ρ' f') D, fun σ3 H3 p3 => ⟨n, Nat.lt_succ_self n, p3⟩, O2, ρ2, f2, A2, ?_⟩
      cases eb : b ρ2 f2 with
      | nx ρ3 f3 =>
        rw [eb] at p2
        exact fun O3 σ3 H3 A3 s3 => ⟨O3, ρ3, f3, A3, PostS.later p2 s3⟩
      | ct ρ3 f3 =>
        rw [eb] at p2
        exact fun O3 σ3 H3 A3 s3 => ⟨O3, ρ3, f3, A3, PostS.later p2 s3⟩
      | brk ρ3 f3 => rw [eb] at p2; exact p2
      | ret d3 f3 => rw [eb] at p2; exact p2
      | exc z f3 => rw [eb] at p2; exact p2
      | bad => rw [eb] at p2; exact p2
end
end Mir

set_option Elab.async false
set_option linter.all false
set_option maxRecDepth 100000
set_option maxHeartbeats 4000000
namespace Mir
open PySem PySem.Spec PyProof.Rows L2
/-! ### the feed read and written -/
def fdKey : Nat → Str
  | 0 => "cells"
  | 1 => "at"
  | 2 => "held"
  | _ => "count"
def fdGet (f : FS) : Nat → D
  | 0 => .list (f.cells.map .int)
  | 1 => .int f.next
  | 2 => .int f.left
  | _ => .int f.drawn
def fdPut (f : FS) : Nat → Int → Option FS
  | 1, i => some { f with next := i }
  | 2, i => some { f with left := i }
  | 3, i => some { f with drawn := i }
  | _, _ => none
def eFd (i k : Nat) : ME := fun ρ f => match ρ[i]? with
  | some .fd => .ok (fdGet f k) f
  | _ => .bad
def sFdPut (i k : Nat) (m : ME) : MS := fun ρ f => sBind (m ρ f) fun d f1 => match ρ[i]?, d with
  | some .fd, .int n => match fdPut f1 k n with
    | some f2 => .nx ρ f2
    | none => .bad
  | _, _ => .bad
theorem rp_ints {K : PySem.W.Frag} {O : AS} {H : Hp} : ∀ ys : List Int, RpAll K O H (ys.map V.int) (ys.map PyData.int)
  | [] => .nil
  | y :: ys => .cons (.int y) (rp_ints ys)
def fdV (c : Addr) (f : FS) : Nat → V
  | 0 => .ref c
  | 1 => .int f.next
  | 2 => .int f.left
  | _ => .int f.drawn
theorem fd_val (c : Addr) (f : FS) : ∀ k, k < 4 → valV ([(.inr "cells", .ref c), (.inr "at", .int f.next), (.inr "held", .int f.left), (.inr "count", .int f.drawn)] : List (Key × V)) (Sum.inr (fdKey k)) = some (fdV c f k)
  | 0, _ => rfl
  | 1, _ => rfl
  | 2, _ => rfl
  | 3, _ => rfl
  | k + 4, h => by omega
theorem fd_put (c : Addr) (f f2 : FS) (k : Nat) (n : Int) (h : fdPut f k n = some f2) : HO.dK (putK ([(.inr "cells", .ref c), (.inr "at", .int f.next), (.inr "held", .int f.left), (.inr "count", .int f.drawn)] : List (Key × V)) (Sum.inr (fdKey k)) (.int n)) = fdDict c f2 := by
  unfold fdPut at h
  split at h
  · cases h; rfl
  · cases h; rfl
  · cases h; rfl
  · cases h
section
variable {X : Cx} {G : Gx} {W : WX} {e : Expr} {ma : ME} {pos : Pos}
theorem mFd (i k : Nat) {x : Str} {p p2 : Pos} {j : Nat} (hk : k < 4) (hu : X.A.units + 1 < cLine) (hv : PE X (.Name x p) (tVar i)) (hs : NoSl (.Constant (.str (fdKey k)) j p2)) :
    PE X (.Subscript (.Name x p) (.Constant (.str (fdKey k)) j p2) pos) (tM G W (eFd i k)) := peOf (pe_dget hu hv pe_str hs) fun σ H Q q => by
  obtain ⟨O, ρ, f, A, pp⟩ := q
  cases e : ρ[i]? with
  | none => rw [show eFd i k ρ f = .bad by simp only [eFd, e]] at pp; exact pp.elim
  | some s =>
    cases s with
    | fd =>
      rw [show eFd i k ρ f = .ok (fdGet f k) f by simp only [eFd, e]] at pp
      obtain ⟨a, ea, fa⟩ := A.slots i _ e
      have fe := A.feed
      rw [fa] at fe
      obtain ⟨oa, ec, lc⟩ := fe
      refine ⟨.ref a, ea, a, fdV G.fc f k, rfl, .inl ⟨_, .inr (fdKey k), .inl ec, rfl, (fd_val G.fc f k hk).symm⟩, pp _ H A (.refl _ _) ?_⟩
      match k with
      | 0 => exact .lst lc (rp_ints _)
      | 1 => exact .int _
      | 2 => exact .int _
      | _ + 3 => exact .int _
    | no => rw [show eFd i k ρ f = .bad by simp only [eFd, e]] at pp; exact pp.elim
    | d x => rw [show eFd i k ρ f = .bad by simp only [eFd, e]] at pp; exact pp.elim
    | l xs => rw [show eFd i k ρ f = .bad by simp only [eFd, e]] at pp; exact pp.elim
    | m ks xs => rw [show eFd i k ρ f = .bad by simp only [eFd, e]] at pp; exact pp.elim
    | x => rw [show eFd i k ρ f = .bad by simp only [eFd, e]] at pp; exact pp.elim
theorem psFd (i k : Nat) {x : Str} {p p2 pos' : Pos} {j : Nat} (gok : GOk G) (hu : X.A.units + 1 < cLine) (hv : PE X (.Name x p) (tVar i)) (he : PE X e (tM G W ma)) (hs : swapsWith e (some (.Subscript (.Name x p) (.Constant (.str (fdKey k)) j p2) pos')) pos.line X.env = pure false) :
    PS X (.Assign [.Subscript (.Name x p) (.Constant (.str (fdKey k)) j p2) pos'] e pos) (tMS G W (sFdPut i k ma)) := psOf (ps_dput hu hv pe_str he hs) fun D σ H q => by
  refine (sBind_read (rel := Rp G.K) (k := fun d ρ f1 => match ρ[i]?, d with
    | some .fd, .int n => match fdPut f1 k n with
      | some f2 => SR.nx ρ f2
      | none => SR.bad
    | _, _ => SR.bad) q).mono fun x H1 h => ?_
  obtain ⟨O, ρ, f, d, A, r, p⟩ := h
  split at p
  · rename_i n e1
    split at p
    · rename_i f2 e2
      cases r
      obtain ⟨a, ea, fa⟩ := A.slots i _ e1
      have fe := A.feed
      rw [fa] at fe
      obtain ⟨oa, ec, lc⟩ := fe
      have hO0 := gok.fo a fa
      have hc : f2.cells = f.cells := by
        unfold fdPut at e2
        split at e2 <;> cases e2 <;> rfl
      refine ⟨.ref a, ea, a, _, rfl, .inl ⟨_, .inr (fdKey k), ec, rfl, by show 4 < sizeLine; decide, rfl⟩, ?_⟩
      rw [fd_put G.fc f f2 k n e2]
      have su : StepO O H1 (upd H1 a (fdDict G.fc f2)) := fun b o nb t eb => ⟨by rw [upd_ne (fun z => nb (by rw [z]; exact oa))]; exact eb, nb⟩
      have hca : G.fc ≠ a := fun z => lc.1 (by rw [z]; exact oa)
      refine p O σ _ ⟨fun b o h1 t eb => ?_, A.o0, A.onew, fun b hb => ?_, ?_, A.len, fun j s es => ?_, A.inj, tabs_upd A.tabs ec notTbl_dK (fun _ z => by cases z)⟩ su
      · rw [upd_ne (fun z => h1 (by rw [z, fa]))]; exact A.grow b o h1 t eb
      · by_cases hba : b = a
        · rw [hba]; exact ⟨_, upd_same, notTbl_dK⟩
        · rw [upd_ne hba]; exact A.ot b hb
      · rw [fa]
        refine ⟨oa, upd_same, ?_⟩
        rw [hc]
        exact lc.step su
      · have q := A.slots j s es
        cases s with
        | no => trivial
        | d x => obtain ⟨v, e3, r⟩ := q; exact ⟨v, e3, Rp.step su _ _ r⟩
        | l xs =>
          obtain ⟨b, us, e3, ob, nb, eb, r⟩ := q
          exact ⟨b, us, e3, ob, nb, by rw [upd_ne (fun z => nb (by rw [z]; exact hO0))]; exact eb, RpAll.step su _ _ r⟩
        | m ks xs =>
          obtain ⟨b, us, e3, ob, nb, eb, r, hz⟩ := q
          exact ⟨b, us, e3, ob, nb, by rw [upd_ne (fun z => nb (by rw [z]; exact hO0))]; exact eb, RpAll.step su _ _ r, hz⟩
        | fd => exact q
        | x => exact q
    · exact p.elim
  · exact p.elim
/-! ### lists of one's own: made, grown, borrowed, given away -/
/-- what is one's own does not lie where nothing lies -/
theorem Agr.notAt {O : AS} {σ : L2.St} {H : Hp} {ρ : List Sl} {f : FS} (A : Agr G O σ H ρ f) {p : Addr} (np : H p = none) : ∀ (j : Nat) (a : Addr) (s : Sl), ρ[j]? = some s → s.own → σ[j]? = some (some (V.ref a)) → a ≠ p := fun j a s e1 w e2 z => by
  have q := A.slots j _ e1
  cases s with
  | l xs =>
    obtain ⟨b, us, e3, _, _, eb, _⟩ := q
    rw [e2] at e3; cases e3
    rw [z, np] at eb; cases eb
  | m ks xs =>
    obtain ⟨b, us, e3, _, _, eb, _⟩ := q
    rw [e2] at e3; cases e3
    rw [z, np] at eb; cases eb
  | no => exact w
  | d x => exact w
  | fd => exact w
  | x => exact w
theorem Agr.setL {O : AS} {σ : L2.St} {H : Hp} {ρ : List Sl} {f : FS} (A : Agr G O σ H ρ f) (i : Nat) {p : Addr} {vs : List V} {ds : List D} (r : RpAll G.K O H vs ds) (np : H p = none) :
    Agr G (fun a => O a ∨ a = p) (σ.set i (some (.ref p))) (upd H p (.lst vs)) (ρ.set i (.l ds)) f ∧ StepP O H (fun a => O a ∨ a = p) (upd H p (.lst vs)) := by
  have sD : Same H (upd H p (.lst vs)) := same_upd np
  have nO : ¬ O p := A.ot.fresh np
  have up : StepP O H (fun a => O a ∨ a = p) (upd H p (.lst vs)) := fun b o n t e => ⟨sD _ _ e, fun z => z.elim n fun q => by rw [q, np] at e; cases e⟩
  have nH0 : ∀ o, notTbl o → G.H0 p ≠ some o := fun o t q => by
    by_cases hfa : some p = G.fa
    · exact nO (FeedOk.own A.feed hfa.symm)
    · have := A.grow p o hfa t q
      rw [np] at this; cases this
  have hl := A.len
  have nsl := A.notAt np
  refine ⟨⟨fun b o n t e => sD _ _ (A.grow b o n t e), fun a ha => .inl (A.o0 a ha), fun a ha => ?_, fun a ha => ?_, ?_, by simp [hl], fun j s es => ?_, fun j k xs ys a e1 e2 w1 w2 s1 s2 => ?_, A.tabs.ext sD⟩, up⟩
  · rcases ha with ha | rfl
    · exact A.onew a ha
    · exact .inr nH0
  · rcases ha with ha | rfl
    · exact A.ot.same sD a ha
    · exact ⟨_, upd_same, notTbl_lst⟩
  · have q := A.feed
    revert q
    cases hfa : G.fa with
    | none => intro _; trivial
    | some a =>
      intro q
      obtain ⟨oa, ec, lc⟩ := q
      exact ⟨.inl oa, sD _ _ ec, lc.step up⟩
  · by_cases hj : i = j
    · subst hj
      have hi : i < ρ.length := by
        have := (List.getElem?_eq_some_iff.mp es).1
        simpa using this
      rw [List.getElem?_set_self hi] at es
      cases es
      exact ⟨p, vs, by rw [List.getElem?_set_self (by omega)], .inr rfl, fun z => nO (A.o0 p z), upd_same, RpAll.step up _ _ r⟩
    · rw [List.getElem?_set_ne hj] at es
      have q := A.slots j s es
      rw [List.getElem?_set_ne hj]
      cases s with
      | no => trivial
      | d x => obtain ⟨v, e1, r⟩ := q; exact ⟨v, e1, Rp.step up _ _ r⟩
      | l xs => obtain ⟨a, ws, e1, oa, na, ea, r⟩ := q; exact ⟨a, ws, e1, .inl oa, na, sD _ _ ea, RpAll.step up _ _ r⟩
      | m ks xs => obtain ⟨a, ws, e1, oa, na, ea, r, hz⟩ := q; exact ⟨a, ws, e1, .inl oa, na, sD _ _ ea, RpAll.step up _ _ r, hz⟩
      | fd => exact q
      | x => exact q
  · by_cases hj : i = j
    · by_cases hk : i = k
      · omega
      · subst hj
        rw [List.getElem?_set_ne hk] at e2 s2
        have hi : i < σ.length := by
          have := (List.getElem?_eq_some_iff.mp s1).1
          simpa using this
        rw [List.getElem?_set_self hi] at s1
        cases s1
        exact absurd rfl (nsl k _ ys e2 w2 s2)
    · rw [List.getElem?_set_ne hj] at e1 s1
      by_cases hk : i = k
      · subst hk
        have hi : i < σ.length := by
          have := (List.getElem?_eq_some_iff.mp s2).1
          simpa using this
        rw [List.getElem?_set_self hi] at s2
        cases s2
        exact absurd rfl (nsl j _ xs e1 w1 s1)
      · rw [List.getElem?_set_ne hk] at e2 s2
        exact A.inj j k xs ys a e1 e2 w1 w2 s1 s2
def sOwn (i : Nat) (ms : MA) : MS := fun ρ f => sBind (ms ρ f) fun ds f1 => if ds.length ≤ lim then .nx (ρ.set i (.l ds)) f1 else .bad
theorem psOwn {i : Nat} {x : Str} {es : List Expr} {ms : MA} {pos' p : Pos} (hN : X.N.Nodup) (hi : X.N[i]? = some x) (hx : Loc X.env.scope x) (he : PA X es (tMA G W ms)) (hs : swapsWith (.List es p) (some (.Name x pos')) pos.line X.env = pure false) (hf : X.fn x = true ∨ X.env.scope.names.lookup x = some .local) :
    PS X (.Assign [.Name x pos'] (.List es p) pos) (tMS G W (sOwn i ms)) := psOf (ps_set hN hi hx (pe_lst he) hs hf) fun D σ H q => by
  refine (sBind_read (rel := RpAll G.K) (k := fun ds ρ f1 => if ds.length ≤ lim then SR.nx (ρ.set i (.l ds)) f1 else SR.bad) q).mono fun vs H1 h => ?_
  obtain ⟨O, ρ, f, ds, A, r, p⟩ := h
  by_cases hk : ds.length ≤ lim
  · rw [if_pos hk] at p
    refine ⟨by rw [r.length]; exact Nat.le_trans hk lim_line, fun q hq => ?_⟩
    obtain ⟨A', s'⟩ := A.setL i r hq
    exact p _ _ _ A' s'
  · rw [if_neg hk] at p; exact p.elim
def sApp (i : Nat) (m : ME) : MS := fun ρ f => match ρ[i]? with
  | some (.l xs) => sBind (m ρ f) fun d f1 => if xs.length < lim then .nx (ρ.set i (.l (xs ++ [d]))) f1 else .bad
  | _ => .bad
theorem Agr.setApp {O : AS} {σ : L2.St} {H : Hp} {ρ : List Sl} {f : FS} (gok : GOk G) (A : Agr G O σ H ρ f) {i : Nat} {p : Addr} {vs : List V} {xs ds : List D} (e : ρ[i]? = some (.l xs)) (ep : σ[i]? = some (some (.ref p))) (r : RpAll G.K O H vs ds) :
    Agr G O σ (upd H p (.lst vs)) (ρ.set i (.l ds)) f ∧ StepO O H (upd H p (.lst vs)) := by
  obtain ⟨a, us, ea, oa, na, Ha, ra⟩ := A.slots i _ e
  rw [ep] at ea; cases ea
  have up : StepO O H (upd H p (.lst vs)) := fun b o n t e => ⟨by rw [upd_ne (fun z => n (by rw [z]; exact oa))]; exact e, n⟩
  have nf : some p ≠ G.fa := fun z => na (gok.fo p z.symm)
  have hi : i < ρ.length := (List.getElem?_eq_some_iff.mp e).1
  refine ⟨⟨fun b o n t eb => ?_, A.o0, A.onew, fun b hb => ?_, ?_, by simp [A.len], fun j s es => ?_, fun j k ys zs a e1 e2 w1 w2 s1 s2 => ?_, tabs_upd A.tabs Ha notTbl_lst (fun _ z => by cases z)⟩, up⟩
  · by_cases hb : b = p
    · rw [hb] at eb
      rcases A.onew p oa with z | z
      · exact absurd z na
      · exact absurd eb (z o t)
    · rw [upd_ne hb]; exact A.grow b o n t eb
  · by_cases hb' : b = p
    · rw [hb']; exact ⟨_, upd_same, notTbl_lst⟩
    · rw [upd_ne hb']; exact A.ot b hb
  · have q := A.feed
    revert q
    cases hfa : G.fa with
    | none => intro _; trivial
    | some a =>
      intro q
      obtain ⟨oa', ec, lc⟩ := q
      exact ⟨oa', by rw [upd_ne (fun z => nf (by rw [← z, hfa]))]; exact ec, lc.step up⟩
  · by_cases hj : i = j
    · subst hj
      rw [List.getElem?_set_self hi] at es
      cases es
      exact ⟨p, vs, ep, oa, na, upd_same, RpAll.step up _ _ r⟩
    · rw [List.getElem?_set_ne hj] at es
      have q := A.slots j s es
      cases s with
      | no => trivial
      | d x => obtain ⟨v, e1, r⟩ := q; exact ⟨v, e1, Rp.step up _ _ r⟩
      | l xs' =>
        obtain ⟨b, ws, e1, ob, nb, eb, rb⟩ := q
        have hb : b ≠ p := fun z => hj (A.inj i j _ _ p e es True.intro True.intro ep (by rw [e1, z]))
        exact ⟨b, ws, e1, ob, nb, by rw [upd_ne hb]; exact eb, RpAll.step up _ _ rb⟩
      | m ks xs' =>
        obtain ⟨b, ws, e1, ob, nb, eb, rb, hz⟩ := q
        have hb : b ≠ p := fun z => hj (A.inj i j _ _ p e es True.intro True.intro ep (by rw [e1, z]))
        exact ⟨b, ws, e1, ob, nb, by rw [upd_ne hb]; exact eb, RpAll.step up _ _ rb, hz⟩
      | fd => exact q
      | x => exact q
  · have get : ∀ m (ws : Sl), (ρ.set i (.l ds))[m]? = some ws → ws.own → ∃ ws' : Sl, ρ[m]? = some ws' ∧ ws'.own := fun m ws em w => by
      by_cases hm : i = m
      · subst hm; exact ⟨_, e, True.intro⟩
      · rw [List.getElem?_set_ne hm] at em; exact ⟨ws, em, w⟩
    obtain ⟨_, h1, g1⟩ := get j _ e1 w1
    obtain ⟨_, h2, g2⟩ := get k _ e2 w2
    exact A.inj j k _ _ a h1 h2 g1 g2 s1 s2
theorem psApp {i : Nat} {x : Str} {p apos : Pos} {cpos : Pos} (gok : GOk G) (hK : G.K = X.K) (hv : PE X (.Name x p) (tVar i)) (he : PE X e (tM G W ma))
    (hbase : attributeBase (.Name x p) "append" X.env (eval (.Name x p) X.env) = eval (.Name x p) X.env)
    (hfew : ((backTo cpos (starEach [e] X.env)).all (fun x => !x.1) && (backToKw cpos (keywordEach [] X.env)).all (fun x => x.1.isSome)
      && decide (([e] : List Expr).length + ([] : List Keyword).length + (if ([] : List Keyword).isEmpty then 0 else 1) < 30)) = true)
    (hline : (apos.endLine == cpos.line) = true) (hs : starEach [e] X.env = (false, eval e X.env) :: starEach [] X.env) (hplain : (backTo cpos (starEach [] X.env)).any (·.1) = false)
    (hsw : swapsWith (.Call (.Attribute (.Name x p) "append" apos) [e] [] cpos) none pos.line X.env = pure false) :
    PS X (.Expr (.Call (.Attribute (.Name x p) "append" apos) [e] [] cpos) pos) (tMS G W (sApp i ma)) :=
  psOf (ps_expr (pe_bm PySem.F.plainAttrs_list PySem.F.slot_list_append PySem.F.type_list_append mt_append hv (pa_cons he pa_nil hs) hbase hfew hline hs hplain) hsw) fun D σ H q => by
    obtain ⟨O, ρ, f, A, pp⟩ := q
    unfold sApp at pp
    cases e1 : ρ[i]? with
    | none => rw [e1] at pp; exact pp.elim
    | some s =>
      rw [e1] at pp
      cases s with
      | no => exact pp.elim
      | d x => exact pp.elim
      | fd => exact pp.elim
      | m ks xs => exact pp.elim
      | x => exact pp.elim
      | l xs =>
        dsimp only at pp
        obtain ⟨a, us, ea, oa, na, Ha, ra⟩ := A.slots i _ e1
        have nf : some a ≠ G.fa := fun z => na (gok.fo a z.symm)
        refine ⟨.ref a, ea, .inl ⟨rfl, _, .inl (.inl Ha)⟩, O, ρ, f, A, ?_⟩
        cases e2 : ma ρ f with
        | bad => rw [e2] at pp; exact pp.elim
        | exc x f1 => rw [e2] at pp; exact fun cls d H' A' s' xa => pp O σ ρ cls d H' A' (A.stepO s') xa
        | ok d f1 =>
          rw [e2] at pp
          dsimp only [sBind] at pp
          intro y H1 A1 o1 ry
          by_cases hl : xs.length < lim
          · rw [if_pos hl] at pp
            have Ha1 : H1 a = some (.lst us) := o1 a _ nf notTbl_lst Ha
            have ra1 := RpAll.step (A.stepO o1) _ _ ra
            obtain ⟨A2, s2⟩ := A1.setApp gok e1 ea (ra1.append (.cons ry .nil))
            refine ⟨a, us, y, rfl, rfl, Ha1, by rw [ra.length]; exact Nat.lt_of_lt_of_le hl lim_line, pp _ _ _ A2 ((A.stepO o1).trans s2)⟩
          · rw [if_neg hl] at pp; exact pp.elim
/-- given away: from now on a value like others -/
def frz (i : Nat) (ρ : List Sl) : List Sl := match ρ[i]? with
  | some (.l xs) => ρ.set i (.d (.list xs))
  | _ => ρ
theorem Agr.frz {O : AS} {σ : L2.St} {H : Hp} {ρ : List Sl} {f : FS} (gok : GOk G) (A : Agr G O σ H ρ f) (i : Nat) : ∃ O', (∀ a, O' a → O a) ∧ Agr G O' σ H (Mir.frz i ρ) f := by
  unfold Mir.frz
  cases e : ρ[i]? with
  | none => exact ⟨O, fun _ h => h, A⟩
  | some s =>
    cases s with
    | no => exact ⟨O, fun _ h => h, A⟩
    | d x => exact ⟨O, fun _ h => h, A⟩
    | fd => exact ⟨O, fun _ h => h, A⟩
    | m ks xs => exact ⟨O, fun _ h => h, A⟩
    | x => exact ⟨O, fun _ h => h, A⟩
    | l xs =>
      obtain ⟨p, us, ep, oa, na, Ha, ra⟩ := A.slots i _ e
      have less : ∀ a, (O a ∧ a ≠ p) → O a := fun a h => h.1
      have hi : i < ρ.length := (List.getElem?_eq_some_iff.mp e).1
      refine ⟨fun a => O a ∧ a ≠ p, less, A.grow, fun a h => ⟨A.o0 a h, fun z => na (z ▸ h)⟩, fun a h => A.onew a h.1, fun a h => A.ot a h.1, ?_, by simp [A.len], fun j s es => ?_, fun j k ys zs a e1 e2 w1 w2 s1 s2 => ?_, A.tabs⟩
      · have q := A.feed
        revert q
        cases hfa : G.fa with
        | none => intro _; trivial
        | some a =>
          intro q
          obtain ⟨oa', ec, lc⟩ := q
          exact ⟨⟨oa', fun z => na (gok.fo p (by rw [hfa, z]))⟩, ec, fun z => lc.1 z.1, lc.2⟩
      · by_cases hj : i = j
        · subst hj
          rw [List.getElem?_set_self hi] at es
          cases es
          exact ⟨.ref p, ep, .lst ⟨fun z => z.2 rfl, Ha⟩ (RpAll.less less _ _ ra)⟩
        · rw [List.getElem?_set_ne hj] at es
          have q := A.slots j s es
          cases s with
          | no => trivial
          | d x => obtain ⟨v, e1, r⟩ := q; exact ⟨v, e1, Rp.less less _ _ r⟩
          | l xs' =>
            obtain ⟨b, ws, e1, ob, nb, eb, rb⟩ := q
            exact ⟨b, ws, e1, ⟨ob, fun z => hj (A.inj i j _ _ p e es True.intro True.intro ep (by rw [e1, z]))⟩, nb, eb, RpAll.less less _ _ rb⟩
          | m ks xs' =>
            obtain ⟨b, ws, e1, ob, nb, eb, rb, hz⟩ := q
            exact ⟨b, ws, e1, ⟨ob, fun z => hj (A.inj i j _ _ p e es True.intro True.intro ep (by rw [e1, z]))⟩, nb, eb, RpAll.less less _ _ rb, hz⟩
          | fd => exact q
          | x => exact q
      · have get : ∀ m (ws : Sl), (ρ.set i (.d (.list xs)))[m]? = some ws → ws.own → ρ[m]? = some ws := fun m ws em w => by
          by_cases hm : i = m
          · subst hm
            rw [List.getElem?_set_self hi] at em; cases em; exact w.elim
          · rw [List.getElem?_set_ne hm] at em; exact em
        exact A.inj j k _ _ a (get j _ e1 w1) (get k _ e2 w2) w1 w2 s1 s2
def sFrz (i : Nat) (m : MS) : MS := fun ρ f => m (frz i ρ) f
theorem pssFrz (gok : GOk G) (i : Nat) {sts : List Stmt} {m : MS} (h : PSs X sts (tMS G W m)) : PSs X sts (tMS G W (sFrz i m)) := pssOf h fun D σ H q => by
  obtain ⟨O, ρ, f, A, pp⟩ := q
  obtain ⟨O', less, A'⟩ := A.frz gok i
  exact ⟨O', _, f, A', PostS.later pp fun b o n t e => ⟨e, fun z => n (less b z)⟩⟩
theorem psFrz (gok : GOk G) (i : Nat) {st : Stmt} {m : MS} (h : PS X st (tMS G W m)) : PS X st (tMS G W (sFrz i m)) := psOf h fun D σ H q => by
  obtain ⟨O, ρ, f, A, pp⟩ := q
  obtain ⟨O', less, A'⟩ := A.frz gok i
  exact ⟨O', _, f, A', PostS.later pp fun b o n t e => ⟨e, fun z => n (less b z)⟩⟩
/-- lent for one expression whose value holds nothing -/
def scal : D → Bool
  | .none => true
  | .bool _ => true
  | .int _ => true
  | .str _ => true
  | _ => false
theorem Rp.scal {K : PySem.W.Frag} {O O' : AS} {H H' : Hp} {v : V} {d : D} (h : Mir.scal d = true) (r : Rp K O H v d) : Rp K O' H' v d := by
  cases r with
  | non => exact .non
  | bl b => exact .bl b
  | int i => exact .int i
  | str x => exact .str x
  | lst _ _ => cases h
  | tup _ _ => cases h
  | dct _ _ _ => cases h
/-- back from an expression that ran while slot i was lent -/
theorem Agr.back {O O' : AS} {σ : L2.St} {H H' : Hp} {ρ ρ' : List Sl} {f f' : FS} (gok : GOk G) (A : Agr G O σ H ρ f) (A' : Agr G O' σ H' ρ' f') (less : ∀ a, O' a → O a) (o : OutP G.fa H H') : Agr G O σ H' ρ f' := by
  have st := A.stepO o
  have nf : ∀ a, ¬ G.O0 a → some a ≠ G.fa := fun a na z => na (gok.fo a z.symm)
  refine ⟨A'.grow, A.o0, A.onew, fun a ha => ?_, ?_, A.len, fun j s es => ?_, A.inj, A'.tabs⟩
  · obtain ⟨x, e, t⟩ := A.ot a ha
    by_cases hfa : some a = G.fa
    · exact A'.ot a (A'.o0 a (gok.fo a hfa.symm))
    · exact ⟨x, o a x hfa t e, t⟩
  · have q := A.feed
    have q' := A'.feed
    revert q q'
    cases hfa : G.fa with
    | none => intro _ _; trivial
    | some a =>
      intro q q'
      obtain ⟨oa, ec, lc⟩ := q
      obtain ⟨oa', ec', lc'⟩ := q'
      exact ⟨oa, ec', lc.1, lc'.2⟩
  · have q := A.slots j s es
    cases s with
    | no => trivial
    | d x => obtain ⟨v, e1, r⟩ := q; exact ⟨v, e1, Rp.step st _ _ r⟩
    | l xs => obtain ⟨a, ws, e1, oa, na, ea, r⟩ := q; exact ⟨a, ws, e1, oa, na, o a _ (nf a na) notTbl_lst ea, RpAll.step st _ _ r⟩
    | m ks xs => obtain ⟨a, ws, e1, oa, na, ea, r, hz⟩ := q; exact ⟨a, ws, e1, oa, na, o a _ (nf a na) notTbl_dK ea, RpAll.step st _ _ r, hz⟩
    | fd => exact q
    | x => exact q
def eBor (i : Nat) (m : ME) : ME := fun ρ f => match m (frz i ρ) f with
  | .ok d f1 => if scal d then .ok d f1 else .bad
  | _ => .bad
theorem mBor (gok : GOk G) (i : Nat) (h : PE X e (tM G W ma)) : PE X e (tM G W (eBor i ma)) := peOf h fun σ H Q q => by
  obtain ⟨O, ρ, f, A, pp⟩ := q
  obtain ⟨O', less, A'⟩ := A.frz gok i
  have sp : StepP O H O' H := fun b o n t e => ⟨e, fun z => n (less b z)⟩
  refine ⟨O', _, f, A', ?_⟩
  unfold eBor at pp
  cases e1 : ma (frz i ρ) f with
  | bad => rw [e1] at pp; exact pp.elim
  | exc x f1 => rw [e1] at pp; exact pp.elim
  | ok d f1 =>
    rw [e1] at pp
    dsimp only at pp
    cases hs : scal d with
    | false => rw [hs, if_neg Bool.false_ne_true] at pp; exact pp.elim
    | true =>
      rw [hs, if_pos rfl] at pp
      exact fun v H' B o r => pp v H' (A.back gok B less o) o (Rp.scal hs r)
def bBor (i : Nat) (m : MB) : MB := fun ρ f => match m (frz i ρ) f with
  | .ok d f1 => .ok d f1
  | _ => .bad
theorem ptBor (gok : GOk G) (i : Nat) {t : MB} (h : PT X e (tMT G W t)) : PT X e (tMT G W (bBor i t)) := ptOf h fun σ H Q q => by
  obtain ⟨O, ρ, f, A, pp⟩ := q
  obtain ⟨O', less, A'⟩ := A.frz gok i
  have sp : StepP O H O' H := fun b o n t e => ⟨e, fun z => n (less b z)⟩
  refine ⟨O', _, f, A', ?_⟩
  unfold bBor at pp
  cases e1 : t (frz i ρ) f with
  | bad => rw [e1] at pp; exact pp.elim
  | exc x f1 => rw [e1] at pp; exact pp.elim
  | ok d f1 =>
    rw [e1] at pp
    exact fun v H' B o r => pp v H' (A.back gok B less o) o r
end
end Mir

set_option Elab.async false
set_option linter.all false
set_option maxRecDepth 100000
set_option maxHeartbeats 4000000
namespace Mir
open PySem PySem.Spec PyProof.Rows L2
/-! ### a def's mirror -/
def entry (n : Nat) (ff : Bool) (ds : List D) : List Sl := match ff with
  | true => .fd :: (ds.map .d ++ List.replicate (n - 1 - ds.length) .no)
  | false => ds.map .d ++ List.replicate (n - ds.length) .no
def rOf : SR → R D
  | .nx _ f => .ok .none f
  | .ret d f => .ok d f
  | .exc x f => .exc x f
  | _ => .bad
def mfun (n np : Nat) (ff : Bool) (m : MS) : List D → FS → R D := fun ds f => if ds.length = np then rOf (m (entry n ff ds) f) else .bad
theorem SlOk.entry {K : PySem.W.Frag} {O0 O : AS} {H : Hp} {fa xa : Option Addr} : ∀ {vs : List V} {ds : List D} (r : RpAll K O H vs ds) (m m' i : Nat) (s : Sl), (ds.map Sl.d ++ List.replicate m Sl.no)[i]? = some s → SlOk K O0 O H fa xa (vs.map some ++ List.replicate m' none)[i]? s
  | _, _, .nil, m, m', i, s, e => by
    rw [List.map_nil, List.nil_append, List.getElem?_replicate] at e
    split at e
    · cases e; trivial
    · cases e
  | _, _, .cons r1 rs, m, m', i, s, e => by
    cases i with
    | zero => cases e; exact ⟨_, rfl, r1⟩
    | succ i => exact SlOk.entry rs m m' i s e
theorem entry_noL {i n : Nat} {ff : Bool} {ds : List D} {xs : Sl} (w : xs.own) : (entry n ff ds)[i]? ≠ some xs := fun e => by
  have go : ∀ (ds : List D) (m i : Nat), (ds.map Sl.d ++ List.replicate m Sl.no)[i]? ≠ some xs := by
    intro ds m
    induction ds with
    | nil =>
      intro i e
      rw [List.map_nil, List.nil_append, List.getElem?_replicate] at e
      split at e <;> cases e
      exact w
    | cons d ds ih =>
      intro i e
      cases i with
      | zero => cases e; exact w
      | succ i => exact ih i e
  unfold entry at e
  cases ff with
  | true =>
    cases i with
    | zero => cases e; exact w
    | succ i => exact go _ _ _ e
  | false => exact go _ _ _ e
theorem FeedOk.less {K : PySem.W.Frag} {O O' : AS} {H : Hp} {fa : Option Addr} {c : Addr} {f : FS} (h : FeedOk K O' H fa c f) (s : ∀ a, O a → O' a) (k : ∀ a, fa = some a → O a) : FeedOk K O H fa c f := by
  cases fa with
  | none => trivial
  | some a =>
    obtain ⟨oa, e, l⟩ := h
    exact ⟨k a rfl, e, fun z => l.1 (s _ z), l.2⟩
section
variable {P : Program} {w : World} {K : PySem.W.Frag} {mg : Str → Option Value} {base : Heap} {x : Str} {st : Stmt} {f : Addr} {fd : FuncData}
theorem agr_entry {G : Gx} {N ps : List Str} {np : Nat} {ff : Bool} {vs : List V} {H : Hp} {ds : List D} {fs : FS} (hH : G.H0 = H) (tb : LamX.Tabs G.xc.tb H) (ot : OT G.O0 H) (fo : FeedOk G.K G.O0 H G.fa G.fc fs) (ar : ArgsOk G.K G.O0 H ff G.fa vs ds) (hl : vs.length ≤ N.length) :
    Agr G G.O0 (L2.start N vs) H (entry N.length ff ds) fs := by
  have hlen : (L2.start N vs).length = N.length := by unfold L2.start; rw [List.length_append, List.length_map, List.length_replicate]; omega
  refine ⟨fun b o _ _ e => by rw [hH] at e; exact e, fun _ h => h, fun _ h => .inl h, ot, fo, ?_, fun i s e => ?_, fun i j xs ys a h1 _ w _ => absurd h1 (entry_noL w), tb⟩
  · rw [hlen]
    unfold ArgsOk at ar
    cases ff with
    | true =>
      rw [if_pos rfl] at ar
      obtain ⟨a, vs', _, rfl, r⟩ := ar
      have := r.length
      rw [List.length_cons] at hl
      show _ = (Sl.fd :: _).length
      rw [List.length_cons, List.length_append, List.length_map, List.length_replicate]
      omega
    | false =>
      rw [if_neg Bool.false_ne_true] at ar
      have := ar.2.length
      show _ = (_ ++ _ : List Sl).length
      rw [List.length_append, List.length_map, List.length_replicate]
      omega
  · unfold ArgsOk at ar
    unfold L2.start
    cases ff with
    | true =>
      rw [if_pos rfl] at ar
      obtain ⟨a, vs', hfa, rfl, r⟩ := ar
      cases i with
      | zero => cases e; exact ⟨a, rfl, hfa⟩
      | succ i => exact SlOk.entry r _ _ i s e
    | false =>
      rw [if_neg Bool.false_ne_true] at ar
      exact SlOk.entry ar.2 _ _ i s e
/-- cdv is the code of the def at f -/
def CodeIs (K : PySem.W.Frag) (f : Addr) (x : Str) (cdv : Value) : Prop := ∃ (oc : Value) (od : Option Addr) (fd : FuncData) (osl : Array (Option Value)), K.lookup f = some ⟨oc, od, .func fd, osl⟩ ∧ fd.code = cdv ∧ PySem.W.codeIn K cdv x = true
theorem defAt {xc : XC} {N ps : List Str} {np k : Nat} {ff : Bool} {m : MS} (F : FunD K x x (defArgs st) (defBody st) (defScope st) [] [] f fd) (S : FnScope N ps (defScope st)) (hm : mg x = some (.ref f)) (hp : ps.length = np + if ff = true then 1 else 0)
    (hbind : ∀ (kV doc pm : Value) (an : Option Addr) (cdv ct : Value) (us : List Value), us.length = ps.length → bindArgs (PySem.W.fnOf x x (defArgs st) (defBody st) (defScope st) .none kV doc pm an cdv ct) ⟨us, []⟩ = pure (ps.zip us))
    (hbody : ∀ (G : Gx), G.K = K → G.xc = xc → GOk G → ∀ (cdv : Value), CodeIs K f x cdv → ∀ (A : Around) (outer : List Env) (s : Shared) (H : Hp) (E : XK), Room k (A.deeper (envOfC x (defScope st) s.heap.objs.size f cdv)) → A.guards = some [] →
      PSs (cxOf (L2.CX P w) P w K mg base N x (defScope st) f cdv A outer s H E) (defBody st) (tMS G (fun c d _ H' => E c d H') m)) :
    DefAt P w K mg base xc x st ps (k + 1) ff (mfun N.length np ff m) := by
  obtain ⟨oc, od, dV, kV, doc, pm, an, cdv, ct, osl, efd, lk, hcd, _, _⟩ := F.ex
  subst efd
  refine ⟨f, PySem.W.fnOf x x (defArgs st) (defBody st) (defScope st) dV kV doc pm an cdv ct, hm, F, ?_, fun us hl s => FunD.bindsA F hbind s us hl⟩
  have hN : ps.length ≤ N.length := by have := congrArg List.length S.pre; rw [List.length_take] at this; omega
  have lenS : ∀ vs H Q E, spM K xc ff (mfun N.length np ff m) vs H Q E → vs.length = ps.length := fun vs H Q E h => by
    obtain ⟨O, fa, fc, fs, ds, tb, ot, fo, ar, h⟩ := h
    have hd : ds.length = np := by
      unfold mfun at h
      by_cases e : ds.length = np
      · exact e
      · rw [if_neg e] at h; exact h.elim
    rw [hp]
    unfold ArgsOk at ar
    cases ff with
    | true =>
      rw [if_pos rfl] at ar
      obtain ⟨a, vs', _, rfl, r⟩ := ar
      rw [if_pos rfl, List.length_cons, r.length, hd]
    | false =>
      rw [if_neg Bool.false_ne_true] at ar
      rw [if_neg Bool.false_ne_true, ar.2.length, hd]
      rfl
  refine fnG_of lk hcd S lenS fun A outer s H vs Q E hr hgd h => ?_
  have hl := lenS _ _ _ _ h
  obtain ⟨O, fa, fc, fs, ds, tb, ot, fo, ar, h⟩ := h
  have gok : GOk (⟨K, H, O, fa, fc, xc, none⟩ : Gx) := ⟨fun a e => FeedOk.own fo e⟩
  refine ⟨_, hbody ⟨K, H, O, fa, fc, xc, none⟩ rfl rfl gok cdv ⟨oc, od, _, osl, lk, rfl, hcd⟩ A outer s H E hr hgd, O, entry N.length ff ds, fs, agr_entry (G := ⟨K, H, O, fa, fc, xc, none⟩) (ps := ps) (np := np) rfl tb ot fo ar (by omega), ?_⟩
  unfold mfun at h
  by_cases e : ds.length = np
  · rw [if_pos e] at h
    cases em : m (entry N.length ff ds) fs with
    | nx ρ f' =>
      rw [em] at h
      exact fun O' σ' H' A' s' => h .non H' (fun b o n t e => A'.grow b o n t e) A'.tabs (FeedOk.less A'.feed A'.o0 fun a e => FeedOk.own fo e) .non
    | ret d f' =>
      rw [em] at h
      exact fun O' σ' ρ v H' A' s' r => h v H' (fun b o n t e => A'.grow b o n t e) A'.tabs (FeedOk.less A'.feed A'.o0 fun a e => FeedOk.own fo e) (Rp.less A'.o0 _ _ r)
    | exc z f' =>
      rw [em] at h
      exact fun O' σ' ρ' cls d H' A' s' xa => h cls d H' (fun b o n t e => A'.grow b o n t e) A'.tabs (FeedOk.less A'.feed A'.o0 fun a e => FeedOk.own fo e) (by
        obtain ⟨e1, dd, us, e2, e3, e4, r, no⟩ := xa
        exact ⟨e1, dd, us, e2, e3, e4, RpAll.less A'.o0 _ _ r, fun z => no (A'.o0 _ z)⟩)
    | brk ρ f' => rw [em] at h; exact h.elim
    | ct ρ f' => rw [em] at h; exact h.elim
    | bad => rw [em] at h; exact h.elim
  · rw [if_neg e] at h; exact h.elim
end
end Mir

set_option Elab.async false
set_option linter.all false
set_option maxRecDepth 100000
set_option maxHeartbeats 4000000
namespace Mir
open PySem PySem.Spec PyProof.Rows L2
section
variable {X : Cx} {e a o : Expr} {es : List Expr} {pos p2 : Pos} {G : Gx} {W : WX} {ma mo : ME} {ms mk : MA}
/-! ### slices -/
abbrev MO := List Sl → FS → R (Option Int)
def oNo : MO := fun _ f => .ok none f
def oAt (m : ME) : MO := fun ρ f => (m ρ f).bind fun d f1 => match d with
  | .int i => .ok (some i) f1
  | _ => .bad
def eSl (m : ME) (lo hi : MO) : ME := fun ρ f => (m ρ f).bind fun x f1 => (lo ρ f1).bind fun l f2 => (hi ρ f2).bind fun u f3 => ofO (gSl l u [x]) f3
def TOk (G : Gx) (W : WX) (tl : TO) (lo : MO) : Prop := ∀ {α β : Type} (rel : AS → Hp → β → α → Prop) (xs : List V) (m : List D → Option Int → List Sl → FS → R α) (σ : L2.St) (H : Hp) (Q : β → Hp → Prop) (k : Option Int → Hp → Prop),
  tH G W rel xs (fun ds ρ f => (lo ρ f).bind fun l f1 => m ds l ρ f1) σ H Q → (∀ l H1, tH G W rel xs (fun ds ρ f => m ds l ρ f) σ H1 Q → k l H1) → tl σ H k
theorem tokNo : TOk G W tNoPart oNo := fun rel xs m σ H Q k h q => q none H h
theorem tokAt : TOk G W (tPart (tM G W ma)) (oAt ma) := fun {α β} rel xs m σ H Q k h q => by
  have h' : tH G W rel xs (fun ds ρ f => (ma ρ f).bind fun d f1 => match d with
    | .int i => m ds (some i) ρ f1
    | _ => .bad) σ H Q := by
    obtain ⟨O, ρ, f, ds, A, rs, p⟩ := h
    refine ⟨O, ρ, f, ds, A, rs, ?_⟩
    dsimp only at p ⊢
    unfold oAt at p
    cases e : ma ρ f with
    | ok d f1 =>
      rw [e] at p
      cases d <;> exact p
    | exc x f1 => rw [e] at p; exact p
    | bad => rw [e] at p; exact p
  obtain ⟨O, ρ, f, ds, A, rs, p⟩ := h'
  refine ⟨O, ρ, f, A, ?_⟩
  dsimp only at p
  cases e : ma ρ f with
  | ok d f1 =>
    rw [e] at p
    intro v H1 A1 s r
    cases d with
    | int i =>
      cases r
      exact ⟨i, rfl, q (some i) H1 ⟨O, ρ, f1, ds, A1, RpAll.step (A.stepO s) _ _ rs, p.later A s⟩⟩
    | _ => exact p.elim
  | exc x f1 => rw [e] at p; exact p
  | bad => rw [e] at p; exact p.elim
theorem mSlice {lo hi : Option Expr} {tl th : TO} {ml mh : MO} (hK : G.K = X.K) (he : PE X e (tM G W ma)) (hl : PO X lo tl) (hu : PO X hi th) (kl : TOk G W tl ml) (kh : TOk G W th mh) : PE X (.Subscript e (.Slice lo hi none p2) pos) (tM G W (eSl ma ml mh)) :=
  peOf (pe_slice sl he hl hu) fun σ H Q q => by
    rw [← hK]
    refine tP.mono (tH_step (xs := []) (ma := ma) (m := fun ds ρ f => (ml ρ f).bind fun l f2 => (mh ρ f2).bind fun u f3 => ofO (gSl l u ds) f3) (tH_nil q)) fun x H1 h1 => ?_
    refine kl _ _ (fun ds l ρ f => (mh ρ f).bind fun u f3 => ofO (gSl l u ds) f3) _ _ _ _ h1 fun l H2 h2 => ?_
    refine kh _ _ (fun ds u ρ f => ofO (gSl l u ds) f) _ _ _ _ h2 fun u H3 h3 => ?_
    exact tH_op h3
/-! ### isinstance(e, T) -/
theorem mIsI {x y : Str} {p py : Pos} {T : String} (hK : G.K = X.K) (hg : Gl X x) (hm : X.mg x = none) (hv : bootBuiltins x = some (.builtin "isinstance")) (hgy : Gl X y) (hmy : X.mg y = none) (hvy : bootBuiltins y = some (.type T)) (ha : PE X e (tM G W ma))
    (hn : x ≠ "__name__") (hdb : (x == ("__debug__" : Str)) = false) (hny : y ≠ "__name__") (hdby : (y == ("__debug__" : Str)) = false)
    (he : starEach [e, .Name y py] X.env = (false, eval e X.env) :: starEach [.Name y py] X.env) (he2 : starEach [.Name y py] X.env = (false, eval (.Name y py) X.env) :: starEach [] X.env) (hpl : (backTo pos (starEach [.Name y py] X.env)).any (·.1) = false) :
    PE X (.Call (.Name x p) [e, .Name y py] [] pos) (tM G W (eUn (gIsI T) ma)) :=
  peOf (pe_callB cIsI hg hm hv (pa_cons ha (pa_cons (pe_bltn (v := .ty T) hgy hmy hvy rfl hny hdby) pa_nil he2) he) hn hdb he hpl) fun σ H Q q => by
    refine (un_read q).mono fun x H1 h1 => ?_
    exact ⟨x, rfl, by rw [← hK]; exact h1⟩
/-! ### methods of plain data -/
def tyD (T : String) : D → Bool
  | .str _ => T == "str"
  | .int _ => T == "int"
  | .list _ => T == "list"
  | _ => false
theorem tyD_V {K : PySem.W.Frag} {O : AS} {H : Hp} {T : String} {d : D} {v : V} (h : tyD T d = true) (r : Rp K O H v d) : tyV K T v H := by
  cases r with
  | str z => exact eq_of_beq h
  | int i => exact eq_of_beq h
  | lst a b => exact .inl ⟨eq_of_beq h, _, a.sq⟩
  | _ => cases h
def eMt (T : String) (g : List D → Option D) (mo : ME) (ms : MA) : ME := fun ρ f => (mo ρ f).bind fun x f1 => if tyD T x = true then (ms ρ f1).bind fun ds f2 => ofO (g (x :: ds)) f2 else .bad
theorem meth_read {T : String} {g : List D → Option D} {σ : L2.St} {H : Hp} {Q : VK} (h : tM G W (eMt T g mo ms) σ H Q) : tM G W mo σ H fun x H1 => tyV G.K T x H1 ∧ tMA G W ms σ H1 fun xs H2 => rD G.K g (x :: xs) H2 Q := by
  obtain ⟨O, ρ, f, A, p⟩ := h
  refine ⟨O, ρ, f, A, ?_⟩
  unfold eMt at p
  cases e : mo ρ f with
  | ok d f1 =>
    rw [e] at p
    dsimp only [R.bind_ok] at p
    intro v H1 A1 s r
    by_cases ht : tyD T d = true
    · rw [if_pos ht] at p
      refine ⟨tyD_V ht r, ?_⟩
      refine tP.mono (tH_stepA (xs := [v]) (ma := ms) (m := fun ds ρ f => ofO (g ds) f) ⟨O, ρ, f1, [d], A1, .cons r .nil, ?_⟩) fun xs H2 h2 => tH_op h2
      exact Post.later p A s
    · rw [if_neg ht] at p; exact p.elim
  | exc x f1 => rw [e] at p; exact p
  | bad => rw [e] at p; exact p.elim
theorem mMeth {T id : String} {g : List D → Option D} {name : Str} {apos cpos : Pos} (hK : G.K = X.K) (pa : PlainAttrs T) (slot : Slot T name id) (hty : typeOf (.builtin id) = pure (.type "method_descriptor")) (hm : MtD X id g) (ho : PE X o (tM G W mo)) (ha : PA X (e :: es) (tMA G W ms))
    (hbase : attributeBase o name X.env (eval o X.env) = eval o X.env)
    (hfew : ((backTo cpos (starEach (e :: es) X.env)).all (fun x => !x.1) && (backToKw cpos (keywordEach [] X.env)).all (fun x => x.1.isSome)
      && decide ((e :: es).length + ([] : List Keyword).length + (if ([] : List Keyword).isEmpty then 0 else 1) < 30)) = true)
    (hline : (apos.endLine == cpos.line) = true) (hs : starEach (e :: es) X.env = (false, eval e X.env) :: starEach es X.env) (hplain : (backTo cpos (starEach es X.env)).any (·.1) = false) :
    PE X (.Call (.Attribute o name apos) (e :: es) [] cpos) (tM G W (eMt T g mo ms)) :=
  peOf (pe_bm pa slot hty hm ho ha hbase hfew hline hs hplain) fun σ H Q q => by
    refine (meth_read q).mono fun x H1 h1 => ?_
    rw [← hK]
    exact h1
/-! ### calls with keywords -/
def pick {α : Type} (is : List Nat) (xs : List α) : List α := is.filterMap fun i => xs[i]?
theorem RpAll.pick {K : PySem.W.Frag} {O : AS} {H : Hp} {vs : List V} {ds : List D} (r : RpAll K O H vs ds) : ∀ is : List Nat, RpAll K O H (Mir.pick is vs) (Mir.pick is ds) := by
  intro is
  induction is with
  | nil => exact .nil
  | cons i is ih =>
    unfold Mir.pick at ih ⊢
    rw [List.filterMap_cons, List.filterMap_cons]
    cases e : vs[i]? with
    | none =>
      have : ds[i]? = none := by
        rw [List.getElem?_eq_none_iff] at e ⊢
        have := r.length
        omega
      rw [this]
      exact ih
    | some v =>
      obtain ⟨d, e2, rd⟩ := r.getV e
      rw [e2]
      exact .cons rd ih
theorem vals_pick {xs : List V} {us : List Value} (r : Vals xs us) : ∀ is : List Nat, Vals (Mir.pick is xs) (Mir.pick is us) := by
  intro is
  induction is with
  | nil => exact .nil
  | cons i is ih =>
    unfold Mir.pick at ih ⊢
    rw [List.filterMap_cons, List.filterMap_cons]
    cases e : xs[i]? with
    | none =>
      have : us[i]? = none := by
        rw [List.getElem?_eq_none_iff] at e ⊢
        have := r.length
        omega
      rw [this]
      exact ih
    | some v =>
      obtain ⟨u, e2, ru⟩ := r.get e
      rw [e2]
      exact .cons ru ih
def eCallK (is : List Nat) (mf : List D → FS → R D) (ms mk : MA) : ME := fun ρ f => (ms ρ f).bind fun ds f1 => (mk ρ f1).bind fun es f2 => match mf (pick is (ds ++ es)) f2 with
  | .ok d _ => .ok d f2
  | .exc x _ => .exc x f2
  | .bad => .bad
theorem pkNil : PK X [] (tMA G W aNil) := ⟨fun pos pins s σ H Q I h => pk_nil.run pos pins s σ H Q I (by
  obtain ⟨O, ρ, f, A, p⟩ := h
  exact p [] H A (.refl _ _) .nil)⟩
theorem pkCons {kws : List Keyword} {nm : Option Str} {kpos : Pos} (ha : PE X e (tM G W ma)) (hr : PK X kws (tMA G W ms)) : PK X (⟨nm, e, kpos⟩ :: kws) (tMA G W (aCons ma ms)) := pkOf (pk_cons ha hr) fun σ H Q q => by
  refine tP.mono (tH_step (xs := []) (ma := ma) (m := fun ds ρ f => (ms ρ f).bind fun es f2 => .ok (ds ++ es) f2) (tH_nil q)) fun x H1 h1 => ?_
  refine tP.mono (tH_stepA (m := fun ds _ f => .ok ds f) h1) fun xs H2 h2 => ?_
  obtain ⟨O, ρ, f, ds, A, rs, p⟩ := h2
  exact p _ _ A (.refl _ _) rs
theorem spM_of {O : AS} {H : Hp} {σ : L2.St} {ρ : List Sl} {f1 : FS} {vs : List V} {ds : List D} {mf : List D → FS → R D} {Q : VK} (gok : GOk G) (A : Agr G O σ H ρ f1) (rs : RpAll G.K O H vs ds) (p : Post G W O σ H ρ (Rp G.K) (match mf ds f1 with
    | .ok d _ => R.ok d f1
    | .exc x _ => .exc x f1
    | .bad => .bad) Q) : spM G.K G.xc false mf vs H Q (WE W σ) := by
  refine ⟨O, none, 0, f1, ds, A.tabs, A.ot, trivial, by unfold ArgsOk; rw [if_neg Bool.false_ne_true]; exact ⟨rfl, rs⟩, ?_⟩
  have feed' : ∀ H', OutP none H H' → FeedOk G.K O H' G.fa G.fc f1 := fun H' out => by
    have q := A.feed
    cases hfa : G.fa with
    | none => trivial
    | some a =>
      rw [hfa] at q
      obtain ⟨oa, ec, lc⟩ := q
      refine ⟨oa, out a _ (by simp) notTbl_dK ec, lc.step (out.step fun b z => nomatch z)⟩
  cases e2 : mf ds f1 with
  | bad => rw [e2] at p; exact p.elim
  | ok d f2 =>
    rw [e2] at p
    exact fun v H' out tb _ rv => p v H' (A.out out (fun b z => nomatch z) tb (feed' H' out) gok.fo) (fun b o n t e => out b o (by simp) t e) rv
  | exc x f2 =>
    rw [e2] at p
    exact fun cls d H' out tb _ xa => p cls d H' (A.out out (fun b z => nomatch z) tb (feed' H' out) gok.fo) (fun b o n t e => out b o (by simp) t e) xa
theorem callK_read {is : List Nat} {mf : List D → FS → R D} {σ : L2.St} {H : Hp} {Q : VK} (gok : GOk G) (h : tM G W (eCallK is mf ms mk) σ H Q) : tMA G W ms σ H fun vs H1 => tMA G W mk σ H1 fun zs H2 => spM G.K G.xc false mf (pick is (vs ++ zs)) H2 Q (WE W σ) := by
  refine tP.mono (tH_stepA (xs := []) (ma := ms) (m := fun ds ρ f => (mk ρ f).bind fun es f2 => match mf (pick is (ds ++ es)) f2 with
    | .ok d _ => .ok d f2
    | .exc x _ => .exc x f2
    | .bad => .bad) (tH_nil h)) fun vs H1 h1 => ?_
  refine tP.mono (tH_stepA (ma := mk) (m := fun ds ρ f2 => match mf (pick is ds) f2 with
    | .ok d _ => .ok d f2
    | .exc x _ => .exc x f2
    | .bad => .bad) h1) fun zs H2 h2 => ?_
  obtain ⟨O, ρ, f, ds, A, rs, p⟩ := h2
  exact spM_of gok A (RpAll.pick rs is) p
theorem bindsK {K : PySem.W.Frag} {x qual : Str} {params : Arguments} {body : List Stmt} {scope : Scope} {kws : List (Str × V)} {f : Addr} {fd : FuncData} {args : Args} {r : List (Str × Value)} (F : FunD K x qual params body scope [] kws f fd)
    (h : ∀ (kV doc pm : Value) (an : Option Addr) (cdv ct : Value), bindArgs (PySem.W.fnOf x qual params body scope .none kV doc pm an cdv ct) args = pure r) (s : Shared) : BindsTo s fd args r := by
  obtain ⟨oc, od, dV, kV, doc, pm, an, cdv, ct, osl, rfl, lk, hcd, hD, hK⟩ := F.ex
  rcases hD with ⟨_, rfl⟩ | ⟨e, _⟩
  · exact .of_eq (h kV doc pm an cdv ct)
  · exact absurd rfl e
/-- f(k = e, ..) -/
theorem mCallK0 {x : Str} {st : Stmt} {p : Pos} {ps ks : List Str} {k : Nat} {is : List Nat} {kws : List Keyword} {mf : List D → FS → R D} (D : DefAt X.prog X.w X.K X.mg X.base G.xc x st ps k false mf) (gok : GOk G) (hK : G.K = X.K) (hr : Room k X.A) (hgd : X.A.guards = some []) (hg : Gl X x) (tk : Takes X W)
    (hkw : PK X kws (tMA G W mk)) (hall : (backToKw pos (keywordEach kws X.env)).all (·.1.isSome) = true) (hks : (backToKw pos (keywordEach kws X.env)).filterMap (·.1) = ks) (hdb : (x == ("__debug__" : Str)) = false)
    (hpl : ((backTo pos (starEach [] X.env)).any (·.1) || (backToKw pos (keywordEach kws X.env)).any (·.1.isNone)) = false)
    (hb : ∀ (kV doc pm : Value) (an : Option Addr) (cdv ct : Value) (ws : List Value), (pick is ws).length = ps.length → bindArgs (PySem.W.fnOf x x (defArgs st) (defBody st) (defScope st) .none kV doc pm an cdv ct) ⟨[], ks.zip ws⟩ = pure (ps.zip (pick is ws))) :
    PE X (.Call (.Name x p) [] kws pos) (tM G W (eCallK is mf aNil mk)) := by
  obtain ⟨f, fd, hm, FD, F, _⟩ := D.ex
  have hk := FD.kp
  refine ⟨fun pins s σ H Q I h => ?_⟩
  refine wpAny_Call_Name_kw (ld_glob I hg hm ?_ hdb)
  have q := callK_read gok h
  obtain ⟨O, ρ, f1, A, pp⟩ := q
  have q := pp [] H A (.refl _ _) .nil
  refine PySem.W.callWith_KW0 (h₀ := X.base) I.ok.mod.kin hk hall (thn (hkw.run pos pins s σ H _ I q) fun ws s2 ⟨zs, H2, I2, rz, q2⟩ => ⟨I2.kIn, ?_⟩) hpl
  rw [hks]
  rw [hK] at q2
  have r2 := vals_pick rz is
  have hl : (pick is ws).length = ps.length := by rw [← r2.length]; exact F.len _ _ _ _ q2
  refine wpAny_call (codeAny_mono (F.run X.A X.stack s2 H2 ⟨[], ks.zip ws⟩ (pick is ws) (pick is zs) Q (WE W σ) hr hgd I2.env0 (bindsK FD (fun kV doc pm an cdv ct => hb kV doc pm an cdv ct ws hl) s2) r2 q2) fun r s' hq => ?_)
  cases r with
  | error e => exact passAt tk σ pins H2 s2 e s' I2 hq
  | ok fl =>
    cases fl with
    | ret u => exact I2.after hq
    | next => exact False.elim hq
    | brk => exact False.elim hq
    | cont => exact False.elim hq
end
end Mir

set_option Elab.async false
set_option linter.all false
set_option maxRecDepth 100000
set_option maxHeartbeats 4000000
namespace Mir
open PySem PySem.Spec PyProof.Rows L2
theorem _root_.L2.Room.units64 {k : Nat} {A : Around} (hr : Room k A) : A.units + 64 < cLine := by have := hr.un; omega
theorem _root_.L2.Room.units1 {k : Nat} {A : Around} (hr : Room k A) : A.units + 1 < cLine := by have := hr.un; omega
namespace Bt
theorem boot_len : bootBuiltins "len" = some (.builtin "len") := by decide +kernel
theorem boot_all : bootBuiltins "all" = some (.builtin "all") := by decide +kernel
theorem boot_any : bootBuiltins "any" = some (.builtin "any") := by decide +kernel
theorem boot_repr : bootBuiltins "repr" = some (.builtin "repr") := by decide +kernel
theorem boot_isinstance : bootBuiltins "isinstance" = some (.builtin "isinstance") := by decide +kernel
theorem boot_sorted : bootBuiltins "sorted" = some (.builtin "sorted") := by decide +kernel
theorem boot_int : bootBuiltins "int" = some (.type "int") := by decide +kernel
theorem boot_str : bootBuiltins "str" = some (.type "str") := by decide +kernel
theorem boot_list : bootBuiltins "list" = some (.type "list") := by decide +kernel
theorem boot_tuple : bootBuiltins "tuple" = some (.type "tuple") := by decide +kernel
theorem boot_bool : bootBuiltins "bool" = some (.type "bool") := by decide +kernel
theorem boot_set : bootBuiltins "set" = some (.type "set") := by decide +kernel
theorem boot_dict : bootBuiltins "dict" = some (.type "dict") := by decide +kernel
end Bt
/-! ### a module's name that holds data -/
def GData (K : PySem.W.Frag) (mg : Str → Option Value) (x : Str) (d : D) : Prop := ∃ u v, mg x = some u ∧ RelV v u ∧ ∀ O H, Rp K O H v d
theorem gC {X : Cx} {G : Gx} {W : WX} {x : Str} {pos : Pos} {d : D} (hK : G.K = X.K) (hg : Gl X x) (hd : (x == ("__debug__" : Str)) = false) (T : GData X.K X.mg x d) : PE X (.Name x pos) (tM G W (eC d)) := by
  obtain ⟨u, v, e, r, rp⟩ := T
  exact mGlob hg e r (by rw [hK]; exact rp) hd
/-! ### x[::-1] -/
section
variable {prog : Program} {w : World} {A : Around} {E : Value → Shared → Prop} {s : Shared}
theorem sliceApplied_rev {sl : Addr} {vl vu vk : Value} {n : Nat} {Q : Int × Int × Nat → Shared → Prop} (hs : s.heap.IsSliceOf sl vl vu vk) (pl : IsPart vl none) (pu : IsPart vu none) (pk : IsPart vk (some (-1)))
    (h : Q ((n : Int) - 1, -1, n) s) : wpAny (model prog w) A (Builtin.Slice.sliceApplied (.ref sl) (pure (n : Int))) Q E s := by
  obtain ⟨os, hos, hcs, hds⟩ := id hs
  unfold Builtin.Slice.sliceApplied Builtin.Slice.sliceFields
  refine wpAny_bind (wpAny_bind (wpAny_field hos hds (x := vl) rfl (wpAny_bind (wpAny_field hos hds (x := vu) rfl (wpAny_bind (wpAny_field hos hds (x := vk) rfl (wpAny_pure ?_)))))))
  refine wpAny_bind (HT.slicePart_ pk ?_)
  show wpAny _ _ (if ((-1 : Int) == 0) = true then _ else _) _ _ s
  rw [if_neg (by decide)]
  refine wpAny_bind (HT.slicePart_ pl (wpAny_bind (HT.slicePart_ pu (wpAny_bind (wpAny_pure ?_)))))
  have ea : Builtin.Slice.sliceAdjust none none (-1) (n : Int) = ((n : Int) - 1, -1) := by
    unfold Builtin.Slice.sliceAdjust
    rfl
  have ep : Builtin.Slice.slicePlaces ((n : Int) - 1) (-1) (-1) = n := by
    unfold Builtin.Slice.slicePlaces
    have h1 : ¬ ((-1 : Int) > 0) := by decide
    simp only [h1, if_false]
    have e2 : (- -1 : Int) = 1 := by decide
    rw [e2, Int.ediv_one]
    split <;> omega
  show wpAny _ _ (match Builtin.Slice.sliceAdjust none none (-1) (n : Int) with | (lo, hi) => pure (lo, (-1 : Int), Builtin.Slice.slicePlaces lo hi (-1))) _ _ s
  rw [ea]
  show wpAny _ _ (pure ((n : Int) - 1, (-1 : Int), Builtin.Slice.slicePlaces ((n : Int) - 1) (-1) (-1))) _ _ s
  rw [ep]
  exact wpAny_pure h
theorem pick_rev (xs : Array Value) : ((List.range xs.size).filterMap fun (m : Nat) => xs[(((xs.size : Int) - 1) + (m : Int) * (-1)).toNat]?).toArray = xs.toList.reverse.toArray := by
  have e : ∀ l : List Nat, (∀ m ∈ l, m < xs.size) → (l.filterMap fun (m : Nat) => xs[(((xs.size : Int) - 1) + (m : Int) * (-1)).toNat]?) = (l.map fun k => xs.size - 1 - k).filterMap (xs[·]?) := by
    intro l
    induction l with
    | nil => intro _; rfl
    | cons m l ih =>
      intro hl
      have h1 : m < xs.size := hl m List.mem_cons_self
      have e1 : (((xs.size : Int) - 1) + (m : Int) * (-1)).toNat = xs.size - 1 - m := by omega
      rw [List.map_cons, List.filterMap_cons, List.filterMap_cons, e1, ih fun k hk => hl k (List.mem_cons_of_mem _ hk)]
  rw [e _ (fun m hm => List.mem_range.mp hm), PySem.W.krv_range, List.filterMap_reverse, PySem.W.krv_all]
theorem getItem_tuple_rev {t sl : Addr} {items : Array Value} {vl vu vk : Value} {Q : Value → Shared → Prop} (ht : IsTup s.heap t items) (hs : s.heap.IsSliceOf sl vl vu vk) (pl : IsPart vl none) (pu : IsPart vu none) (pk : IsPart vk (some (-1)))
    (h : Q (.ref s.heap.objs.size) { s with heap := s.heap.push { cls := .type "tuple", data := .seq items.toList.reverse.toArray } })
    (hsz : items.size ≤ sizeLine) : wpAny (model prog w) A (getItem (.ref t) (.ref sl)) Q E s := by
  have htake : sizeOk (.seq items.toList.reverse.toArray) := by
    show items.toList.reverse.toArray.size ≤ sizeLine
    rw [List.size_toArray, List.length_reverse, Array.length_toList]
    omega
  obtain ⟨os, hos, hcs, hds⟩ := id hs
  have hTs : s.TypeIs (.ref sl) "slice" := ⟨os, hos, hcs⟩
  unfold getItem
  try with_reducible refine wpAny_holding ?_
  first | refine wpAny_bind (wpAny_pure ?_) | skip
  refine wpAny_bind (wpAny_sequenceKey ht.typeIs (by decide) ?_)
  refine wpAny_bind (wpAny_callSpecial?_slot (name := Str.ofString "__getitem__") ht.typeIs PyProof.Rows.slot_tuple_getitem
    (wpAny_call_entry PyProof.Rows.slot_tuple_getitem ht.typeIs entry_tuple_getitem ?_ (args_tuple_getitem _ _)))
  show wpAny _ _ (Builtin.Tuple.tupleItemsOf (.ref t) >>= _) _ _ s
  refine wpAny_bind (tupleItemsOf_ ht ?_)
  refine wpAny_bind (wpAny_typeOf hTs ?_)
  rw [if_pos (by decide)]
  refine wpAny_bind (sliceApplied_rev hs pl pu pk ?_)
  have hno : ¬ ((((items.size : Int) - 1) == 0 && (-1 : Int) == 1 && items.size == items.size) = true) := by
    intro q
    rw [Bool.and_eq_true, Bool.and_eq_true] at q
    exact absurd q.1.2 (by decide)
  show wpAny _ _ (if (((items.size : Int) - 1) == 0 && (-1 : Int) == 1 && items.size == items.size) = true then _ else _) _ _ s
  rw [if_neg hno, pick_rev]
  first
    | exact wpAny_bind (m := Builtin.Tuple.tupleExact _) (wpAny_newObj_type (wpAny_pure ⟨_, rfl, wpAny_pure h⟩) htake)
    | exact wpAny_bind (m := Builtin.Tuple.tupleExact _) (wpAny_newObj_type (wpAny_bind (wpAny_pure (wpAny_pure ⟨_, rfl, wpAny_pure h⟩))) htake)
    | exact wpAny_bind (wpAny_bind (m := Builtin.Tuple.tupleExact _) (wpAny_newObj_type (wpAny_pure (wpAny_pure ⟨_, rfl, wpAny_pure h⟩)) htake))
    | exact wpAny_bind (wpAny_bind (m := Builtin.Tuple.tupleExact _) (wpAny_newObj_type (wpAny_pure ⟨_, rfl, wpAny_pure h⟩) htake))
end
def gRev : List D → Option D
  | [.tuple xs] => some (.tuple xs.reverse)
  | [.list xs] => some (.list xs.reverse)
  | _ => none
section
variable {X : Cx} {G : Gx} {W : WX} {ma : ME}
theorem mRev {e : Expr} {k : Nat} {p1 p2 p3 pos : Pos} (hK : G.K = X.K) (he : PE X e (tM G W ma)) : PE X (.Subscript e (.Slice none none (some (.UnaryOp .USub (.Constant (.int 1) k p1) p2)) p3) pos) (tM G W (eUn gRev ma)) := by
  refine ⟨fun pins s σ H Q I h => ?_⟩
  refine Subscript_ (thn (he.run pins s σ H _ I (un_read h)) fun v s1 ⟨x, H1, I1, r1, q1⟩ => ?_)
  have hst : PO X (some (.UnaryOp .USub (.Constant (.int 1) k p1) p2)) (tPart (tUn (rU fun i => .int (-i)) (tC (.int 1)))) := po_some (pe_un un_neg pe_int)
  refine wpAny_Slice (thn (po_none.run pins s1 σ H1 (fun o H2 => o = none ∧ H2 = H1) I1 ⟨rfl, rfl⟩) fun vl s2 ⟨l, H2, I2, pl, el, e2⟩ => ?_)
  subst el e2
  refine thn (po_none.run pins s2 σ H2 (fun o H3 => o = none ∧ H3 = H2) I2 ⟨rfl, rfl⟩) fun vu s3 ⟨u, H3, I3, pu, eu, e3⟩ => ?_
  subst eu e3
  refine thn (hst.run pins s3 σ H3 (fun o H4 => o = some (-1) ∧ H4 = H3) I3 ⟨1, rfl, -1, rfl, rfl, rfl⟩) fun vs s4 ⟨o, H4, I4, ps, eo, e4⟩ => ?_
  subst eo e4
  have I5 : Inv X pins σ H4 { s4 with heap := s4.heap.push { cls := .type "slice", data := .fields #[vl, vu, vs] } } := I4.kept (t' := s4.toks) fun b ob q => Heap.get?_push_of_some _ q
  rw [hK] at q1
  obtain ⟨O, ds, d, ot, rs, e, q⟩ := q1
  unfold gRev at e
  split at e
  · rename_i xs
    cases e
    cases rs with
    | cons a b =>
      cases b
      cases a with
      | tup a1 b1 =>
        cases r1
        obtain ⟨its, r, ht, hz⟩ := I5.tuple a1.sq
        show wpAny (model X.prog X.w) X.A (subscriptTail _ (.Slice none none (some (.UnaryOp .USub (.Constant (.int 1) k p1) p2)) p3) (.ref _) (.ref s4.heap.objs.size)) (EP X pins σ Q) X.xe { s4 with heap := s4.heap.push { cls := .type "slice", data := .fields #[vl, vu, vs] } }
        refine tail_any (ops := [.ref _, .ref s4.heap.objs.size]) ht.typeIs (PyProof.Rows.slot_tuple_getitem.lookup) ?_ (by with_unfolding_all rfl)
        have hlen := r.length
        refine getItem_tuple_rev ht (Heap.IsSliceOf.new _ vl vu vs) pl pu ps ?_ (by rw [List.size_toArray]; omega)
        exact ⟨.ref _, _, I5.laid (t' := s4.toks) (o := .tup _) (fun b ob q => Heap.get?_push_of_some _ q) (Nat.le_refl _) ⟨by rw [List.length_reverse]; exact hz, _, r.reverse, IsTup.new _ _⟩, rfl, q _ _ (same_upd (I5.hok.fresh (Nat.le_refl _))) (Rp.newTup b1.reverse (I5.hok.fresh (Nat.le_refl _)) ot)⟩
  · rename_i xs
    cases e
    cases rs with
    | cons a b =>
      cases b
      cases a with
      | lst a1 b1 =>
        cases r1
        obtain ⟨its, r, ht, hz⟩ := I5.list a1.sq
        have hlen := r.length
        show wpAny (model X.prog X.w) X.A (subscriptTail _ (.Slice none none (some (.UnaryOp .USub (.Constant (.int 1) k p1) p2)) p3) (.ref _) (.ref s4.heap.objs.size)) (EP X pins σ Q) X.xe { s4 with heap := s4.heap.push { cls := .type "slice", data := .fields #[vl, vu, vs] } }
        refine tail_any (ops := [.ref _, .ref s4.heap.objs.size]) ht.isList.typeIs (PySem.slot_list_getitem.lookup) ?_ (by with_unfolding_all rfl)
        refine wpAny_getItem_list_slice ht.isList (Heap.IsSliceOf.new _ vl vu vs) pl pu ps (by decide) ?_ (by rw [List.size_toArray]; omega)
        rw [PySem.W.krv_pick]
        exact ⟨.ref _, _, I5.laid (t' := s4.toks) (o := .lst _) (fun b ob q => Heap.get?_push_of_some _ q) (Nat.le_refl _) ⟨by rw [List.length_reverse]; exact hz, _, 0, r.reverse, Heap.get?_push_size _ rfl⟩, rfl, q _ _ (same_upd (I5.hok.fresh (Nat.le_refl _))) (Rp.newLst b1.reverse (I5.hok.fresh (Nat.le_refl _)) ot)⟩
  · cases e
end
end Mir

set_option Elab.async false
set_option linter.all false
set_option maxRecDepth 100000
set_option maxHeartbeats 4000000
namespace Mir
open PySem PySem.Spec PyProof.Rows L2
/-! ### sets whose members are tuples of plain values: any kind of key -/
section
variable {P : Program} {w : World} {κ : Type} [DecidableEq κ] {kk : KeyKind P w κ} {A : Around} {E : Value → Shared → Prop} {s : Shared}
abbrev hsh (kk : KeyKind P w κ) (k : List κ) : Int := tupleKeyHash kk k
theorem val_ofA (n : Nat) {v : Value} (c : carriedByValue v = true) : ofAClassStatement n v = pure false := by
  cases v with
  | ref a => exact absurd c (by simp [carriedByValue])
  | _ => cases n <;> rfl
theorem val_hb (n : Nat) {v : Value} (c : carriedByValue v = true) : ∃ r, hashByValue n v = pure r := by
  cases v with
  | ref a => exact absurd c (by simp [carriedByValue])
  | _ => cases n <;> exact ⟨_, rfl⟩
theorem tk_ofA {k : List κ} {b : Addr} {Q : Bool → Shared → Prop} (x : IsTupleKey kk s.heap k b) (q : Q false s) : wpAny (model P w) A (ofAClassStatement 8 (.ref b)) Q E s := by
  have ty := x.typeIs
  obtain ⟨ob, its, m, e1, _, e2, e3⟩ := x
  unfold ofAClassStatement
  refine wpAny_bind (wpAny_typeOf ty ?_)
  dsimp only
  simp only [show (("tuple" : String) == "tuple") = true from by decide, if_true, Bool.not_true, Bool.false_eq_true, if_false]
  try refine wpAny_bind (wpAny_pure ?_)
  try simp only [Bool.not_true, Bool.false_eq_true, if_false]
  show wpAny _ _ (seqItems? (.ref b) >>= _) _ _ s
  refine wpAny_bind (wpAny_seqItems e1 e2 ?_)
  dsimp only
  refine wpAny_bind ?_
  show wpAny _ _ (forIn its _ _) _ _ s
  rw [← Array.forIn_toList]
  refine wpAny_forIn_list _ (fun l r s1 => r.1 = none ∧ s1 = s ∧ ∀ v ∈ l, carriedByValue v = true) _ ?_ ?_ _ _ ⟨rfl, rfl, e3.byValue⟩
  · rintro v l r s1 ⟨z, rfl, al⟩
    rw [val_ofA 7 (al v List.mem_cons_self)]
    refine wpAny_bind (wpAny_pure ?_)
    simp only [Bool.false_eq_true, if_false]
    exact wpAny_pure ⟨rfl, rfl, fun u hu => al u (List.mem_cons_of_mem _ hu)⟩
  · rintro ⟨r1, r2⟩ s1 ⟨z, rfl, _⟩
    simp only at z
    subst z
    exact wpAny_pure q
theorem tk_hb {k : List κ} {b : Addr} {Q : Bool → Shared → Prop} (x : IsTupleKey kk s.heap k b) (q : ∀ r, Q r s) : wpAny (model P w) A (hashByValue 8 (.ref b)) Q E s := by
  have ty := x.typeIs
  obtain ⟨ob, its, m, e1, _, e2, e3⟩ := x
  unfold hashByValue
  refine wpAny_bind (wpAny_specialOf ty F.slot_tuple_hash.lookup ?_)
  show wpAny _ _ (seqItems? (.ref b) >>= _) _ _ s
  refine wpAny_bind (wpAny_seqItems e1 e2 ?_)
  refine wpAny_bind ?_
  show wpAny _ _ (forIn its _ _) _ _ s
  rw [← Array.forIn_toList]
  refine wpAny_forIn_list _ (fun l r s1 => r.1 = none ∧ s1 = s ∧ ∀ v ∈ l, carriedByValue v = true) _ ?_ ?_ _ _ ⟨rfl, rfl, e3.byValue⟩
  · rintro v l r s1 ⟨z, rfl, al⟩
    obtain ⟨g, eg⟩ := val_hb 7 (al v List.mem_cons_self)
    rw [eg]
    refine wpAny_bind (wpAny_pure ?_)
    cases g with
    | true =>
      simp only [Bool.not_true, Bool.false_eq_true, if_false]
      exact wpAny_pure ⟨rfl, rfl, fun u hu => al u (List.mem_cons_of_mem _ hu)⟩
    | false =>
      simp only [Bool.not_false, if_true]
      exact wpAny_pure (wpAny_pure (q _))
  · rintro ⟨r1, r2⟩ s1 ⟨z, rfl, _⟩
    simp only at z
    subst z
    exact wpAny_pure (q _)
/-- looking among tuples can't be seen -/
theorem tk_unseen {k : List κ} {b : Addr} {Q : Bool → Shared → Prop} (x : IsTupleKey kk s.heap k b) {ys : List Value} (al : ∀ y ∈ ys, ∃ k2 c, y = Value.ref c ∧ IsTupleKey kk s.heap k2 c) (q : Q false s) :
    wpAny (model P w) A (searchCouldBeSeen (.ref b) ys) Q E s := by
  unfold searchCouldBeSeen
  refine wpAny_bind ?_
  refine wpAny_forIn_list _ (fun l r s1 => r.1 = none ∧ s1 = s ∧ ∀ y ∈ l, ∃ k2 c, y = Value.ref c ∧ IsTupleKey kk s.heap k2 c) _ ?_ ?_ _ _ ⟨rfl, rfl, al⟩
  · rintro v l r s1 ⟨z, rfl, al⟩
    obtain ⟨k2, c, rfl, y⟩ := al v List.mem_cons_self
    have al2 : ∀ y ∈ l, ∃ k2 c, y = Value.ref c ∧ IsTupleKey kk s1.heap k2 c := fun u hu => al u (List.mem_cons_of_mem _ hu)
    dsimp only
    by_cases same : (b == c || (carriedByValue (.ref b) && carriedByValue (.ref c))) = true
    · refine wp_if_pos same ?_
      exact wpAny_pure ⟨rfl, rfl, al2⟩
    · refine wp_if_neg same ?_
      refine wpAny_bind (wpAny_eqIsQuiet_tuple x ?_)
      simp only [Bool.not_true, Bool.false_eq_true, if_false]
      refine wpAny_bind (wpAny_eqIsQuiet_tuple y ?_)
      simp only [Bool.not_true, Bool.false_eq_true, if_false]
      refine wpAny_bind (tk_ofA x ?_)
      simp only [Bool.false_eq_true, if_false]
      refine wpAny_bind (tk_ofA y ?_)
      simp only [Bool.false_eq_true, if_false]
      exact wpAny_pure ⟨rfl, rfl, al2⟩
  · rintro ⟨r1, r2⟩ s1 ⟨z, rfl, _⟩
    simp only at z
    subst z
    exact wpAny_pure q
/-! ### a set of them -/
abbrev Mem (κ : Type) := List (Addr × List κ)
def rws (kk : KeyKind P w κ) (L : Mem κ) : List (Int × Value) := L.map fun p => (hsh kk p.2, Value.ref p.1)
structure SetK (kk : KeyKind P w κ) (h : Heap) (a : Addr) (L : Mem κ) (es : Array (Int × Value)) (ep : Nat) (t : SetTable) : Prop where
  ob : ∃ o, h.get? a = some o ∧ o.ExactSet ∧ o.data = .set es ep t
  rows : es.toList = rws kk L
  tab : TabOk t (L.map fun p => hsh kk p.2)
  nd : (L.map (·.2)).Nodup
  tup : ∀ p ∈ L, IsTupleKey kk h p.2 p.1
  led : w.params.followText "set-order" = true ∨ t.led = true
  room : L.length * 5 < t.mask * 3
  few : L.length < 64
theorem rws_len {es : Array (Int × Value)} {L : Mem κ} (e : es.toList = rws kk L) : es.size = L.length := by
  rw [← Array.length_toList, e, rws, List.length_map]
variable {a : Addr} {L : Mem κ} {es : Array (Int × Value)} {ep : Nat} {t : SetTable}
theorem SetK.size (R : SetK kk s.heap a L es ep t) : es.size = L.length := rws_len R.rows
theorem fits_of {t : SetTable} {n : Nat} (h1 : t.place.size = n) (h2 : t.dummies = #[]) (h3 : n ≤ t.mask) : t.fits n = true := by
  unfold SetTable.fits SetTable.fill
  rw [h2, Bool.and_eq_true, beq_iff_eq, decide_eq_true_eq]
  exact ⟨h1, by show t.place.size + 0 ≤ t.mask; omega⟩
theorem SetK.places (R : SetK kk s.heap a L es ep t) : t.place.size = L.length := by
  have := R.tab.sz
  rwa [List.length_map] at this
theorem SetK.fits (R : SetK kk s.heap a L es ep t) : t.fits es.size = true := by
  have h2 := R.size
  have h3 := R.room
  have h4 := R.places
  exact fits_of (by omega) R.tab.dm (by omega)
theorem SetK.entry (R : SetK kk s.heap a L es ep t) {i : Nat} {p : Addr × List κ} (e : L[i]? = some p) : es[i]? = some (hsh kk p.2, Value.ref p.1) := by
  rw [← Array.getElem?_toList, R.rows, rws, List.getElem?_map, e, Option.map_some]
theorem SetK.gw (R : SetK kk s.heap a L es ep t) : ¬ t.gaveWay = true := by
  unfold SetTable.gaveWay
  rw [mask_odd R.tab.mok]
  decide
abbrev p0 (t : SetTable) (h : Int) : SetTable.Probe := runAt t.mask (SetTable.bits h % (t.mask + 1)) (SetTable.bits h)
theorem nth_dm (m : Nat) : ∀ (n : Nat) (p : SetTable.Probe), p.dummy = none → (nth m p n).dummy = none := by
  intro n
  induction n with
  | zero => intro p h; exact h
  | succ n ih =>
    intro p h
    refine ih (adv m p) ?_
    unfold adv
    split <;> exact h
/-- the look for k, from the c-th place of its way on -/
theorem look_from (R : SetK kk s.heap a L es ep t) {x : Addr} {k : List κ} (hx : IsTupleKey kk s.heap k x) (hu : A.units < cLine) {n : Nat} (hn : n < 10 * SetTable.turns t.mask)
    (free : way t.mask (hsh kk k) n ∉ t.place.toList) (full : ∀ c, c < n → way t.mask (hsh kk k) c ∈ t.place.toList) {Q : SetFound → Shared → Prop}
    (yes : k ∈ L.map (·.2) → Q (.there none) s) (no : k ∉ L.map (·.2) → Q (.free (way t.mask (hsh kk k) n) false) s) :
    ∀ (f c : Nat) (st : Option SetTable.Probe), st.getD (t.probeStart (hsh kk k)) = nth t.mask (p0 t (hsh kk k)) c → c ≤ n → n - c < f →
      (∀ (i : Nat) p, L[i]? = some p → p.2 = k → ∃ d, c ≤ d ∧ d < n ∧ t.place.toList[i]? = some (way t.mask (hsh kk k) d)) →
      wpAny (model P w) A (setSearchFrom a (.ref x) (hsh kk k) true f st) Q E s
  | 0, _, _, _, _, z, _ => absurd z (Nat.not_lt_zero _)
  | f + 1, c, st, est, hc, hf, ahead => by
    obtain ⟨o, ho, hex, hd⟩ := R.ob
    rw [setSearchFrom_succ]
    refine wpAny_bind (wpAny_setState_of ho hd R.fits ?_)
    dsimp only
    refine wp_if_neg R.gw ?_
    try refine wpAny_bind (wpAny_pure ?_)
    have go : ∀ q, nth t.mask (nth t.mask (p0 t (hsh kk k)) c) q = nth t.mask (p0 t (hsh kk k)) (c + q) := fun q => (nth_add t.mask c _ q).symm
    have goj : ∀ q, (nth t.mask (nth t.mask (p0 t (hsh kk k)) c) q).j = way t.mask (hsh kk k) (c + q) := fun q => congrArg SetTable.Probe.j (go q)
    have way_n : way t.mask (hsh kk k) n = (nth t.mask (nth t.mask (p0 t (hsh kk k)) c) (n - c)).j := by rw [goj, Nat.add_sub_cancel' hc]
    have at_h : ∀ (i : Nat) p, L[i]? = some p → (es[i]?.map (·.1)).getD 0 = hsh kk p.2 := fun i p hp => by rw [R.entry hp]; rfl
    have spec := go_spec t R.tab.ris R.tab.dm (fun i => (es[i]?.map (·.1)).getD 0) (hsh kk k) (10 * SetTable.turns t.mask) (n - c) _ (nth_dm t.mask c (p0 t (hsh kk k)) rfl) (by omega)
      (fun q hq => by rw [goj]; exact full _ (by omega)) (by rw [← way_n]; exact free)
    rcases spec with ⟨q, i, hq, hi, hh, skipped, pr⟩ | ⟨skipped, pr⟩
    · have pr1 : t.probe (fun i => (es[i]?.map (·.1)).getD 0) (hsh kk k) (st.getD (t.probeStart (hsh kk k))) = some (.candidate (way t.mask (hsh kk k) (c + q)) i (nth t.mask (p0 t (hsh kk k)) (c + (q + 1)))) := by
        rw [est, ← goj, ← go]
        exact pr
      rw [pr1]
      dsimp only
      rw [goj] at hi
      have hil : i < L.length := by
        have z1 : i < t.place.toList.length := (List.getElem?_eq_some_iff.mp hi).1
        rw [Array.length_toList, R.places] at z1
        exact z1
      obtain ⟨p, hp⟩ : ∃ p, L[i]? = some p := ⟨_, List.getElem?_eq_getElem hil⟩
      have hm : p ∈ L := List.mem_of_getElem? hp
      have body : wpAny (model P w) A (searchRest a (.ref x) (hsh kk k) true f es t (way t.mask (hsh kk k) (c + q)) i (nth t.mask (p0 t (hsh kk k)) (c + (q + 1)))) Q E s := by
        unfold searchRest
        rw [R.entry hp]
        dsimp only
        refine wpAny_bind (wpAny_holding (wpAny_eqBool_tuple hu (R.tup p hm) hx ?_))
        refine wpAny_bind (wpAny_setState_of ho hd R.fits ?_)
        dsimp only
        by_cases ek : p.2 = k
        · refine wp_if_pos (by simp [ek]) ?_
          exact wpAny_pure (yes (List.mem_map.mpr ⟨p, hm, ek⟩))
        · refine wp_if_neg (by simp [ek]) ?_
          try refine wpAny_bind (wpAny_pure ?_)
          rw [sameMem]
          dsimp only
          have live : t.slot (way t.mask (hsh kk k) (c + q)) = .live i := slot_live R.tab.ris hi
          simp only [if_true, live, R.entry hp]
          refine wpAny_bind (wpAny_isSame_ref_self (wpAny_bind (wpAny_pure ?_)))
          simp only [if_true]
          refine wp_if_neg (by simp [ek]) ?_
          refine look_from R hx hu hn free full yes no f (c + (q + 1)) _ rfl (by omega) (by omega) fun i1 p1 l1 k1 => ?_
          obtain ⟨d, d1, d2, d3⟩ := ahead i1 p1 l1 k1
          refine ⟨d, ?_, d2, d3⟩
          refine Nat.lt_of_not_le fun le => ?_
          have le : d ≤ c + q := le
          rcases Nat.eq_or_lt_of_le le with eq | lt
          · rw [eq] at d3
            have l2 := slot_live R.tab.ris d3
            rw [live] at l2
            injection l2 with l2
            rw [← l2, hp] at l1
            exact ek ((congrArg Prod.snd (Option.some.inj l1)).trans k1)
          · refine skipped (d - c) i1 (by omega) (by rw [goj, Nat.add_sub_cancel' d1]; exact d3) ?_
            exact (at_h i1 p1 l1).trans (congrArg (hsh kk) k1)
      by_cases hl : t.led = true
      · refine wp_if_neg (by simp [hl]) ?_
        try refine wpAny_bind (wpAny_pure ?_)
        exact body
      · refine wp_if_pos (by simp [hl]) ?_
        refine wpAny_bind (tk_unseen hx (fun y hy => ?_) ?_)
        · obtain ⟨e, he, ee⟩ := List.mem_map.mp hy
          have he1 : e ∈ es ∧ e.1 = hsh kk k := by simpa using he
          have he2 : e ∈ es.toList := by simpa using he1.1
          rw [R.rows] at he2
          obtain ⟨p2, hp2, e2⟩ := List.mem_map.mp he2
          exact ⟨p2.2, p2.1, by rw [← ee, ← e2], R.tup p2 hp2⟩
        · refine wp_if_neg (by decide) ?_
          try refine wpAny_bind (wpAny_pure ?_)
          exact body
    · have pr1 : t.probe (fun i => (es[i]?.map (·.1)).getD 0) (hsh kk k) (st.getD (t.probeStart (hsh kk k))) = some (.empty (way t.mask (hsh kk k) n) none) := by
        rw [est, way_n]
        exact pr
      rw [pr1]
      dsimp only
      refine wpAny_pure (no fun hm => ?_)
      obtain ⟨p1, m1, k1⟩ := List.mem_map.mp hm
      obtain ⟨i1, l1⟩ := List.mem_iff_getElem?.mp m1
      obtain ⟨d, d1, d2, d3⟩ := ahead i1 p1 l1 k1
      refine skipped (d - c) i1 (by omega) (by rw [goj, Nat.add_sub_cancel' d1]; exact d3) ?_
      exact (at_h i1 p1 l1).trans (congrArg (hsh kk) k1)
/-- the whole look -/
theorem look_at (R : SetK kk s.heap a L es ep t) {x : Addr} {k : List κ} (hx : IsTupleKey kk s.heap k x) (hu : A.units < cLine) {Q : SetFound → Shared → Prop}
    (yes : k ∈ L.map (·.2) → Q (.there none) s)
    (no : ∀ n, k ∉ L.map (·.2) → way t.mask (hsh kk k) n ∉ t.place.toList → (∀ c, c < n → way t.mask (hsh kk k) c ∈ t.place.toList) → Q (.free (way t.mask (hsh kk k) n) false) s) :
    wpAny (model P w) A (setSearch a (.ref x) (hsh kk k) true) Q E s := by
  have room := R.room
  obtain ⟨n, hn, free, full⟩ := R.tab.first (by rw [List.length_map]; omega) (hsh kk k)
  have small : n < 100000 := by
    have : 10 * SetTable.turns t.mask ≤ 1420 := by
      unfold SetTable.turns
      rcases R.tab.mok with e | e | e <;> omega
    omega
  unfold setSearch
  refine look_from R hx hu hn free full yes (fun z => no n z free full) 100000 0 none rfl (Nat.zero_le _) (by omega) fun i p hp hk => ?_
  have z : (L.map fun p => hsh kk p.2)[i]? = some (hsh kk k) := by rw [List.getElem?_map, hp, Option.map_some, hk]
  have hil : i < t.place.toList.length := by
    rw [Array.length_toList, R.places]
    exact (List.getElem?_eq_some_iff.mp hp).1
  have hj := List.getElem?_eq_getElem hil
  obtain ⟨c, hc, e⟩ := R.tab.before free z hj
  exact ⟨c, Nat.zero_le _, hc, by rw [hj, e]⟩
end
end Mir

set_option Elab.async false
set_option linter.all false
set_option maxRecDepth 100000
set_option maxHeartbeats 4000000
namespace Mir
open PySem PySem.Spec PyProof.Rows L2
section
variable {P : Program} {w : World} {κ : Type} [DecidableEq κ] {kk : KeyKind P w κ} {A : Around} {E : Value → Shared → Prop} {s : Shared}
theorem tk_keep {h h1 : Heap} {k : List κ} {b : Addr} (x : IsTupleKey kk h k b) (q : ∀ c o, h.get? c = some o → h1.get? c = some o) : IsTupleKey kk h1 k b := by
  obtain ⟨o, its, n, ho, r⟩ := x
  exact ⟨o, its, n, q b o ho, r⟩
/-- a tuple is no set -/
theorem tk_same {h h1 : Heap} {k : List κ} {a b : Addr} {o : Obj} {es : Array (Int × Value)} {ep : Nat} {t : SetTable} (x : IsTupleKey kk h k b) (ho : h.get? a = some o) (hd : o.data = .set es ep t) (q : Heap.SameBut a h h1) : IsTupleKey kk h1 k b := by
  obtain ⟨o2, its, n, e, c, d, r⟩ := x
  have ne : b ≠ a := fun z => by
    subst z
    rw [ho] at e
    cases e
    rw [hd] at d
    cases d
  exact ⟨o2, its, n, (q.2 b ne).trans e, c, d, r⟩
theorem rws_put (L : Mem κ) (p : Nat) (x : Addr) (k : List κ) : rws kk (L.take p ++ (x, k) :: L.drop p) = (rws kk L).take p ++ (hsh kk k, Value.ref x) :: (rws kk L).drop p := by
  simp only [rws, List.map_append, List.map_cons, List.map_take, List.map_drop]
/-- the rows in another order -/
theorem rws_order (L : Mem κ) (es : Array (Int × Value)) (ord : Array Nat) (e : es.toList = rws kk L) (pm : ord.toList.Perm (List.range L.length)) :
    ∃ M, (ord.filterMap (es[·]?)).toList = rws kk M ∧ M.Perm L ∧ (M.map fun p => hsh kk p.2) = ord.toList.map fun i => (es.map (·.1)).getD i 0 := by
  have sz : es.size = L.length := rws_len e
  have row : ∀ i (z : i < L.length), es[i]? = some (hsh kk (L[i]).2, Value.ref (L[i]).1) := fun i z => by
    rw [← Array.getElem?_toList, e, rws, List.getElem?_map, List.getElem?_eq_getElem z, Option.map_some]
  have pick : ∀ l : List Nat, (∀ i ∈ l, i < L.length) → ∃ M : Mem κ, l.filterMap (fun i => es[i]?) = rws kk M ∧ M = l.filterMap (fun i => L[i]?) ∧ (M.map fun p => hsh kk p.2) = l.map fun i => (es.map (·.1)).getD i 0 := by
    intro l
    induction l with
    | nil => exact fun _ => ⟨[], rfl, rfl, rfl⟩
    | cons i l ih =>
      intro al
      have hi := al i List.mem_cons_self
      obtain ⟨M, m1, m2, m3⟩ := ih fun j hj => al j (List.mem_cons_of_mem _ hj)
      have m4 : (es.map (·.1)).getD i 0 = hsh kk (L[i]).2 := by
        have m5 : (es.map (·.1))[i]? = some (hsh kk (L[i]).2) := by rw [Array.getElem?_map, row i hi, Option.map_some]
        rw [Array.getD_eq_getD_getElem?, m5, Option.getD_some]
      exact ⟨L[i] :: M, by rw [List.filterMap_cons_some (row i hi), m1]; rfl, by rw [List.filterMap_cons_some (List.getElem?_eq_getElem hi), m2], by rw [List.map_cons, List.map_cons, m3, m4]⟩
  obtain ⟨M, m1, m2, m3⟩ := pick ord.toList fun i hi => List.mem_range.mp (pm.mem_iff.mp hi)
  refine ⟨M, by simpa using m1, ?_, m3⟩
  have whole : (List.range L.length).filterMap (fun i => L[i]?) = L := by
    have upto : ∀ n, n ≤ L.length → (List.range n).filterMap (fun i => L[i]?) = L.take n := by
      intro n
      induction n with
      | zero => exact fun _ => rfl
      | succ n ih =>
        intro hn
        rw [List.range_succ, List.filterMap_append, ih (Nat.le_of_lt hn), List.take_succ, List.getElem?_eq_getElem hn, List.filterMap_cons_some (List.getElem?_eq_getElem hn)]
        rfl
    rw [upto _ (Nat.le_refl _), List.take_length]
  have z := pm.filterMap fun i => L[i]?
  rwa [whole, ← m2] at z
variable {a : Addr} {L : Mem κ} {es : Array (Int × Value)} {ep : Nat} {t : SetTable}
/-- laid anew, larger -/
theorem relayK {o : Obj} (ho : s.heap.get? a = some o) (hex : o.ExactSet) (hd : o.data = .set es ep t) (e : es.toList = rws kk L) (hp : t.place.size = es.size) (hm : t.dummies = #[]) (hle : es.size ≤ t.mask)
    (nd : (L.map (·.2)).Nodup) (tup : ∀ p ∈ L, IsTupleKey kk s.heap p.2 p.1) (ld : w.params.followText "set-order" = true ∨ t.led = true) (few : L.length < 64) {wanted M : Nat}
    (hw : SetTable.sizeAbove wanted - 1 = M) (hM : MaskOk M) (hw2 : SetTable.sizeAbove wanted ≤ 128) (hn : L.length * 5 < M * 3) {Q : Unit → Shared → Prop}
    (q : ∀ h1 L1 es1 ep1 t1, Heap.SameBut a s.heap h1 → SetK kk h1 a L1 es1 ep1 t1 → L1.Perm L → Q () { s with heap := h1 }) : wpAny (model P w) A (setRelay a wanted) Q E s := by
  have sz : es.size = L.length := rws_len e
  obtain ⟨t1, ord, er, pm, T, em, el, _, _⟩ := relaid_ok t (hs := es.map (·.1)) (wanted := wanted) hw hM (by rw [Array.size_map, sz]; omega)
  rw [Array.size_map, sz] at pm
  obtain ⟨L1, r1, r2, r3⟩ := rws_order L es ord e pm
  rw [← r3] at T
  have sz1 : (ord.filterMap (es[·]?)).size = es.size := by rw [rws_len r1, r2.length_eq, sz]
  rw [setRelay_eq]
  refine wpAny_bind (wpAny_setState_of ho hd (fits_of hp hm hle) ?_)
  dsimp only
  refine wp_if_neg (by rw [sizeLine_eq]; omega) ?_
  try refine wpAny_bind (wpAny_pure ?_)
  rw [er]
  dsimp only
  refine wpAny_bind ?_
  refine wp_if_neg (by rw [sz1]; simp) ?_
  try refine wpAny_bind (wpAny_pure ?_)
  refine wpAny_pure ?_
  dsimp only
  refine wpAny_storeSet_of ho hd ?_ (by rw [sz1, sz, sizeLine_eq]; omega)
  have same : Heap.SameBut a s.heap (s.heap.update a (Obj.putSet (ord.filterMap (es[·]?)) t1)) := Heap.SameBut.update ..
  exact q _ L1 _ (ep + 1) t1 same ⟨⟨_, store_at ho hd, ⟨hex.1, hex.2.1, hex.2.2⟩, rfl⟩, r1, T, (r2.map (·.2)).nodup_iff.mpr nd, fun p z => tk_same (tup p (r2.mem_iff.mp z)) ho hd same, by rw [el]; exact ld, by rw [r2.length_eq, em]; exact hn, by rw [r2.length_eq]; exact few⟩ r2
theorem nodup_in {α : Type} (L : List α) (p : Nat) (x : α) : (L.take p ++ x :: L.drop p).Perm (x :: L) := by
  have z : (L.take p ++ x :: L.drop p).Perm (x :: (L.take p ++ L.drop p)) := List.perm_middle
  rwa [List.take_append_drop] at z
/-- one more -/
theorem addK (R : SetK kk s.heap a L es ep t) {x : Addr} {k : List κ} (hx : IsTupleKey kk s.heap k x) (hu : A.units < cLine) (few : L.length + 1 < 64) {Q : Bool → Shared → Prop}
    (q : ∀ b h1 L1 es1 ep1 t1, Heap.SameBut a s.heap h1 → SetK kk h1 a L1 es1 ep1 t1 → (k ∈ L.map (·.2) → L1 = L) → (k ∉ L.map (·.2) → L1.Perm ((x, k) :: L)) → Q b { s with heap := h1 }) :
    wpAny (model P w) A (setAddHashed a (.ref x) (hsh kk k)) Q E s := by
  obtain ⟨o, ho, hex, hd⟩ := R.ob
  have sz := R.size
  have room := R.room
  unfold setAddHashed
  refine wpAny_holding ?_
  rw [show (100000 : Nat) = 99999 + 1 from rfl, setAddHashedIn_succ]
  refine wpAny_bind (wpAny_setState_of ho hd R.fits ?_)
  dsimp only
  refine wp_if_neg (by simp [byScan, Value.scannable]) ?_
  try refine wpAny_bind (wpAny_pure ?_)
  refine wpAny_bind (look_at R hx hu (fun here => ?_) fun n absent free full => ?_)
  · dsimp only
    exact wpAny_pure (q false s.heap L es ep t (Heap.SameBut.refl a s.heap) R (fun _ => rfl) fun z => absurd here z)
  · dsimp only
    refine wpAny_bind (wpAny_setState_of ho hd R.fits ?_)
    dsimp only
    obtain ⟨q1, q2, q3, q4, q5, _, _, _, q9⟩ := R.tab.put free full
    generalize hpt : t.put (way t.mask (hsh kk k) n) = pt at q1 q3 q4 q5 q9 ⊢
    obtain ⟨t1, p⟩ := pt
    dsimp only at q1 q3 q4 q5 q9 ⊢
    subst q1
    have in1 : (SetTable.insertAt es (SetTable.below t.place (way t.mask (hsh kk k) n)) (hsh kk k, Value.ref x)).toList = rws kk (L.take (SetTable.below t.place (way t.mask (hsh kk k) n)) ++ (x, k) :: L.drop (SetTable.below t.place (way t.mask (hsh kk k) n))) := by
      rw [SetTable.toList_insertAt, rws_put, R.rows]
    generalize hpp : SetTable.below t.place (way t.mask (hsh kk k) n) = p at q2 q3 in1 ⊢
    have pm := nodup_in L p (x, k)
    have len1 : (L.take p ++ (x, k) :: L.drop p).length = L.length + 1 := pm.length_eq
    have hs1 : (L.take p ++ (x, k) :: L.drop p).map (fun p => hsh kk p.2) = (L.map fun p => hsh kk p.2).take p ++ hsh kk k :: (L.map fun p => hsh kk p.2).drop p := by
      rw [List.map_append, List.map_cons, List.map_take, List.map_drop]
    rw [← hs1] at q3
    have nd1 : ((L.take p ++ (x, k) :: L.drop p).map (·.2)).Nodup := (pm.map (·.2)).nodup_iff.mpr (List.nodup_cons.mpr ⟨absent, R.nd⟩)
    have sz1 : (SetTable.insertAt es p (hsh kk k, Value.ref x)).size = L.length + 1 := by rw [rws_len in1, len1]
    generalize SetTable.insertAt es p (hsh kk k, Value.ref x) = es1 at in1 sz1 ⊢
    generalize L.take p ++ (x, k) :: L.drop p = L1 at pm len1 q3 nd1 in1
    -- the table keeps what matters, whether it stays plain or not
    have rest : ∀ t2 : SetTable, t2.place = t1.place → t2.dummies = t1.dummies → t2.mask = t1.mask → t2.led = t1.led → t2.tooFull = t1.tooFull → TabOk t2 (L1.map fun p => hsh kk p.2) →
        wpAny (model P w) A (storeSet a es1 t2) (fun _ s1 => wpAny (model P w) A (do
          if !false && t2.tooFull then setRelay a (SetTable.grown (es.size + 1))
          return true) Q E s1) E s := fun t2 g1 g2 g3 g4 g5 T2 => by
      refine wpAny_storeSet_of ho hd ?_ (by rw [sz1, sizeLine_eq]; omega)
      have same : Heap.SameBut a s.heap (s.heap.update a (Obj.putSet es1 t2)) := Heap.SameBut.update ..
      have ho1 := store_at (es' := es1) (t' := t2) ho hd
      generalize s.heap.update a (Obj.putSet es1 t2) = h1 at same ho1 ⊢
      have tup1 : ∀ p ∈ L1, IsTupleKey kk h1 p.2 p.1 := fun p hp => by
        rcases List.mem_cons.mp (pm.mem_iff.mp hp) with e | hp
        · rw [e]; exact tk_same hx ho hd same
        · exact tk_same (R.tup p hp) ho hd same
      have ld1 : w.params.followText "set-order" = true ∨ t2.led = true := by rw [g4, q5]; exact R.led
      by_cases hf : t2.tooFull = true
      · first
          | (refine wpAny_bind ?_; refine wp_if_pos (by simp [hf]) ?_)
          | (refine wp_if_pos (by simp [hf]) ?_; refine wpAny_bind ?_)
        have over : (L.length + 1) * 5 ≥ t1.mask * 3 := by
          have z := hf
          rw [g5] at z
          unfold SetTable.tooFull at z
          rw [decide_eq_true_eq, q9, List.length_map] at z
          exact z
        rw [sz]
        have place1 : t2.place.size = es1.size := by
          have z := T2.sz
          rw [List.length_map, len1] at z
          rw [z, sz1]
        have which : (t.mask = 7 ∧ L.length = 4) ∨ (t.mask = 31 ∧ L.length = 18) := by
          rcases R.tab.mok with e | e | e
          · left; rw [q4, e] at over; rw [e] at room; exact ⟨e, by omega⟩
          · right; rw [q4, e] at over; rw [e] at room; exact ⟨e, by omega⟩
          · exfalso; rw [q4, e] at over; omega
        have go : ∀ M, SetTable.sizeAbove (SetTable.grown (L.length + 1)) - 1 = M → MaskOk M → SetTable.sizeAbove (SetTable.grown (L.length + 1)) ≤ 128 → (L.length + 1) * 5 < M * 3 →
            wpAny (model P w) A (setRelay a (SetTable.grown (L.length + 1))) (fun _ s1 => wpAny (model P w) A (pure true) Q E s1) E { s with heap := h1 } := fun M m1 m2 m3 m4 => by
          refine relayK (s := { s with heap := h1 }) ho1 ⟨hex.1, hex.2.1, hex.2.2⟩ rfl in1 place1 T2.dm (by rw [sz1, g3, q4]; rcases which with ⟨e, e2⟩ | ⟨e, e2⟩ <;> omega) nd1 tup1 ld1 (by rw [len1]; exact few) m1 m2 m3 (by rw [len1]; exact m4) ?_
          intro h2 L2 es2 ep2 t2 same2 R2 pm2
          exact wpAny_pure (q true h2 L2 es2 ep2 t2 (same.trans same2) R2 (fun z => absurd z absent) fun _ => pm2.trans pm)
        rcases which with ⟨_, e2⟩ | ⟨_, e2⟩
        · exact go 31 (by rw [e2, size_20]) (.inr (.inl rfl)) (by rw [e2, size_20]; decide) (by omega)
        · exact go 127 (by rw [e2, size_76]) (.inr (.inr rfl)) (by rw [e2, size_76]; decide) (by omega)
      · first
          | refine wp_if_neg (by simp [hf]) ?_
          | (refine wpAny_bind ?_; refine wp_if_neg (by simp [hf]) ?_; refine wpAny_pure ?_)
        refine wpAny_pure (q true h1 L1 es1 (ep + 1) t2 same ⟨⟨_, ho1, ⟨hex.1, hex.2.1, hex.2.2⟩, rfl⟩, in1, T2, nd1, tup1, ld1, ?_, by rw [len1]; exact few⟩ (fun z => absurd z absent) fun _ => pm)
        have z := hf
        rw [g5] at z
        unfold SetTable.tooFull at z
        rw [decide_eq_true_eq, q9, List.length_map] at z
        rw [len1, g3]
        omega
    have done : ∀ r : Bool, wpAny (model P w) A (storeSet a es1 (if r = true then t1 else { t1 with plain := false })) (fun _ s1 => wpAny (model P w) A (do
          if !false && (if r = true then t1 else { t1 with plain := false }).tooFull then setRelay a (SetTable.grown (es.size + 1))
          return true) Q E s1) E s := fun r => by
      cases r
      · exact rest { t1 with plain := false } rfl rfl rfl rfl rfl ⟨q3.ris, q3.dm, q3.sz, q3.mok, q3.bd, q3.reach⟩
      · exact rest t1 rfl rfl rfl rfl rfl q3
    by_cases hpl : t1.plain = true
    · first
        | (refine wpAny_bind ?_; refine wp_if_pos hpl ?_; refine tk_hb hx fun r => ?_)
        | refine wp_if_pos hpl (wpAny_bind (tk_hb hx fun r => ?_))
      refine wpAny_bind ?_
      exact done r
    · first
        | (refine wpAny_bind ?_; refine wp_if_neg hpl ?_; refine wpAny_pure ?_)
        | refine wp_if_neg hpl (wpAny_bind (wpAny_pure ?_))
        | refine wp_if_neg hpl ?_
      refine wpAny_bind ?_
      exact done true
end
end Mir

set_option Elab.async false
set_option linter.all false
set_option maxRecDepth 100000
set_option maxHeartbeats 4000000
namespace Mir
open PySem PySem.Spec PyProof.Rows L2
/-- what has come in from the first i -/
structure In1 {κ : Type} (ks : Mem κ) (i : Nat) (L : Mem κ) : Prop where
  sub : ∀ p ∈ L, p ∈ ks.take i
  all : ∀ p ∈ ks.take i, p.2 ∈ L.map (·.2)
  len : L.length ≤ i
theorem In1.zero {κ : Type} (ks : Mem κ) : In1 ks 0 [] := ⟨fun p z => (by cases z), fun p z => (by simp at z), Nat.le_refl _⟩
theorem take_one {α : Type} {l : List α} {i : Nat} {x : α} (e : l[i]? = some x) : l.take (i + 1) = l.take i ++ [x] := by
  rw [List.take_add_one, e, Option.toList_some]
theorem In1.old {κ : Type} {ks L : Mem κ} {i : Nat} {x : Addr × List κ} (g : In1 ks i L) (e : ks[i]? = some x) (m : x.2 ∈ L.map (·.2)) : In1 ks (i + 1) L := by
  refine ⟨fun p z => ?_, fun p z => ?_, Nat.le_succ_of_le g.len⟩
  · rw [take_one e]; exact List.mem_append_left _ (g.sub p z)
  · rw [take_one e, List.mem_append, List.mem_singleton] at z
    rcases z with z | rfl
    · exact g.all p z
    · exact m
theorem In1.new {κ : Type} {ks L M : Mem κ} {i : Nat} {x : Addr × List κ} (g : In1 ks i L) (e : ks[i]? = some x) (pm : M.Perm (x :: L)) : In1 ks (i + 1) M := by
  refine ⟨fun p z => ?_, fun p z => ?_, by rw [pm.length_eq, List.length_cons]; exact Nat.succ_le_succ g.len⟩
  · rw [take_one e, List.mem_append, List.mem_singleton]
    rcases List.mem_cons.mp (pm.mem_iff.mp z) with z | z
    · exact .inr z
    · exact .inl (g.sub p z)
  · rw [(pm.map (·.2)).mem_iff, List.map_cons]
    rw [take_one e, List.mem_append, List.mem_singleton] at z
    rcases z with z | rfl
    · exact List.mem_cons_of_mem _ (g.all p z)
    · exact List.mem_cons_self
section
variable {P : Program} {w : World} {κ : Type} [DecidableEq κ] {kk : KeyKind P w κ} {A : Around} {E : Value → Shared → Prop} {s : Shared}
theorem SetK.kept {h h1 : Heap} {a : Addr} {L : Mem κ} {es : Array (Int × Value)} {ep : Nat} {t : SetTable} (R : SetK kk h a L es ep t) (ha : ∀ o, h.get? a = some o → h1.get? a = some o) (ht : ∀ p ∈ L, IsTupleKey kk h1 p.2 p.1) : SetK kk h1 a L es ep t :=
  ⟨let ⟨o, ho, r⟩ := R.ob; ⟨o, ha o ho, r⟩, R.rows, R.tab, R.nd, ht, R.led, R.room, R.few⟩
abbrev tab0 (w : World) : SetTable := .fresh 0 0 (!w.params.followText "set-order")
abbrev obj0 (w : World) : Obj := { cls := .type "set", dict := none, data := .set #[] 0 (tab0 w) }
theorem setK_new {h : Heap} {a : Addr} (ho : h.get? a = some (obj0 w)) : SetK kk h a [] #[] 0 (tab0 w) := by
  refine ⟨⟨_, ho, ⟨rfl, rfl, rfl⟩, rfl⟩, rfl, ⟨List.Pairwise.nil, rfl, rfl, .inl rfl, fun x hx => (by cases hx), fun i h j hi => (by simp at hi)⟩, List.nodup_nil, fun p hp => (by cases hp), ?_, ?_, ?_⟩
  · show _ ∨ (!w.params.followText "set-order") = true
    cases w.params.followText "set-order"
    · exact .inr rfl
    · exact .inl rfl
  · show 0 * 5 < 7 * 3; decide
  · show 0 < 64; decide
/-- the loop that fills it -/
theorem fillK {I : Addr} {fp wr : List Addr} {G : Array GenState → Array GenState → Prop} {n : Nat} {Pv : Nat → Value → Prop} {St : Nat → Shared → Prop} {R : Result → Shared → Prop}
    (W : WalksS P w A.in1 I fp wr G n Pv St) (S : Addr) (away : S ∉ fp) (ks : Mem κ) (hn : n = ks.length) (few : ks.length < 64) (val : ∀ i v, Pv i v → ∃ p, ks[i]? = some p ∧ v = .ref p.1)
    (h0 : Heap) (hk : ∀ p ∈ ks, IsTupleKey kk h0 p.2 p.1) (hS0 : h0.get? S = none) (hw0 : ∀ b ∈ wr, h0.get? b = none) (hu : A.in1.units < cLine) :
    ∀ (m i : Nat) (s : Shared), n - i = m → i ≤ n → St i s → (∀ b o, h0.get? b = some o → s.heap.get? b = some o) → (∃ L es ep t, SetK kk s.heap S L es ep t ∧ In1 ks i L) →
      (∀ s1 L es ep t, Moved (S :: wr) G s s1 → SetK kk s1.heap S L es ep t → In1 ks n L → (∀ b o, h0.get? b = some o → s1.heap.get? b = some o) → R (.ok (.ret .none)) s1) →
      codeAny (model P w) A (.builtin "set.update.loop" ⟨[.ref S, .ref I], []⟩) R s := by
  have away2 : S ∉ wr := fun z => away (W.sub _ z)
  have more : ∀ b ∈ wr, b ∈ S :: wr := fun b hb => List.mem_cons_of_mem _ hb
  have stay : ∀ {s s1 : Shared}, Moved wr G s s1 → (∀ b o, h0.get? b = some o → s.heap.get? b = some o) → ∀ b o, h0.get? b = some o → s1.heap.get? b = some o := fun mv kp b o e =>
    mv.heap b o (fun hb => by rw [hw0 b hb] at e; cases e) (kp b o e)
  intro m
  induction m with
  | zero =>
    intro i s em hi hst kp ⟨L, es, ep, t, hS, g⟩ hR
    have ein : i = n := by omega
    subst ein
    refine codeAny_builtin F.entry_set_update_loop ?_
    rw [Around.under_plainId F.plain_set_update_loop _]
    show wpAny _ A.in1 (pyNext (.ref I) >>= _) _ _ s
    refine wpAny_bind (W.done s _ _ hst fun s1 mv => ?_)
    show wpAny _ A.in1 (ret Value.none) _ _ s1
    have kp1 := stay mv kp
    have ss : ∀ p ∈ L, p ∈ ks := fun p hp => List.mem_of_mem_take (g.sub p hp)
    exact wpAny_pure (hR s1 L es ep t (mv.mono more) (hS.kept (fun o e => mv.heap S o away2 e) fun p hp => tk_keep (hk p (ss p hp)) kp1) g kp1)
  | succ m ih =>
    intro i s em hi hst kp ⟨L, es, ep, t, hS, g⟩ hR
    have lt : i < n := by omega
    refine codeAny_builtin F.entry_set_update_loop ?_
    rw [Around.under_plainId F.plain_set_update_loop _]
    show wpAny _ A.in1 (pyNext (.ref I) >>= _) _ _ s
    refine wpAny_bind (W.item i s _ _ lt hst fun v s1 hP hst1 mv => ?_)
    obtain ⟨p, hp, rfl⟩ := val i v hP
    have kp1 := stay mv kp
    have ss : ∀ p ∈ L, p ∈ ks := fun p hp => List.mem_of_mem_take (g.sub p hp)
    have hS1 : SetK kk s1.heap S L es ep t := hS.kept (fun o e => mv.heap S o away2 e) fun q hq => tk_keep (hk q (ss q hq)) kp1
    have hx : IsTupleKey kk s1.heap p.2 p.1 := tk_keep (hk p (List.mem_of_getElem? hp)) kp1
    show wpAny _ A.in1 (holding [Value.ref p.1] (setAdd S (.ref p.1)) >>= _) _ _ s1
    refine wpAny_bind (wpAny_holding ?_)
    unfold setAdd
    refine wpAny_holding ?_
    refine wpAny_bind (wpAny_pyHash_tuple hu hx ?_)
    refine addK (s := { s1 with toks := s1.toks + (p.2.length + 1) }) hS1 hx hu (by have := g.len; omega) fun b h1 L1 es1 ep1 t1 same hS2 c1 c2 => ?_
    have g1 : In1 ks (i + 1) L1 := by
      rcases Classical.em (p.2 ∈ L.map (·.2)) with c | c
      · rw [c1 c]; exact g.old hp c
      · exact g.new hp (c2 c)
    have kp2 : ∀ b o, h0.get? b = some o → h1.get? b = some o := fun b o e => (same.2 b (fun z => by rw [z, hS0] at e; cases e)).trans (kp1 b o e)
    refine wpAny_pure ⟨plainId_quiet F.plain_set_update_loop _, ih (i + 1) _ (by omega) lt (W.frame _ s1 _ _ hst1 (Nat.le_add_right _ _) fun b hb o e => ?_) kp2 ⟨L1, es1, ep1, t1, hS2, g1⟩ fun s2 L2 es2 ep2 t2 mv2 hS3 g3 kp3 => ?_⟩
    · rw [same.2 b (fun z : b = S => away (by rw [← z]; exact hb))]; exact e
    · refine hR s2 L2 es2 ep2 t2 (Moved.trans W.gtrans ((mv.mono more).then_heap (Nat.le_add_right _ _) fun b o hb e => ?_) mv2) hS3 g3 kp3
      rw [same.2 b (fun z : b = S => hb (by rw [z]; exact List.mem_cons_self))]; exact e
set_option maxRecDepth 100000 in
set_option maxHeartbeats 3200000 in
/-- set(xs), xs a list of such tuples -/
theorem set_of {l : Addr} {its : Array Value} (ks : Mem κ) {Q : Value → Shared → Prop} (hh : A.handled = none) (hl : s.heap.IsList l its) (hit : its.toList = ks.map fun p => Value.ref p.1)
    (hk : ∀ p ∈ ks, IsTupleKey kk s.heap p.2 p.1) (few : ks.length < 64) (hu : A.units + 3 < cLine)
    (q : ∀ (h1 : Heap) (tk : Nat) L es ep t, SetK kk h1 s.heap.objs.size L es ep t → In1 ks ks.length L → (∀ b o, s.heap.get? b = some o → h1.get? b = some o) → Q (.ref s.heap.objs.size) { s with heap := h1, toks := tk }) :
    wpAny (model P w) A (call (.type "set") [.ref l]) Q E s := by
  have isz : its.size = ks.length := by rw [← Array.length_toList, hit, List.length_map]
  obtain ⟨c, tl, hmro⟩ := F.called_set.mro
  have made := F.called_set.made
  have subs := F.called_set.sub
  refine wpAny_call (codeAny_of_tree ?_)
  show wpAny _ _ (callAny (.type "set") _) _ _ _
  refine wpAny_pure ⟨Code.quiet_builtin _ (by decide +kernel), codeAny_builtin F.entry_type_call ?_⟩
  rw [Around.under_plain (weight_type_call_type "set" [.ref l] []) rfl]
  have b1 := F.called_set.notType
  have b2 := F.called_set.canCreate
  have b3 := F.typeCall_set_1 (.ref l)
  repeat (any_goals (first | assumption | wp_step))

  refine codeAny_mono (code_set_led1 (.ref l) (E := E) (Q₁ := fun obj s₁ => obj = .ref s.heap.objs.size ∧ s₁ = { s with heap := s.heap.push (obj0 w) }) ⟨rfl, rfl⟩) fun r s₁ hr => ?_
  cases r with
  | error e => exact hr
  | ok fl =>
    cases fl with
    | ret obj =>
      obtain ⟨rfl, rfl⟩ := hr
      have at0 : (s.heap.push (obj0 w)).get? s.heap.objs.size = some (obj0 w) := Heap.get?_push_size _ rfl
      have ty0 : Shared.TypeIs { s with heap := s.heap.push (obj0 w) } (.ref s.heap.objs.size) "set" := ⟨_, at0, rfl⟩
      have b4 := F.called_set.init.lookup
      have b5 := F.called_set.init.bind (.ref s.heap.objs.size)
      repeat (any_goals (first | assumption | wp_step))

      refine codeAny_mono (codeAny_call_builtin (R := wants (fun r s₂ => r = .none ∧ ∃ h1 tk L es ep t, s₂ = { s with heap := h1, toks := tk } ∧ SetK kk h1 s.heap.objs.size L es ep t ∧ In1 ks ks.length L ∧
          (∀ b o, s.heap.get? b = some o → h1.get? b = some o)) E) F.called_set.init.plain F.entry_set_init (check_set_init_1 ty0 ?_)) fun r₂ s₂ hr₂ => ?_
      · obtain ⟨ol, hol, hcl, nl, hdl⟩ := hl
        obtain ⟨ocls, odict, odata, oslots⟩ := ol
        simp only at hcl hdl
        subst hcl; subst hdl
        have hol1 : (s.heap.push (obj0 w)).get? l = some { cls := .type "list", dict := odict, data := .seq its nl, slots := oslots } := Heap.get?_push_of_some _ hol
        have b6 := F.sub_list_set
        have b7 := F.sub_list_frozenset
        have b8 : (Value.type "list" == Value.type "dict") = false := by decide
        have hl1 : (s.heap.push (obj0 w)).IsList l its := ⟨_, hol1, rfl, nl, rfl⟩
        unfold Builtin.«set.__init__» noKeywords Builtin.Frozenset.updateFrom
        generalize hPI : pyIter = PI
        wp_walk
        subst hPI

        refine wpAny_pyIter_list hl1 ?_
        refine wpAny_bind (wpAny_runValue ?_)
        have lS : l < s.heap.objs.size := Heap.lt_size hol
        have hh3 : A.in1.in1.in1.handled = none := by simp [hh]
        have z1 : (s.heap.push (obj0 w)).objs.size = s.heap.objs.size + 1 := Heap.size_push ..
        have neI : l ≠ (s.heap.push (obj0 w)).objs.size := by rw [z1]; exact Nat.ne_of_lt (Nat.lt_succ_of_lt lS)
        have awayS : s.heap.objs.size ∉ [(s.heap.push (obj0 w)).objs.size, l] := by
          rw [z1]; simp only [List.mem_cons, List.not_mem_nil, or_false, not_or]
          exact ⟨Nat.ne_of_lt (Nat.lt_succ_self _), Nat.ne_of_gt lS⟩
        have vals : ∀ (i : Nat) (v : Value), its[i]? = some v → ∃ p, ks[i]? = some p ∧ v = .ref p.1 := fun i v hv => by
          rw [← Array.getElem?_toList, hit, List.getElem?_map] at hv
          cases e : ks[i]? with
          | none => rw [e] at hv; cases hv
          | some p =>
            rw [e] at hv
            exact ⟨p, rfl, (Option.some.inj hv).symm⟩
        have beyond : ∀ b, s.heap.objs.size ≤ b → s.heap.get? b = none := fun b hb => by
          cases e : s.heap.get? b with
          | none => rfl
          | some o => exact absurd (Nat.lt_of_lt_of_le (Heap.lt_size e) hb) (Nat.lt_irrefl _)
        refine fillK ((Walks.list hh3 _ l neI its).toS) s.heap.objs.size
          awayS ks isz few vals s.heap hk (beyond _ (Nat.le_refl _)) (fun b hb => beyond b (by
            rw [List.mem_singleton.mp hb, z1]
            exact Nat.le_succ _)) hu (its.size - 0) 0 _ (by omega) (Nat.zero_le _)
          ⟨⟨_, Heap.get?_push_size _ rfl, rfl, rfl⟩, (hl1.push _)⟩ (fun b o e => Heap.get?_push_of_some _ (Heap.get?_push_of_some _ e)) ?start ?stop
        case start => exact ⟨[], #[], 0, _, setK_new (Heap.get?_push_of_some _ at0), In1.zero ks⟩
        case stop =>
          intro s1 L es ep t mv hS1 g1 kp
          obtain ⟨h1, g2, d1, tk1, os1⟩ := s1
          have eg : g2 = s.gens := mv.gens
          have ed : d1 = s.drawn := mv.drawn
          have eo : os1 = s.os := mv.os
          subst eg; subst ed; subst eo
          show wpAny _ _ _ _ _ _
          refine wpAny_pure ?_
          show wpAny _ _ (ret Value.none) _ _ _
          rw [isz] at g1
          exact wpAny_pure ⟨rfl, h1, tk1, L, es, ep, t, rfl, hS1, g1, kp⟩

      · cases r₂ with
        | error e => exact hr₂
        | ok fl₂ =>
          cases fl₂ with
          | ret r =>
            obtain ⟨rfl, h1, tk, L, es, ep, t, rfl, hS1, g1, kp⟩ := hr₂
            repeat (any_goals (first | assumption | wp_step))
            exact q _ _ _ _ _ _ hS1 g1 kp
          | _ => exact hr₂.elim
    | _ => exact hr.elim
end
end Mir

set_option Elab.async false
set_option linter.all false
set_option maxRecDepth 100000
set_option maxHeartbeats 4000000
namespace Mir
open PySem PySem.Spec PyProof.Rows L2
/-! ### the order of data -/
section
variable {β : Type} {k : β → PyData}
abbrev tlt (a b : PyData) : Bool := PyProof.Rows.lexLt PyProof.Rows.itemOrd (PySem.W.keyToks a) (PySem.W.keyToks b)
theorem dle_iff {a b : β} : PySem.W.dataLe false k a b = true ↔ tlt (k b) (k a) = false := by
  rw [PySem.W.dataLe_eq]
  show (!tlt (k b) (k a)) = true ↔ _
  cases tlt (k b) (k a) <;> simp
theorem tlt_asym {a b : PyData} (h : tlt a b = true) : tlt b a = false := by
  cases e : tlt b a with
  | false => rfl
  | true => exact absurd (PyProof.Rows.lex_trans _ _ _ h e) (by rw [PyProof.Rows.lex_irrefl]; decide)
theorem dle_total (a b : β) : (PySem.W.dataLe false k a b || PySem.W.dataLe false k b a) = true := by
  rw [Bool.or_eq_true, dle_iff, dle_iff]
  cases e : tlt (k a) (k b) with
  | true => exact .inl (tlt_asym e)
  | false => exact .inr rfl
theorem dle_trans (a b c : β) (h1 : PySem.W.dataLe false k a b = true) (h2 : PySem.W.dataLe false k b c = true) : PySem.W.dataLe false k a c = true := by
  rw [dle_iff] at h1 h2 ⊢
  cases e : tlt (k c) (k a) with
  | false => rfl
  | true =>
    rcases PyProof.Rows.lex_negTrans _ (PySem.W.keyToks (k b)) _ e with z | z
    · exact absurd z (by rw [show PyProof.Rows.lexLt _ _ _ = _ from h2]; decide)
    · exact absurd z (by rw [show PyProof.Rows.lexLt _ _ _ = _ from h1]; decide)
theorem dle_anti {a b : β} (inj : PySem.W.keyToks (k a) = PySem.W.keyToks (k b) → a = b) (h1 : PySem.W.dataLe false k a b = true) (h2 : PySem.W.dataLe false k b a = true) : a = b := by
  rw [dle_iff] at h1 h2
  exact inj (PyProof.Rows.lex_total _ _ h2 h1)
/-- one sorted list of what stands in two -/
theorem dsort_perm {xs ys : List β} (inj : ∀ a ∈ xs, ∀ b ∈ ys, PySem.W.keyToks (k a) = PySem.W.keyToks (k b) → a = b) (pm : xs.Perm ys) : xs.mergeSort (PySem.W.dataLe false k) = ys.mergeSort (PySem.W.dataLe false k) :=
  List.Perm.eq_of_pairwise (le := fun a b => PySem.W.dataLe false k a b = true) (fun a b ha hb h1 h2 => dle_anti (inj a (List.mem_mergeSort.mp ha) b (List.mem_mergeSort.mp hb)) h1 h2) (List.pairwise_mergeSort dle_trans dle_total _) (List.pairwise_mergeSort dle_trans dle_total _)
    ((List.mergeSort_perm _ _).trans (pm.trans (List.mergeSort_perm _ _).symm))
end
/-! ### sorted(s) of such a set -/
section
variable {P : Program} {w : World} {κ : Type} [DecidableEq κ] {kk : KeyKind P w κ} {A : Around} {E : Value → Shared → Prop} {s : Shared}
theorem keyOf_inj {h : Heap} {L : Mem κ} (tup : ∀ p ∈ L, IsTupleKey kk h p.2 p.1) : ∀ p ∈ L, ∀ q ∈ L, p.1 = q.1 → p = q := fun p hp q hq e => by
  have z := tup p hp
  rw [e] at z
  exact Prod.ext e (z.inj (tup q hq))
theorem mem_of_refs {L : Mem κ} : ∀ vs : List Value, (∀ v ∈ vs, ∃ q ∈ L, v = Value.ref q.1) → ∃ M : Mem κ, vs = M.map (fun q => Value.ref q.1) ∧ ∀ q ∈ M, q ∈ L
  | [], _ => ⟨[], rfl, fun q z => (by cases z)⟩
  | v :: vs, al => by
    obtain ⟨q, hq, e⟩ := al v List.mem_cons_self
    obtain ⟨M, e1, hM⟩ := mem_of_refs vs fun u hu => al u (List.mem_cons_of_mem _ hu)
    exact ⟨q :: M, by rw [List.map_cons, e, e1], fun r hr => (List.mem_cons.mp hr).elim (fun z => z ▸ hq) (hM r)⟩
theorem perm_of_refs {h : Heap} {L M : Mem κ} (tup : ∀ p ∈ L, IsTupleKey kk h p.2 p.1) (nd : (L.map (·.2)).Nodup) (hM : ∀ q ∈ M, q ∈ L) (pm : (M.map fun q => Value.ref q.1).Perm (L.map fun q => Value.ref q.1)) : M.Perm L := by
  have one := keyOf_inj tup
  have nL : L.Nodup := List.Pairwise.of_map (·.2) (fun _ _ ne e => ne (congrArg _ e)) nd
  have nR : (L.map fun q => Value.ref q.1).Nodup := by
    refine List.pairwise_map.mpr (List.Pairwise.imp_of_mem (fun {q r} hq hr ne e => ?_) nL)
    injection e with e
    exact ne (one q hq r hr e)
  have nM : M.Nodup := List.Pairwise.of_map (fun q => Value.ref q.1) (fun _ _ ne e => ne (congrArg (fun q : Addr × List κ => Value.ref q.1) e)) (pm.nodup_iff.mpr nR)
  refine (List.perm_ext_iff_of_nodup nM nL).mpr fun q => ⟨hM q, fun hq => ?_⟩
  obtain ⟨r, hr, e⟩ := List.mem_map.mp (pm.mem_iff.mpr (List.mem_map.mpr ⟨q, hq, rfl⟩))
  injection e with e
  rw [← one r (hM r hr) q hq e]
  exact hr
theorem each_refs {R : Value → Addr × List κ → Prop} : ∀ {M : Mem κ}, (∀ q ∈ M, R (.ref q.1) q) → PySem.W.EachIs R (M.map fun q => Value.ref q.1) M
  | [], _ => .nil
  | q :: M, al => .cons (al q List.mem_cons_self) (each_refs fun r hr => al r (List.mem_cons_of_mem _ hr))
theorem refs_each : ∀ {out : List Value} {M : Mem κ}, PySem.W.EachIs (fun v (q : Addr × List κ) => v = Value.ref q.1) out M → out = M.map fun q => Value.ref q.1
  | _, _, .nil => rfl
  | _, _, .cons e t => by rw [List.map_cons, e, refs_each t]
theorem sorted_ofK {a : Addr} {L : Mem κ} {es : Array (Int × Value)} {ep : Nat} {t : SetTable} {Q : Value → Shared → Prop} (enc : List κ → PyData) (R : SetK kk s.heap a L es ep t) (hh : A.handled = none)
    (rd : ∀ h : Heap, ∀ p ∈ L, IsTupleKey kk h p.2 p.1 → Reads h (.ref p.1) (enc p.2) []) (al : PySem.W.AllAlike (L.map fun p => enc p.2)) (so : PySem.W.Sortable (L.map fun p => enc p.2)) (hu : ∀ p ∈ L, A.units + 8 + (enc p.2).depth < cLine)
    (q : ∀ s1 p (out : Array Value) (c : Nat) (M : Mem κ), (∀ b o, s.heap.get? b = some o → s1.heap.get? b = some o) → s1.gens = s.gens → s1.os = s.os → s.heap.objs.size ≤ p →
      s1.heap.get? p = some (seqObj "list" out c) → M.Perm L → out.toList = (M.mergeSort (PySem.W.dataLe false fun q => enc q.2)).map (fun q => Value.ref q.1) → Q (.ref p) s1) :
    wpAny (model P w) A (call (.builtin "sorted") [.ref a]) Q E s := by
  obtain ⟨o, ho, hex, hd⟩ := R.ob
  have sz := R.size
  have few := R.few
  refine Calls.call_function_entry kind_sorted plain_sorted entry_sorted (args_sorted1 _) ?_
  unfold Builtin.«sorted»
  refine wpAny_bind (m := checkCount "sorted" 1 1 _) (wpAny_pure ?_)
  refine wpAny_bind (collect_set (A := A.in1) hh ⟨o, ho, hex.1, hd⟩ R.fits (by unfold scanBound; omega) R.tab.ris R.led fun s1 vs k1 hz g1 o1 pm => ?_)
  have vals : es.toList.map (·.2) = L.map fun q => Value.ref q.1 := by
    rw [R.rows, rws, List.map_map]
    rfl
  rw [vals] at pm
  obtain ⟨M, eM, hM⟩ := mem_of_refs (L := L) vs fun v hv => by
    obtain ⟨q, hq, e⟩ := List.mem_map.mp (pm.mem_iff.mp hv)
    exact ⟨q, hq, e.symm⟩
  subst eM
  have pL := perm_of_refs R.tup R.nd hM pm
  have lM : M.length < 64 := by rw [pL.length_eq]; exact few
  refine wpAny_bind (wpAny_newList ?_ (by rw [List.length_map, sizeLine_eq]; omega))
  have at1 : (s1.heap.push (seqObj "list" (M.map fun q => Value.ref q.1).toArray 0)).get? s1.heap.objs.size = some (seqObj "list" (M.map fun q => Value.ref q.1).toArray 0) := Heap.get?_push_size _ rfl
  have keys : ∀ q ∈ M, IsTupleKey kk (s1.heap.push (seqObj "list" (M.map fun q => Value.ref q.1).toArray 0)) q.2 q.1 := fun q hq => tk_keep (R.tup q (hM q hq)) fun b u e => Heap.get?_push_of_some _ (k1 b u e)
  have mm : ∀ d ∈ M.map (fun q => enc q.2), d ∈ L.map fun q => enc q.2 := fun d hd => by
    obtain ⟨q, hq, e⟩ := List.mem_map.mp hd
    exact List.mem_map.mpr ⟨q, hM q hq, e⟩
  refine wpAny_bind (wpAny_holding (PySem.W.list_sort_data (s := { s1 with heap := s1.heap.push (seqObj "list" (M.map fun q => Value.ref q.1).toArray 0) }) (R := fun v (q : Addr × List κ) => v = Value.ref q.1) (enc := fun q => enc q.2) at1
    (each_refs fun _ _ => rfl) (each_refs fun q hq => ⟨[], rd _ q (hM q hq) (keys q hq), by simp⟩) (fun d hd d1 hd1 => al d (mm d hd) d1 (mm d1 hd1))
    (so.imp (fun f d hd => f d (mm d hd)) fun f d hd => f d (mm d hd)) (by rw [sizeLine_eq]; omega) (fun q hq => ?_) fun out lo eo => ?_))
  · have := hu q (hM q hq)
    have e : A.in1.units = A.units + 1 ∨ A.in1.units ≤ A.units + 3 := by first | exact .inl rfl | exact .inr (by simp [Around.in1]) | (right; simp [Around.in1, Around.under]; try omega)
    rcases e with e | e <;> omega
  obtain ⟨c, hc⟩ := sortedHeap_at (vs := M.map fun q => Value.ref q.1) (out := out.toArray) at1
  refine wpAny_pure ⟨_, rfl, q _ s1.heap.objs.size out.toArray c M (fun b u e => ?_) g1 o1 hz hc pL (refs_each eo)⟩
  have e1 := k1 b u e
  have lt := Heap.lt_size e1
  show (sortedHeap (s1.heap.push (seqObj "list" (M.map fun q => Value.ref q.1).toArray 0)) s1.heap.objs.size (M.map fun q => Value.ref q.1) out.toArray).get? b = some u
  rw [sortedHeap_old (Nat.ne_of_lt lt) (by rw [size_push']; exact Nat.lt_succ_of_lt lt)]
  exact Heap.get?_push_of_some _ e1
end
end Mir

set_option Elab.async false
set_option linter.all false
set_option maxRecDepth 100000
set_option maxHeartbeats 4000000
namespace Mir
open PySem PySem.Spec PyProof.Rows L2
/-! ### sorted(set(x)), x a list of tuples of plain values -/
section
variable {P : Program} {w : World} {κ : Type} [DecidableEq κ] (kk : KeyKind P w κ)
structure SetK0 (h : Heap) (a : Addr) (L : Mem κ) : Prop where
  ex : ∃ (es : Array (Int × Value)) (ep : Nat) (t : SetTable), (∃ o, h.get? a = some o ∧ o.ExactSet ∧ o.data = .set es ep t) ∧ es.toList = rws kk L ∧ TabOk t (L.map fun p => hsh kk p.2) ∧ (L.map (·.2)).Nodup ∧
    (w.params.followText "set-order" = true ∨ t.led = true) ∧ L.length * 5 < t.mask * 3 ∧ L.length < 64
def SetKO (a : Addr) (L : Mem κ) : HO := .ext fun h => SetK0 kk h a L
variable {kk}
theorem SetK.less {h : Heap} {a : Addr} {L : Mem κ} {es : Array (Int × Value)} {ep : Nat} {t : SetTable} (R : SetK kk h a L es ep t) : SetK0 kk h a L :=
  ⟨es, ep, t, R.ob, R.rows, R.tab, R.nd, R.led, R.room, R.few⟩
theorem SetK0.full {h : Heap} {a : Addr} {L : Mem κ} (R : SetK0 kk h a L) (tup : ∀ p ∈ L, IsTupleKey kk h p.2 p.1) : ∃ es ep t, SetK kk h a L es ep t := by
  obtain ⟨es, ep, t, r1, r2, r3, r4, r5, r6, r7⟩ := R.ex
  exact ⟨es, ep, t, r1, r2, r3, r4, tup, r5, r6, r7⟩
theorem setKO_ok {H : Hp} {h : Heap} {a : Addr} {L : Mem κ} (R : SetK0 kk h a L) : ObjOk P w H h a (SetKO kk a L) := by
  have ⟨es, ep, t, ⟨o, ho, r⟩, z⟩ := R.ex
  refine ⟨R, ⟨o, ho⟩, fun h1 h2 p k => ?_⟩
  have ⟨es1, ep1, t1, ⟨o1, ho1, r1⟩, z1⟩ := SetK0.ex p
  exact ⟨es1, ep1, t1, ⟨o1, k o1 ho1, r1⟩, z1⟩
end
/-- a kind of plain values, as they stand in V -/
structure PlainKind {P : Program} {w : World} {κ : Type} [DecidableEq κ] (kk : KeyKind P w κ) (vv : κ → V) : Prop where
  is : ∀ k u, RelV (vv k) u → kk.is k u = true
theorem pk_items {P : Program} {w : World} {κ : Type} [DecidableEq κ] {kk : KeyKind P w κ} {vv : κ → V} (pk : PlainKind kk vv) : ∀ {k : List κ} {us : List Value}, Vals (k.map vv) us → ItemsAre kk k us
  | [], _, .nil => .nil
  | _ :: _, _, .cons r t => .cons (pk.is _ _ r) (pk_items pk t)
section
variable {X : Cx} {κ : Type} [DecidableEq κ] {kk : KeyKind X.prog X.w κ} {vv : κ → V}
theorem inv_key {pins : List (Addr × Obj)} {σ : L2.St} {H : Hp} {s : Shared} {b : Addr} {k : List κ} (pk : PlainKind kk vv) (I : Inv X pins σ H s) (h : SqT X.K H b (k.map vv)) : IsTupleKey kk s.heap k b := by
  obtain ⟨its, r, ⟨o, ho, hc, n, hd⟩, _⟩ := I.tuple h
  exact ⟨o, its.toArray, n, ho, hc, hd, by simpa using pk_items pk r⟩
theorem refs_val : ∀ {ks : Mem κ} {us : List Value}, Vals (ks.map fun p => V.ref p.1) us → us = ks.map fun p => Value.ref p.1
  | [], _, .nil => rfl
  | p :: ks, _, .cons r t => by
    cases r
    rw [refs_val t, List.map_cons]
theorem val_refs : ∀ (ks : Mem κ), Vals (ks.map fun p => V.ref p.1) (ks.map fun p => Value.ref p.1)
  | [] => .nil
  | _ :: ks => .cons rfl (val_refs ks)
def rSetK (K : PySem.W.Frag) (kk : KeyKind X.prog X.w κ) (vv : κ → V) : List V → Hp → VK → Prop := fun xs H Q => ∃ (l : Addr) (ks : Mem κ), xs = [V.ref l] ∧ SqL K H l (ks.map fun p => V.ref p.1) ∧ (∀ p ∈ ks, SqT K H p.1 (p.2.map vv)) ∧ ks.length < 64 ∧
  ∀ a L, H a = none → (L.map (·.2)).Nodup → (∀ p ∈ L, p ∈ ks) → (∀ p ∈ ks, p.2 ∈ L.map (·.2)) → Q (.ref a) (upd H a (SetKO kk a L))
theorem cr_setK (pk : PlainKind kk vv) (hc : X.calm = true) (hu : X.A.units + 64 < cLine) : CallR X (.type "set") (rSetK X.K kk vv) := by
  intro pins s σ H xs us Q I r h
  obtain ⟨l, ks, rfl, hl, hk, hf, q⟩ := h
  rw [Vals.ref1 r]
  obtain ⟨its, rv, pl, hz⟩ := I.list hl
  have hn : H s.heap.objs.size = none := I.hok.fresh (Nat.le_refl _)
  refine set_of (kk := kk) ks (I.ok.hd hc) pl.isList (by simpa using refs_val rv) (fun p hp => inv_key pk I (hk p hp)) hf (by omega) fun h1 tk L es ep t R g k => ?_
  refine ⟨.ref s.heap.objs.size, upd H s.heap.objs.size (SetKO kk s.heap.objs.size L), I.laid (t' := tk) k (Nat.le_refl _) (setKO_ok R.less), rfl, q _ L hn R.nd (fun p hp => List.mem_of_mem_take (g.sub p hp)) fun p hp => ?_⟩
  exact g.all p (by rw [List.take_length]; exact hp)
def rSortedK (K : PySem.W.Frag) (kk : KeyKind X.prog X.w κ) (vv : κ → V) (enc : List κ → PyData) : List V → Hp → VK → Prop := fun vs H Q => ∃ (a : Addr) (L : Mem κ), vs = [V.ref a] ∧ H a = some (SetKO kk a L) ∧ (∀ p ∈ L, SqT K H p.1 (p.2.map vv)) ∧
  PySem.W.AllAlike (L.map fun p => enc p.2) ∧ PySem.W.Sortable (L.map fun p => enc p.2) ∧ (∀ p ∈ L, (enc p.2).depth ≤ 40) ∧
  ∀ (M : Mem κ) (p : Addr), M.Perm L → H p = none → Q (.ref p) (upd H p (.lst ((M.mergeSort (PySem.W.dataLe false fun q => enc q.2)).map fun q => V.ref q.1)))
theorem cr_sortedK {enc : List κ → PyData} (pk : PlainKind kk vv) (hc : X.calm = true) (hu : X.A.units + 64 < cLine) (rd : ∀ (h : Heap) (k : List κ) (b : Addr), IsTupleKey kk h k b → Reads h (.ref b) (enc k) []) : CallR X (.builtin "sorted") (rSortedK X.K kk vv enc) := by
  intro pins s σ H vs us Q I r h
  obtain ⟨a, L, rfl, ha, hk, al, so, dp, q⟩ := h
  have R0 : SetK0 kk s.heap a L := (I.hok a _ ha).1
  obtain ⟨es, ep, t, R⟩ := R0.full fun p hp => inv_key pk I (hk p hp)
  rw [Vals.ref1 r]
  refine sorted_ofK enc R (I.ok.hd hc) (fun h p _ x => rd h p.2 p.1 x) al so (fun p hp => by have := dp p hp; omega) fun s1 p out c M k g o hp hg pm hout => ?_
  have few : M.length < 64 := by rw [pm.length_eq]; exact R.few
  have lim : ((M.mergeSort (PySem.W.dataLe false fun q => enc q.2)).map fun q => V.ref q.1).length ≤ sizeLine := by rw [List.length_map, List.length_mergeSort, sizeLine_eq]; omega
  have hn : H p = none := I.hok.fresh hp
  have hv : Vals ((M.mergeSort (PySem.W.dataLe false fun q => enc q.2)).map fun q => V.ref q.1) out.toList := by rw [hout]; exact val_refs _
  have J : Inv X pins σ (upd H p (.lst ((M.mergeSort (PySem.W.dataLe false fun q => enc q.2)).map fun q => V.ref q.1))) { s with heap := s1.heap, gens := s1.gens, drawn := s1.drawn, toks := s1.toks } :=
    I.call (ch := []) (Un.laid k hp hn) (I.hok.laid k hp ⟨lim, out.toList, c, hv, hg⟩) (by rw [g]; exact I.bare) (fun _ z => nomatch z)
  have e : s1 = { s with heap := s1.heap, gens := s1.gens, drawn := s1.drawn, toks := s1.toks } := by
    cases s1
    cases s
    cases o
    rfl
  rw [e]
  exact ⟨.ref p, _, J, rfl, q M p pm hn⟩
end
/-! ### pairs of texts -/
theorem pk_str (P : Program) (w : World) : PlainKind (strKind P w) V.str := ⟨fun k u r => by
  obtain ⟨t, rfl⟩ := r
  exact beq_self_eq_true k⟩
theorem reads_items {P : Program} {w : World} {h : Heap} : ∀ {k : List Str} {us : List Value}, ItemsAre (strKind P w) k us → ReadsAll h us (k.map PyData.str) []
  | _, _, .nil => .nil
  | _, _, .cons e t => by
    obtain ⟨u, rfl⟩ := Value.isStrOf_shape e
    exact .cons (.str _ _) (reads_items t)
theorem reads_texts {P : Program} {w : World} {h : Heap} {k : List Str} {b : Addr} (x : IsTupleKey (strKind P w) h k b) : Reads h (.ref b) (.tuple (k.map PyData.str)) [] := by
  obtain ⟨o, its, n, ho, hc, hd, hi⟩ := x
  exact .tuple ho hc hd (reads_items hi)
/-- what stands in the sets here: pairs of texts -/
def pairOf : D → Option (Str × Str)
  | .tuple [.str a, .str b] => some (a, b)
  | _ => none
def pairs2 : List D → Option (List (Str × Str))
  | [] => some []
  | d :: ds => (pairOf d).bind fun p => (pairs2 ds).map fun r => p :: r
def dedup2 : List (Str × Str) → List (Str × Str) → List (Str × Str)
  | [], acc => acc
  | x :: xs, acc => dedup2 xs (if x ∈ acc then acc else acc ++ [x])
def pairD (p : Str × Str) : D := .tuple [.str p.1, .str p.2]
def gSortSet : List D → Option D
  | [.list xs] => (pairs2 xs).bind fun ps => if ps.length < 60 then some (.list (((dedup2 ps []).mergeSort (PySem.W.dataLe false pairD)).map pairD)) else none
  | _ => none
theorem dedup2_spec : ∀ (xs acc : List (Str × Str)), acc.Nodup → (dedup2 xs acc).Nodup ∧ ∀ p, p ∈ dedup2 xs acc ↔ p ∈ xs ∨ p ∈ acc
  | [], acc, nd => ⟨nd, fun p => by simp [dedup2]⟩
  | x :: xs, acc, nd => by
    unfold dedup2
    by_cases m : x ∈ acc
    · rw [if_pos m]
      obtain ⟨i1, i2⟩ := dedup2_spec xs acc nd
      refine ⟨i1, fun p => (i2 p).trans ?_⟩
      rw [List.mem_cons, or_assoc]
      exact ⟨.inr, fun z => z.elim (fun e => .inr (e ▸ m)) id⟩
    · rw [if_neg m]
      have nd1 : (acc ++ [x]).Nodup := List.nodup_append.mpr ⟨nd, List.pairwise_singleton .., fun a ha b hb e => m (by rw [List.mem_singleton] at hb; rw [← hb, ← e]; exact ha)⟩
      obtain ⟨i1, i2⟩ := dedup2_spec xs _ nd1
      refine ⟨i1, fun p => (i2 p).trans ?_⟩
      rw [List.mem_append, List.mem_singleton, List.mem_cons]
      constructor
      · rintro (z | z | z)
        · exact .inl (.inr z)
        · exact .inr z
        · exact .inl (.inl z)
      · rintro ((z | z) | z)
        · exact .inr (.inr z)
        · exact .inl z
        · exact .inr (.inl z)
theorem pairD_toks {p q : Str × Str} (e : PySem.W.keyToks (pairD p) = PySem.W.keyToks (pairD q)) : p = q := by
  obtain ⟨⟨a⟩, ⟨b⟩⟩ := p
  obtain ⟨⟨c⟩, ⟨d⟩⟩ := q
  simp only [pairD, PySem.W.keyToks, PySem.W.keyToksAll, List.cons_append, List.nil_append, List.cons.injEq, Sum.inr.injEq, and_true, true_and] at e
  have e1 : a = c := Array.toList_inj.mp e.1
  have e2 : b = d := Array.toList_inj.mp e.2
  rw [e1, e2]
/-- a member: where it lies, its two texts -/
def keyed (p : Addr × Str × Str) : Addr × List Str := (p.1, [p.2.1, p.2.2])
theorem rp_pairs {K : PySem.W.Frag} {O : AS} {H : Hp} : ∀ {xs : List D} {ps : List (Str × Str)} {vs : List V}, pairs2 xs = some ps → RpAll K O H vs xs → ∃ ks : List (Addr × Str × Str), vs = ks.map (fun p => V.ref p.1) ∧ ks.map (·.2) = ps ∧ ∀ p ∈ ks, TupO K O H p.1 [V.str p.2.1, V.str p.2.2]
  | [], ps, vs, e, r => by
    cases e
    cases r
    exact ⟨[], rfl, rfl, fun p z => by cases z⟩
  | d :: ds, ps, vs, e, r => by
    unfold pairs2 at e
    cases ed : pairOf d with
    | none => rw [ed] at e; cases e
    | some p =>
      rw [ed, Option.bind_some] at e
      cases e2 : pairs2 ds with
      | none => rw [e2] at e; cases e
      | some qs =>
        rw [e2, Option.map_some] at e
        cases e
        unfold pairOf at ed
        split at ed
        · cases ed
          cases r with
          | cons r1 r2 =>
            obtain ⟨ks, k1, k2, k3⟩ := rp_pairs e2 r2
            cases r1 with
            | tup t1 t2 =>
              cases t2 with
              | cons x1 x2 =>
                cases x2 with
                | cons y1 y2 =>
                  cases y2
                  cases x1
                  cases y1
                  refine ⟨(_, _, _) :: ks, by rw [List.map_cons, k1], by rw [List.map_cons, k2], fun p hp => ?_⟩
                  rcases List.mem_cons.mp hp with z | z
                  · rw [z]; exact t1
                  · exact k3 p z
        · cases ed
theorem rp_pairD {K : PySem.W.Frag} {O : AS} {H : Hp} : ∀ {M : List (Addr × Str × Str)}, (∀ p ∈ M, TupO K O H p.1 [V.str p.2.1, V.str p.2.2]) → RpAll K O H (M.map fun p => V.ref p.1) (M.map fun p => pairD p.2)
  | [], _ => .nil
  | p :: M, h => .cons (.tup (h p List.mem_cons_self) (.cons (.str _) (.cons (.str _) .nil))) (rp_pairD fun q hq => h q (List.mem_cons_of_mem _ hq))
def unkey (q : Addr × List Str) : Addr × Str × Str := (q.1, q.2.headD "", q.2.tail.headD "")
theorem unkey_keyed (p : Addr × Str × Str) : unkey (keyed p) = p := rfl
theorem mSortSet {X : Cx} {G : Gx} {W : WX} {ma : ME} {e : Expr} {p p2 pos pos2 : Pos} (hK : G.K = X.K) (hc : X.calm = true) (hu : X.A.units + 64 < cLine) (hg : Gl X "sorted") (hm : X.mg "sorted" = none) (hg2 : Gl X "set") (hm2 : X.mg "set" = none) (ha : PE X e (tM G W ma))
    (he : starEach [e] X.env = (false, eval e X.env) :: starEach [] X.env := by rfl) :
    PE X (.Call (.Name "sorted" p) [.Call (.Name "set" p2) [e] [] pos2] [] pos) (tM G W (eUn gSortSet ma)) := by
  have inner : PE X (.Call (.Name "set" p2) [e] [] pos2) _ := pe_callTy (cr_setK (kk := strKind X.prog X.w) (vv := V.str) (pk_str _ _) hc hu) hg2 hm2 rfl (pa_cons ha pa_nil he) (he := he)
  refine peOf (pe_callB (cr_sortedK (kk := strKind X.prog X.w) (vv := V.str) (enc := fun k => .tuple (k.map PyData.str)) (pk_str _ _) hc hu fun _ _ _ => reads_texts) hg hm rfl (pa_cons inner pa_nil)) fun σ H Q q => ?_
  refine tP.mono (Q := fun x H1 => rD G.K gSortSet [x] H1 Q) (un_read q) fun x H1 ⟨O, ds, d, ot, rs, eg, qq⟩ => ?_
  unfold gSortSet at eg
  split at eg
  · rename_i xs
    cases ep : pairs2 xs with
    | none => rw [ep] at eg; cases eg
    | some ps =>
      rw [ep, Option.bind_some] at eg
      split at eg
      · rename_i few
        cases eg
        cases rs with
        | cons r1 r2 =>
          cases r2
          cases r1 with
          | lst l1 l2 =>
            obtain ⟨ks, k1, k2, k3⟩ := rp_pairs ep l2
            subst k1
            have lk : ks.length < 60 := by rw [← List.length_map (f := (·.2)), k2]; exact few
            rw [hK] at l1 l2 k3 qq
            have sq : ∀ q ∈ ks.map keyed, SqT X.K H1 q.1 (q.2.map V.str) := fun q hq => by
              obtain ⟨k, hk, rfl⟩ := List.mem_map.mp hq
              exact (k3 k hk).sq
            refine ⟨_, ks.map keyed, rfl, by rw [List.map_map]; exact l1.sq, sq, by rw [List.length_map]; omega, fun a L hn nd sub all => ?_⟩
            have s1 : Same H1 (upd H1 a (SetKO (PySem.strKind X.prog X.w) a L)) := same_upd hn
            have form : ∀ q ∈ L, ∃ k ∈ ks, q = keyed k := fun q hq => by
              obtain ⟨k, hk, e⟩ := List.mem_map.mp (sub q hq)
              exact ⟨k, hk, e.symm⟩
            have tupE : ∀ d ∈ L.map (fun q => PyData.tuple (q.2.map PyData.str)), ∃ u : Str × Str, d = pairD u := fun d hd => by
              obtain ⟨q, hq, rfl⟩ := List.mem_map.mp hd
              obtain ⟨k, _, rfl⟩ := form q hq
              exact ⟨k.2, rfl⟩
            refine ⟨a, L, rfl, upd_same, fun q hq => (let ⟨k, hk, e⟩ := form q hq; e ▸ ((k3 k hk).step (.of_same s1)).sq), fun d hd d1 hd1 => ?_, .inl fun d hd => ?_, fun q hq => ?_, fun M pl pm hp => ?_⟩
            · obtain ⟨u, rfl⟩ := tupE d hd
              obtain ⟨v, rfl⟩ := tupE d1 hd1
              rfl
            · obtain ⟨u, rfl⟩ := tupE d hd
              exact ⟨_, _, rfl⟩
            · obtain ⟨k, _, rfl⟩ := form q hq
              show PyData.depth (pairD k.2) ≤ 40
              simp [pairD, PyData.depth, PyData.depthAll]
            · have s2 : Same (upd H1 a (SetKO (PySem.strKind X.prog X.w) a L)) (upd (upd H1 a (SetKO (PySem.strKind X.prog X.w) a L)) pl (.lst ((M.mergeSort (PySem.W.dataLe false fun q => PyData.tuple (q.2.map PyData.str))).map fun q => V.ref q.1))) := same_upd hp
              have s3 := Same.trans s1 s2
              refine qq _ _ s3 ?_
              have formM : ∀ q ∈ M, ∃ k ∈ ks, q = keyed k := fun q hq => form q (pm.mem_iff.mp hq)
              have enc_eq : ∀ q ∈ M, PyData.tuple (q.2.map PyData.str) = pairD (unkey q).2 := fun q hq => by
                obtain ⟨k, _, rfl⟩ := formM q hq
                rfl
              have e1 : (M.mergeSort (PySem.W.dataLe false fun q => PyData.tuple (q.2.map PyData.str))).map (fun q => (unkey q).2) = (M.map fun q => (unkey q).2).mergeSort (PySem.W.dataLe false pairD) := by
                refine List.map_mergeSort fun q hq r hr => ?_
                rw [PySem.W.dataLe_eq, PySem.W.dataLe_eq]
                dsimp only
                rw [enc_eq q hq, enc_eq r hr]
              obtain ⟨dn, dm⟩ := dedup2_spec ps [] List.nodup_nil
              have ndM : (M.map fun q => (unkey q).2).Nodup := by
                have nd1 : (M.map (·.2)).Nodup := (pm.map (·.2)).nodup_iff.mpr nd
                refine List.pairwise_map.mpr (List.Pairwise.imp_of_mem (fun {q r} hq hr ne e => ne ?_) (List.pairwise_map.mp nd1))
                obtain ⟨k, _, rfl⟩ := formM q hq
                obtain ⟨l, _, rfl⟩ := formM r hr
                rw [unkey_keyed, unkey_keyed] at e
                show [k.2.1, k.2.2] = [l.2.1, l.2.2]
                rw [e]
              have pmD : (M.map fun q => (unkey q).2).Perm (dedup2 ps []) := (List.perm_ext_iff_of_nodup ndM dn).mpr fun u => by
                rw [dm u]
                constructor
                · intro z
                  obtain ⟨q, hq, rfl⟩ := List.mem_map.mp z
                  obtain ⟨k, hk, rfl⟩ := formM q hq
                  exact .inl (by rw [← k2]; exact List.mem_map.mpr ⟨k, hk, rfl⟩)
                · rintro (z | z)
                  · rw [← k2] at z
                    obtain ⟨k, hk, rfl⟩ := List.mem_map.mp z
                    have y := all (keyed k) (List.mem_map.mpr ⟨k, hk, rfl⟩)
                    rw [← (pm.map (·.2)).mem_iff] at y
                    obtain ⟨q, hq, eq⟩ := List.mem_map.mp y
                    refine List.mem_map.mpr ⟨q, hq, ?_⟩
                    show (q.2.headD "", q.2.tail.headD "") = k.2
                    rw [eq]
                    rfl
                  · cases z
              have e2 := dsort_perm (k := pairD) (fun a _ b _ e => pairD_toks e) pmD
              have al : RpAll X.K O H1 (((M.mergeSort (PySem.W.dataLe false fun q => PyData.tuple (q.2.map PyData.str))).map unkey).map fun p => V.ref p.1) (((M.mergeSort (PySem.W.dataLe false fun q => PyData.tuple (q.2.map PyData.str))).map unkey).map fun p => pairD p.2) := rp_pairD fun p hp => by
                obtain ⟨q, hq, rfl⟩ := List.mem_map.mp hp
                obtain ⟨k, hk, rfl⟩ := formM q (List.mem_mergeSort.mp hq)
                exact k3 k hk
              have e3 : ((M.mergeSort (PySem.W.dataLe false fun q => PyData.tuple (q.2.map PyData.str))).map unkey).map (fun p => pairD p.2) = ((dedup2 ps []).mergeSort (PySem.W.dataLe false pairD)).map pairD := by
                rw [List.map_map, ← e2, ← e1, List.map_map]
                rfl
              rw [e3, List.map_map] at al
              exact Rp.newLst (RpAll.step (.of_same s1) _ _ al) hp (ot.same s1)
      · cases eg
  · cases eg
end Mir

set_option Elab.async false
set_option linter.all false
set_option maxRecDepth 100000
set_option maxHeartbeats 4000000
namespace Mir
open PySem PySem.Spec PyProof.Rows L2
/-! ### a call by its promise -/
def tCallP (sp : Sp) (E : L2.St → XK) (t : TA) : TE := fun σ H Q => t σ H fun vs H1 => sp vs H1 Q (E σ)
theorem pe_callP {X : Cx} {W : WX} {x : Str} {p pos : Pos} {e : Expr} {es : List Expr} {f : Addr} {fd : FuncData} {ps : List Str} {k : Nat} {sp : Sp} {t : TA} (F : FnG X.prog X.w X.K X.mg X.base (L2.CX X.prog X.w) k f fd ps sp) (hm : X.mg x = some (.ref f)) (hk : PySem.W.keepIn X.K (.ref f) = true)
    (hb : ∀ us : List Value, us.length = ps.length → ∀ s : Shared, BindsTo s fd ⟨us, []⟩ (ps.zip us)) (hr : Room k X.A) (hgd : X.A.guards = some []) (hg : Gl X x) (tk : Takes X W)
    (ha : PA X (e :: es) t) (hdb : (x == ("__debug__" : Str)) = false) (he : starEach (e :: es) X.env = (false, eval e X.env) :: starEach es X.env) (hpl : (backTo pos (starEach es X.env)).any (·.1) = false) :
    PE X (.Call (.Name x p) (e :: es) [] pos) (tCallP sp (WE W) t) := by
  refine ⟨fun pins s σ H Q I h => ?_⟩
  refine wpAny_Call_Name_kw (ld_glob I hg hm ?_ hdb)
  refine PySem.W.callWith_K (h₀ := X.base) I.ok.mod.kin hk (thn (ha.run pos pins s σ H _ I h) fun us s1 ⟨vs, H1, I1, r, q⟩ => ⟨I1.kIn, ?_⟩) he hpl
  have hl : us.length = ps.length := by rw [← r.length]; exact F.len _ _ _ _ q
  refine wpAny_call (codeAny_mono (F.run X.A X.stack s1 H1 ⟨us, []⟩ us vs Q (WE W σ) hr hgd I1.env0 (hb us hl s1) r q) fun r s' hq => ?_)
  cases r with
  | error e => exact passAt tk σ pins H1 s1 e s' I1 hq
  | ok fl =>
    cases fl with
    | ret u => exact I1.after hq
    | next => exact False.elim hq
    | brk => exact False.elim hq
    | cont => exact False.elim hq
/-! ### the feed is made -/
def spFeed (K : PySem.W.Frag) : Sp := fun vs H Q _ => ∃ (a : Addr) (ns : List Int), vs = [.ref a] ∧ SqL K H a (ns.map V.int) ∧ ns.length ≤ 63 ∧
  ∀ p c H', p ≠ c → H' p = some (fdDict c ⟨ns, 0, 0, 0⟩) → H' c = some (.lst (ns.map V.int)) → Same H H' → Q (.ref p) H'
theorem cut_63 {ns : List Int} (h : ns.length ≤ 63) : cutV (ns.map V.int) none (some 63) = ns.map V.int := by
  unfold cutV
  have e1 : HT.sIx (ns.map V.int).length 0 none = 0 := rfl
  have e2 : HT.sIx (ns.map V.int).length (ns.map V.int).length (some 63) = (ns.map V.int).length := by
    rw [show (63 : Int) = ((63 : Nat) : Int) from rfl, HT.sIx_nat, List.length_map]
    omega
  rw [e1, e2, List.drop_zero, Nat.sub_zero, List.take_length]
abbrev tFeedC (K : PySem.W.Frag) : TE := tLc (iList K (tSl (rSlL K) (tVar 0) tNoPart (tPart (tC (.int 63))))) (gName 1) tYes (tCB (rD K gInt) (tCons (tVar 1) tNil)) [1]
abbrev tFeed (K : PySem.W.Frag) : TS := tRet (tDisp [(tC (.str "cells"), tFeedC K), (tC (.str "at"), tC (.int 0)), (tC (.str "held"), tC (.int 0)), (tC (.str "count"), tC (.int 0))])
theorem feedC_read {K : PySem.W.Frag} {a : Addr} {ns : List Int} {H : Hp} {Q : VK} (hl : ns.length ≤ 63) (hS : SqL K H a (ns.map V.int)) (h : ∀ D H', H' D = some (.lst (ns.map V.int)) → (∀ b o, H b = some o → H' b = some o) → H D = none → Q (.ref D) H') :
    tFeedC K [some (.ref a), none] H Q := by
  refine ⟨.ref a, rfl, ?_⟩
  refine ⟨63, rfl, a, ns.map V.int, rfl, hS, fun p hp => ?_⟩
  rw [cut_63 hl]
  refine ⟨p, rfl, ⟨_, .inl (.inl (upd_same ..))⟩, fun D hD => ?_⟩
  have hpD : p ≠ D := fun e => by
    subst e
    rw [upd_same] at hD
    cases hD
  have hHD : H D = none := by rw [upd_ne (Ne.symm hpD)] at hD; exact hD
  refine lc_list (xs := ns.map V.int) (fun i H' => H' D = some (.lst ((ns.take i).map V.int)) ∧ H' p = some (.lst (ns.map V.int)) ∧ ∀ b o, H b = some o → H' b = some o) ⟨upd_same .., ?_, fun b o e => ?_⟩ (fun i H' _ q => .inl (.inl q.2.1)) (fun i x H' hx q => ?_) (fun H' q => ?_)
  · rw [upd_ne hpD, upd_same]
  · have h1 : b ≠ D := fun z => by subst z; rw [hHD] at e; cases e
    have h2 : b ≠ p := fun z => by subst z; rw [hp] at e; cases e
    rw [upd_ne h1, upd_ne h2]
    exact e
  · obtain ⟨qD, qp, qH⟩ := q
    rw [List.getElem?_map] at hx
    cases en : ns[i]? with
    | none => rw [en] at hx; cases hx
    | some n =>
      rw [en] at hx
      cases hx
      refine ⟨rfl, ?_⟩
      unfold tYes
      dsimp only
      rw [if_pos rfl]
      refine ⟨.int n, rfl, ?_⟩
      refine ⟨fun _ => False, [.int n], .int n, fun _ z => z.elim, .cons (.int n) .nil, rfl, fun v H2 s r => ?_⟩
      cases r
      have hi : i < ns.length := (List.getElem?_eq_some_iff.mp en).1
      have et : (ns.take (i + 1)).map V.int = (ns.take i).map V.int ++ [.int n] := by rw [List.take_add_one, en, Option.toList_some, List.map_append]; rfl
      rw [et]
      refine ⟨_, s _ _ qD, ?_, upd_same .., ?_, fun b o e => ?_⟩
      · rw [List.length_map, List.length_take, sizeLine_eq]
        omega
      · rw [upd_ne hpD]
        exact s _ _ qp
      · have h1 : b ≠ D := fun z => by subst z; rw [hHD] at e; cases e
        rw [upd_ne h1]
        exact s _ _ (qH b o e)
  · rw [List.length_map] at q
    rw [List.take_length] at q
    exact h D H' q.1 q.2.2 hHD
theorem feed_read {K : PySem.W.Frag} {vs : List V} {H : Hp} {Q : VK} {E : XK} {N : List Str} (hN : N.length = 2) (h : spFeed K vs H Q E) : tFeed K { nx := fun _ H' => Q .non H', rt := Q } (L2.start N vs) H := by
  obtain ⟨a, ns, rfl, hS, hl, hq⟩ := h
  have e : L2.start N [.ref a] = [some (.ref a), none] := by
    unfold L2.start
    rw [hN]
    rfl
  rw [e]
  intro p hp
  simp only [tPairs, tC]
  refine feedC_read hl (Same.seq (same_upd hp) hS) fun D H' hD hk hn => ?_
  have hpD : p ≠ D := fun z => by subst z; rw [upd_same] at hn; cases hn
  refine ⟨hk _ _ (upd_same ..), [(.inr "cells", .ref D), (.inr "at", .int 0), (.inr "held", .int 0), (.inr "count", .int 0)], rfl, by show 4 ≤ 15; omega, ?_⟩
  refine hq p D _ hpD (upd_same ..) (by rw [upd_ne (Ne.symm hpD)]; exact hD) fun b o e => ?_
  have h1 : b ≠ p := fun z => by subst z; rw [hp] at e; cases e
  rw [upd_ne h1]
  exact hk b o (by rw [upd_ne h1]; exact e)
/-! ### the law's def -/
def tEx (K : PySem.W.Frag) (xc : XC) (t : Gx → TS) : TS := fun D σ H => ∃ G : Gx, G.K = K ∧ G.xc = xc ∧ GOk G ∧ t G D σ H
theorem pssEx {X : Cx} {sts : List Stmt} {K : PySem.W.Frag} {xc : XC} {t : Gx → TS} (h : ∀ G : Gx, G.K = K → G.xc = xc → GOk G → PSs X sts (t G)) : PSs X sts (tEx K xc t) := ⟨fun pins s σ H D I q => by
  obtain ⟨G, hK, hc, gok, q⟩ := q
  exact (h G hK hc gok).run pins s σ H D I q⟩
def entryLaw (n i : Nat) : List Sl := (List.replicate n Sl.no).set i .fd
def spLaw (K : PySem.W.Frag) (tb : List (Addr × Str)) (m : MS) (n i : Nat) : Sp := fun vs H Q _ => ∃ (a : Addr) (ns : List Int), vs = [.ref a] ∧ LamX.Tabs tb H ∧ SqL K H a (ns.map V.int) ∧ ns.length ≤ 63 ∧ (∃ f, m (entryLaw n i) ⟨ns, 0, 0, 0⟩ = .ret (.bool true) f) ∧ ∀ H', Q (.bl true) H'
theorem law_read {K : PySem.W.Frag} {xc : XC} {N : List Str} {m : MS} {i : Nat} {vs : List V} {H : Hp} {Q : VK} {E : XK} {W : WX} (hi : i < N.length) (hi0 : 1 ≤ i) (h : spLaw K xc.tb m N.length i vs H Q E) :
    tSeq (L2.tAsg (tCallP (spFeed K) (WE W) (tCons (tVar 0) tNil)) (gName i)) (tEx K xc fun G => tMS G W m) { nx := fun _ H' => Q .non H', rt := Q } (L2.start N vs) H := by
  obtain ⟨a, ns, rfl, tb, hS, hl, ⟨f, hm⟩, hQ⟩ := h
  have e0 : (L2.start N [.ref a])[0]? = some (some (.ref a)) := by
    unfold L2.start
    rw [List.map_cons, List.map_nil]
    rfl
  refine ⟨.ref a, e0, a, ns, rfl, hS, hl, fun p c H' hpc hp hc hk => ?_⟩
  have hfd : FeedOk K (fun b => b = p) H' (some p) c ⟨ns, 0, 0, 0⟩ := ⟨rfl, hp, fun z => hpc z.symm, hc⟩
  have gok : GOk (⟨K, H', fun b => b = p, some p, c, xc, none⟩ : Gx) := ⟨fun b e => FeedOk.own hfd e⟩
  refine ⟨⟨K, H', fun b => b = p, some p, c, xc, none⟩, rfl, rfl, gok, fun b => b = p, entryLaw N.length i, ⟨ns, 0, 0, 0⟩, ?_, ?_⟩
  · have hlen : (L2.start N [.ref a]).length = N.length := by unfold L2.start; rw [List.length_append, List.length_map, List.length_replicate, List.length_singleton]; omega
    refine ⟨fun b o _ _ e => e, fun _ h => h, fun _ h => .inl h, fun b hb => ⟨fdDict c ⟨ns, 0, 0, 0⟩, by subst hb; exact hp, notTbl_dK⟩, hfd, ?_, fun j s e => ?_, fun j k xs ys b e1 _ w1 => ?_, tb.ext hk⟩
    · unfold entryLaw
      rw [List.length_set, List.length_set, List.length_replicate, hlen]
    · unfold entryLaw at e
      by_cases hj : i = j
      · subst hj
        rw [List.getElem?_set_self (by rw [List.length_replicate]; exact hi)] at e
        cases e
        exact ⟨p, by rw [List.getElem?_set_self (by rw [hlen]; exact hi)], rfl⟩
      · rw [List.getElem?_set_ne hj, List.getElem?_replicate] at e
        split at e
        · cases e; trivial
        · cases e
    · unfold entryLaw at e1
      by_cases hj : i = j
      · subst hj
        rw [List.getElem?_set_self (by rw [List.length_replicate]; exact hi)] at e1
        cases e1
        exact w1.elim
      · rw [List.getElem?_set_ne hj, List.getElem?_replicate] at e1
        split at e1 <;> cases e1
        exact w1.elim
  · rw [hm]
    intro O' σ' ρ' v H'' A' s' r
    cases r
    exact hQ _
/-! ### the end: as the kit's, for FnG -/
theorem law_callG {P : Program} {w : World} {K : PySem.W.Frag} {mg mb : Str → Option Value} {k : Nat} {fa a : Addr} {fd : FuncData} {x : Str} {sp : Sp} {s1 : Shared} {us : List Value} {ns : List Int}
    (inK : K.In s1.heap) (ng : s1.heap.Ns mainGlobals mg) (nb : s1.heap.Ns builtinsNs mb) (boot : ∀ x : Str, x ≠ "__name__" → mb x = bootBuiltins x) (nolim : s1.heap.NoLimit) (gens : s1.gens = #[])
    (at_a : s1.heap.get? a = some { cls := .type "list", data := .seq us.toArray }) (intsA : IntsAre us ns) (few : ns.length ≤ sizeLine) (room : Room k callerA)
    (F : ∀ base : Heap, K.In base → base.Ns mainGlobals mg → FnG P w K mg base (L2.CX P w) k fa fd [x] sp) (bnd : ∀ (s : Shared) (u : Value), BindsTo s fd ⟨[u], []⟩ [(x, u)])
    (prom : ∀ H : Hp, SqL K H a (ns.map V.int) → sp [.ref a] H (fun v _ => v = .bl true) fun _ _ _ => False) :
    codeAny (model P w) callerA (.call (.ref fa) ⟨[.ref a], []⟩) (fun r s' => r = .ok (.ret (.bool true)) ∧ OldK s1.heap s'.heap ∧ s'.os = s1.os ∧ AllBare s'.gens) s1 := by
  let ob : Obj := { cls := .type "list", data := .seq us.toArray }
  let Hs : Hp := fun b => if b = a ∧ K.lookup a = none then some (.frz ob (.lst (ns.map V.int))) else none
  have look : ∀ {b u}, Hs b = some u → b = a ∧ K.lookup a = none ∧ u = .frz ob (.lst (ns.map V.int)) := fun {b u} z => by
    by_cases c : b = a ∧ K.lookup a = none
    · have z2 := (if_pos c).symm.trans z
      cases z2
      exact ⟨c.1, c.2, rfl⟩
    · have z2 := (if_neg c).symm.trans z
      cases z2
  have out : ∀ {b : Addr} {o : Obj}, s1.heap.get? b = some o → (b = a → K.lookup a ≠ none) → (hidT s1.heap Hs).get? b = some o := fun {b o} e n => hidT_get e (if_neg fun c => n c.1 c.2)
  have dict_ne : ∀ {b : Addr} {o : Obj} {es : Array DictEntry} {ep : Nat}, s1.heap.get? b = some o → o.data = .dict es ep → b ≠ a := fun {b o es ep} e d z => by
    subst z
    cases at_a.symm.trans e
    exact Data.noConfusion d
  have ns_h : ∀ {b : Addr} {m : Str → Option Value}, s1.heap.Ns b m → (hidT s1.heap Hs).Ns b m := fun {b m} q => by
    obtain ⟨o, es, ep, e, d, r⟩ := q
    exact ⟨o, es, ep, out e fun z => absurd z (dict_ne e d), d, r⟩
  have inKh : K.In (hidT s1.heap Hs) := fun b o e => out (inK b o e) fun z n => by
    subst z
    rw [n] at e
    cases e
  have modh : Mod K mg (hidT s1.heap Hs) := by
    obtain ⟨mc, q1, q2⟩ := nolim
    exact ⟨inKh, ns_h ng, ⟨mb, ns_h nb, boot⟩, ⟨mc, ns_h q1, q2⟩⟩
  have hok : HOk P w Hs s1.heap := fun b u z => by
    obtain ⟨rfl, _, rfl⟩ := look z
    exact ⟨at_a, by rw [List.length_map]; exact few, us, _, vals_ints intsA, at_a⟩
  have sq : SqL K Hs a (ns.map V.int) := by
    cases hk : K.lookup a with
    | none => exact .inl (.inr ⟨ob, if_pos ⟨rfl, hk⟩⟩)
    | some o =>
      cases at_a.symm.trans (inK a o hk)
      exact .inr ⟨_, us.toArray, _, hk, rfl, rfl, rfl, by rw [List.size_toArray, intsA.length]; exact few, by simpa using vals_ints intsA⟩
  have env : Env0 P w K mg (hidT s1.heap Hs) callerA [] s1 Hs := ⟨rfl, modh, fun b o e => of_hidT e, Nat.le_of_eq (hidT_size _ _), trivial, fun b hb => absurd hb List.not_mem_nil, hok, .of_eq gens⟩
  refine codeAny_mono ((F _ inKh (ns_h ng)).run callerA [] s1 Hs ⟨[.ref a], []⟩ [.ref a] [.ref a] _ _ room rfl env (bnd s1 (.ref a)) (.cons rfl .nil) (prom Hs sq)) fun r s' h => ?_
  match r, h with
  | .error e, h =>
    obtain ⟨_, _, _, _, _, _, _, _, _, _, _, _, z⟩ := h
    exact z.elim
  | .ok (.ret u), h =>
    obtain ⟨v, H', os, bare, un, hok', ru, q⟩ := h
    cases (show v = V.bl true from q)
    cases (show u = Value.bool true from ru)
    refine ⟨rfl, OldK.of_keep fun b o e => ?_, os, bare⟩
    cases q : Hs b with
    | none => exact un.keep b o e q (fun z => absurd z List.not_mem_nil) List.not_mem_nil
    | some y =>
      obtain ⟨rfl, _, rfl⟩ := look q
      obtain ⟨e2, _⟩ := hok' _ _ (un.frzs _ _ _ q)
      cases at_a.symm.trans e
      exact e2
theorem walk_ofG {l : PySem.W.OpenLaw} {n k : Nat} {q : Program} {loose : List Str} {XP : (Str → Option Value) → Heap → Prop} {YP : World → Heap → Prop} {d : DefRec} {x : Str}
    (most : l.most = some n) (few : n ≤ sizeLine) (nod : d.params.defaults = []) (room : Room k callerA)
    (F : ∀ (w : World) (mg : Str → Option Value) (fa : Addr) (h : Heap), YP w h → h.Ns mainGlobals mg → mg d.name = some (.ref fa) →
      ∃ (K : PySem.W.Frag) (fd : FuncData) (sp : Sp), K.In h ∧ (∀ (s : Shared) (u : Value), BindsTo s fd ⟨[u], []⟩ [(x, u)]) ∧
        (∀ (H : Hp) (a : Addr) (ns : List Int), ns.length ≤ n → SqL K H a (ns.map V.int) → sp [.ref a] H (fun v _ => v = .bl true) fun _ _ _ => False) ∧
        ∀ base : Heap, K.In base → base.Ns mainGlobals mg → FnG l.prog w K mg base (L2.CX l.prog w) k fa fd [x] sp) :
    PySem.W.WalkO q loose XP YP l.row.toRowW d [] (fun f vs => PySem.call f vs) :=
  Att.attach_call most nod fun w _ _ mg _ fa _ _ _ _ a _ ns G Y _ _ _ hmg hobj hints hlen hg => by
    obtain ⟨K, fd, sp, KX, hb, hsp, hF⟩ := F w mg fa _ Y G.T.g hmg
    exact law_callG KX G.T.g G.T.b G.T.builtins G.T.nolimit hg hobj hints (Nat.le_trans hlen few) room hF hb fun H hS => hsp H a ns hlen hS
end Mir

set_option Elab.async false
set_option linter.all false
set_option maxRecDepth 100000
set_option maxHeartbeats 4000000
namespace Mir
open PySem PySem.Spec PyProof.Rows L2
/-- a def of which nothing is promised: where a recursion begins -/
theorem defAt_bad {P : Program} {w : World} {K : PySem.W.Frag} {mg : Str → Option Value} {base : Heap} {xc : XC} {x : Str} {st : Stmt} {f : Addr} {fd : FuncData} {ps : List Str} {k : Nat} {ff : Bool} (F : FunD K x x (defArgs st) (defBody st) (defScope st) [] [] f fd) (hm : mg x = some (.ref f))
    (hbind : ∀ (kV doc pm : Value) (an : Option Addr) (cdv ct : Value) (us : List Value), us.length = ps.length → bindArgs (PySem.W.fnOf x x (defArgs st) (defBody st) (defScope st) .none kV doc pm an cdv ct) ⟨us, []⟩ = pure (ps.zip us)) :
    DefAt P w K mg base xc x st ps k ff (fun _ _ => .bad) := by
  have none : ∀ {vs H Q E}, ¬ spM K xc ff (fun _ _ => .bad) vs H Q E := fun h => by
    obtain ⟨_, _, _, _, _, _, _, _, _, z⟩ := h
    exact z
  exact ⟨f, fd, hm, F, ⟨fun _ _ _ _ h => (none h).elim, fun _ _ _ _ _ _ _ _ _ _ _ _ _ _ h => (none h).elim⟩, fun us hl s => FunD.bindsA F hbind s us hl⟩
/-! ### a feed made by list(script[:63]) -/
abbrev rListK (K : PySem.W.Frag) : List V → Hp → VK → Prop := fun xs H Q => ∃ p ys, xs = [.ref p] ∧ (SqL K H p ys ∨ SqT K H p ys) ∧ ∀ l, H l = none → Q (.ref l) (upd H l (.lst ys))
abbrev tFeedLs (K : PySem.W.Frag) : TE := tCB (rListK K) (tCons (tSl (rSlL K) (tVar 0) tNoPart (tPart (tC (.int 63)))) tNil)
abbrev tFeedL (K : PySem.W.Frag) : TS := tRet (tDisp [(tC (.str (fdKey 0)), tFeedLs K), (tC (.str (fdKey 1)), tC (.int 0)), (tC (.str (fdKey 2)), tC (.int 0)), (tC (.str (fdKey 3)), tC (.int 0))])
theorem feedL_read {K : PySem.W.Frag} {vs : List V} {H : Hp} {Q : VK} {E : XK} {N : List Str} (hN : N.length = 1) (h : spFeed K vs H Q E) : tFeedL K { nx := fun _ H' => Q .non H', rt := Q } (L2.start N vs) H := by
  obtain ⟨a, ns, rfl, hS, hl, hq⟩ := h
  have e : L2.start N [.ref a] = [some (.ref a)] := by
    unfold L2.start
    rw [hN]
    rfl
  rw [e]
  intro p hp
  simp only [tPairs, tC]
  refine ⟨.ref a, rfl, 63, rfl, a, ns.map V.int, rfl, Same.seq (same_upd hp) hS, fun q hq2 => ?_⟩
  rw [cut_63 hl]
  refine ⟨q, _, rfl, .inl (.inl (.inl upd_same)), fun D hD => ?_⟩
  have hqp : q ≠ p := fun z => by subst z; rw [upd_same] at hq2; cases hq2
  have hDq : D ≠ q := fun z => by subst z; rw [upd_same] at hD; cases hD
  have hDp : D ≠ p := fun z => by
    subst z
    rw [upd_ne hDq, upd_same] at hD
    cases hD
  have kp : ∀ b o, H b = some o → upd (upd (upd H p (.dK [])) q (.lst (ns.map V.int))) D (.lst (ns.map V.int)) b = some o := fun b o eb => by
    have h1 : b ≠ p := fun z => by subst z; rw [hp] at eb; cases eb
    have h2 : b ≠ q := fun z => by subst z; rw [upd_ne hqp, eb] at hq2; cases hq2
    have h3 : b ≠ D := fun z => by subst z; rw [upd_ne hDq, upd_ne hDp, eb] at hD; cases hD
    rw [upd_ne h3, upd_ne h2, upd_ne h1]
    exact eb
  refine ⟨by rw [upd_ne (Ne.symm hDp), upd_ne (Ne.symm hqp), upd_same], [(.inr (fdKey 0), .ref D), (.inr (fdKey 1), .int 0), (.inr (fdKey 2), .int 0), (.inr (fdKey 3), .int 0)], rfl, by show 4 ≤ 15; omega, ?_⟩
  refine hq p D _ (Ne.symm hDp) upd_same (by rw [upd_ne hDp, upd_same]) fun b o eb => ?_
  have h1 : b ≠ p := fun z => by subst z; rw [hp] at eb; cases eb
  rw [upd_ne h1]
  exact kp b o eb
/-! ### a law that begins with f, s = (feed(script), e) -/
theorem Agr.setFd {G : Gx} {O : AS} {σ : L2.St} {H : Hp} {ρ : List Sl} {f : FS} (A : Agr G O σ H ρ f) (i : Nat) {p : Addr} (hp : G.fa = some p) : Agr G O (σ.set i (some (.ref p))) H (ρ.set i .fd) f := by
  have hl := A.len
  have inside : ∀ {m : Nat} {s : Sl}, (ρ.set i .fd)[m]? = some s → m < ρ.length := fun e => by
    have := (List.getElem?_eq_some_iff.mp e).1
    simpa using this
  refine ⟨A.grow, A.o0, A.onew, A.ot, A.feed, by simp [hl], fun j s e => ?_, fun j k xs ys a e1 e2 w1 w2 s1 s2 => ?_, A.tabs⟩
  · by_cases hj : i = j
    · subst hj
      have hi := inside e
      rw [List.getElem?_set_self hi] at e
      cases e
      exact ⟨p, by rw [List.getElem?_set_self (by omega)], hp⟩
    · rw [List.getElem?_set_ne hj] at e
      have q := A.slots j s e
      rw [List.getElem?_set_ne hj]
      exact q
  · have ne : ∀ m (zs : Sl), (ρ.set i .fd)[m]? = some zs → zs.own → i ≠ m := fun m zs e w hm => by
      subst hm
      rw [List.getElem?_set_self (inside e)] at e
      cases e
      exact w
    have n1 := ne _ _ e1 w1
    have n2 := ne _ _ e2 w2
    rw [List.getElem?_set_ne n1] at e1 s1
    rw [List.getElem?_set_ne n2] at e2 s2
    exact A.inj j k xs ys a e1 e2 w1 w2 s1 s2
def tExE (K : PySem.W.Frag) (xc : XC) (t : Gx → TE) : TE := fun σ H Q => ∃ G : Gx, G.K = K ∧ G.xc = xc ∧ GOk G ∧ t G σ H Q
theorem peEx {X : Cx} {e : Expr} {K : PySem.W.Frag} {xc : XC} {t : Gx → TE} (h : ∀ G : Gx, G.K = K → G.xc = xc → GOk G → PE X e (t G)) : PE X e (tExE K xc t) := ⟨fun pins s σ H Q I q => by
  obtain ⟨G, hK, hc, gok, q⟩ := q
  exact (h G hK hc gok).run pins s σ H Q I q⟩
/-- the law's mirror, its first row apart -/
def sFirst (n i j : Nat) (me : ME) (m : MS) : FS → SR := fun f => sBind (me (List.replicate n .no) f) fun d f1 => m ((entryLaw n i).set j (.d d)) f1
def spLaw2 (K : PySem.W.Frag) (tb : List (Addr × Str)) (me : ME) (m : MS) (n i j : Nat) : Sp := fun vs H Q _ => ∃ (a : Addr) (ns : List Int), vs = [.ref a] ∧ LamX.Tabs tb H ∧ SqL K H a (ns.map V.int) ∧ ns.length ≤ 63 ∧ (∃ f, sFirst n i j me m ⟨ns, 0, 0, 0⟩ = .ret (.bool true) f) ∧ ∀ H', Q (.bl true) H'
theorem law_read2 {K : PySem.W.Frag} {xc : XC} {N : List Str} {me : ME} {m : MS} {i j : Nat} {vs : List V} {H : Hp} {Q : VK} {E : XK} {W : WX} (h : spLaw2 K xc.tb me m N.length i j vs H Q E) (hN : 1 ≤ N.length) :
    tSeq (L2.tAsg (tTup (tCons (tCallP (spFeed K) (WE W) (tCons (tVar 0) tNil)) (tCons (tExE K xc fun G => tM G W me) tNil))) (gTup K 2 (gCons (gName i) (gCons (gName j) gNil)))) (tEx K xc fun G => tMS G W m) { nx := fun _ H' => Q .non H', rt := Q } (L2.start N vs) H := by
  obtain ⟨a, ns, rfl, tb, hS, hl, ⟨f, hm⟩, hQ⟩ := h
  have e0 : (L2.start N [.ref a])[0]? = some (some (.ref a)) := by
    unfold L2.start
    rw [List.map_cons, List.map_nil]
    rfl
  refine ⟨.ref a, e0, a, ns, rfl, hS, hl, fun p c H' hpc hp hc hk => ?_⟩
  have hfd : FeedOk K (fun b => b = p) H' (some p) c ⟨ns, 0, 0, 0⟩ := ⟨rfl, hp, fun z => hpc z.symm, hc⟩
  have gok : GOk (⟨K, H', fun b => b = p, some p, c, xc, none⟩ : Gx) := ⟨fun b e => FeedOk.own hfd e⟩
  have hlen : (L2.start N [.ref a]).length = N.length := by unfold L2.start; rw [List.length_append, List.length_map, List.length_replicate, List.length_singleton]; omega
  have A0 : Agr (⟨K, H', fun b => b = p, some p, c, xc, none⟩ : Gx) (fun b => b = p) (L2.start N [.ref a]) H' (List.replicate N.length .no) ⟨ns, 0, 0, 0⟩ := by
    refine ⟨fun b o _ _ e => e, fun _ h => h, fun _ h => .inl h, fun b hb => ⟨fdDict c ⟨ns, 0, 0, 0⟩, by subst hb; exact hp, notTbl_dK⟩, hfd, by rw [hlen, List.length_replicate], fun j s e => ?_, fun j k xs ys b e1 _ w1 => ?_, tb.ext hk⟩
    · rw [List.getElem?_replicate] at e
      split at e
      · cases e; trivial
      · cases e
    · rw [List.getElem?_replicate] at e1
      split at e1 <;> cases e1
      exact w1.elim
  refine ⟨⟨K, H', fun b => b = p, some p, c, xc, none⟩, rfl, rfl, gok, fun b => b = p, List.replicate N.length .no, ⟨ns, 0, 0, 0⟩, A0, ?_⟩
  unfold sFirst at hm
  cases em : me (List.replicate N.length .no) ⟨ns, 0, 0, 0⟩ with
  | bad => rw [em] at hm; cases hm
  | exc x f1 => rw [em] at hm; cases hm
  | ok d f1 =>
    rw [em] at hm
    intro v H2 A2 _ rv
    refine ⟨Nat.le_trans (by show 2 ≤ lim; decide) lim_line, fun q hq => ⟨q, _, rfl, SqT.of upd_same, rfl, ?_⟩⟩
    have A3 := ((A2.same (same_upd (o := .tup [.ref p, v]) hq)).setFd i rfl).setD j (Rp.step (.of_same (same_upd hq)) _ _ rv)
    refine ⟨_, _, rfl, _, _, rfl, rfl, ⟨K, H', fun b => b = p, some p, c, xc, none⟩, rfl, rfl, gok, fun b => b = p, _, f1, A3, ?_⟩
    have hm : m ((entryLaw N.length i).set j (.d d)) f1 = .ret (.bool true) f := hm
    show PostS _ _ _ _ (m ((entryLaw N.length i).set j (.d d)) f1) _
    rw [hm]
    intro O' σ' ρ' v H'' A' s' r
    cases r
    exact hQ _
theorem spLaw2_len {K : PySem.W.Frag} {tb : List (Addr × Str)} {me : ME} {m : MS} {n i j : Nat} {x : Str} : ∀ vs H Q E, spLaw2 K tb me m n i j vs H Q E → vs.length = [x].length := fun vs H Q E h => by
  obtain ⟨a, ns, rfl, _⟩ := h
  rfl
end Mir

set_option Elab.async false
set_option linter.all false
set_option maxRecDepth 100000
set_option maxHeartbeats 4000000
namespace Mir
open PySem PySem.Spec PyProof.Rows L2
/-! ### a def's promise from its datum -/
theorem fnG_D {P : Program} {w : World} {K : PySem.W.Frag} {mg : Str → Option Value} {base : Heap} {k : Nat} {x : Str} {st : Stmt} {f : Addr} {fd : FuncData} {N ps : List Str} {sp : Sp} (F : FunD K x x (defArgs st) (defBody st) (defScope st) [] [] f fd) (S : FnScope N ps (defScope st))
    (len : ∀ vs H Q E, sp vs H Q E → vs.length = ps.length)
    (hbody : ∀ (cdv : Value), CodeIs K f x cdv → ∀ (A : Around) (outer : List Env) (s : Shared) (H : Hp) (vs : List V) (Q : VK) (E : XK), Room k (A.deeper (envOfC x (defScope st) s.heap.objs.size f cdv)) → A.guards = some [] → sp vs H Q E →
      ∃ t, PSs (cxOf (L2.CX P w) P w K mg base N x (defScope st) f cdv A outer s H E) (defBody st) t ∧ t { nx := fun _ H' => Q .non H', rt := Q } (L2.start N vs) H) :
    FnG P w K mg base (L2.CX P w) (k + 1) f fd ps sp := by
  obtain ⟨oc, od, dV, kV, doc, pm, an, cdv, ct, osl, rfl, lk, hcd, _, _⟩ := F.ex
  exact fnG_of lk hcd S len fun A outer s H vs Q E hr hgd hsp => hbody cdv ⟨oc, od, _, osl, lk, rfl, hcd⟩ A outer s H vs Q E hr hgd hsp
theorem spFeed_len {K : PySem.W.Frag} {ps : List Str} (hp : ps.length = 1) (vs : List V) (H : Hp) (Q : VK) (E : XK) (h : spFeed K vs H Q E) : vs.length = ps.length := by
  obtain ⟨a, ns, rfl, _⟩ := h
  exact hp.symm
theorem spLaw_len {K : PySem.W.Frag} {tb : List (Addr × Str)} {m : MS} {n i : Nat} {ps : List Str} (hp : ps.length = 1) (vs : List V) (H : Hp) (Q : VK) (E : XK) (h : spLaw K tb m n i vs H Q E) : vs.length = ps.length := by
  obtain ⟨a, ns, rfl, _⟩ := h
  exact hp.symm
/-- the feed's maker -/
structure FeedAtD (P : Program) (w : World) (K : PySem.W.Frag) (mg : Str → Option Value) (base : Heap) (x y : Str) : Prop where
  ex : ∃ f fd, mg x = some (.ref f) ∧ PySem.W.keepIn K (.ref f) = true ∧ FnG P w K mg base (L2.CX P w) 1 f fd [y] (spFeed K) ∧ ∀ us : List Value, us.length = 1 → ∀ s : Shared, BindsTo s fd ⟨us, []⟩ ([y].zip us)
/-! ### data of the module's names -/
mutual
def isData (K : PySem.W.Frag) : D → Value → Bool
  | .none, .none => true
  | .bool b, .bool c => decide (b = c)
  | .int i, .int j _ => decide (i = j)
  | .str x, .str y _ => decide (x = y)
  | .tuple ds, .ref a => match K.lookup a with
    | some ⟨.type t, _, .seq its _, _⟩ => decide (t = "tuple") && decide (its.size ≤ sizeLine) && isDatas K ds its.toList
    | _ => false
  | _, _ => false
def isDatas (K : PySem.W.Frag) : List D → List Value → Bool
  | [], [] => true
  | d :: ds, u :: us => isData K d u && isDatas K ds us
  | _, _ => false
end
mutual
theorem isData_ok {K : PySem.W.Frag} : ∀ (d : D) (u : Value), isData K d u = true → ∃ v, RelV v u ∧ ∀ O H, Rp K O H v d
  | .none, u, h => by
    cases u <;> first | exact ⟨.non, rfl, fun _ _ => .non⟩ | (unfold isData at h; cases h)
  | .bool b, u, h => by
    cases u with
    | bool c =>
      unfold isData at h
      cases of_decide_eq_true h
      exact ⟨.bl b, rfl, fun _ _ => .bl b⟩
    | _ => unfold isData at h; cases h
  | .int b, u, h => by
    cases u with
    | int c t =>
      unfold isData at h
      cases of_decide_eq_true h
      exact ⟨.int b, ⟨t, rfl⟩, fun _ _ => .int b⟩
    | _ => unfold isData at h; cases h
  | .str b, u, h => by
    cases u with
    | str c t =>
      unfold isData at h
      cases of_decide_eq_true h
      exact ⟨.str b, ⟨t, rfl⟩, fun _ _ => .str b⟩
    | _ => unfold isData at h; cases h
  | .tuple ds, u, h => by
    cases u with
    | ref a =>
      unfold isData at h
      split at h
      · rename_i t od its n sl e
        simp only [Bool.and_eq_true, decide_eq_true_eq] at h
        obtain ⟨⟨rfl, h2⟩, h3⟩ := h
        obtain ⟨vs, r, rp⟩ := isDatas_ok ds its.toList h3
        exact ⟨.ref a, rfl, fun O H => .tup (.inr ⟨_, its, n, e, rfl, rfl, h2, r⟩) (rp O H)⟩
      · cases h
    | _ => unfold isData at h; cases h
  | .list ds, u, h => by
    cases u <;> (unfold isData at h; cases h)
  | .dict ds, u, h => by
    cases u <;> (unfold isData at h; cases h)
theorem isDatas_ok {K : PySem.W.Frag} : ∀ (ds : List D) (us : List Value), isDatas K ds us = true → ∃ vs, Vals vs us ∧ ∀ O H, RpAll K O H vs ds
  | [], us, h => by
    cases us with
    | nil => exact ⟨[], .nil, fun _ _ => .nil⟩
    | cons u us => unfold isDatas at h; cases h
  | d :: ds, us, h => by
    cases us with
    | nil => unfold isDatas at h; cases h
    | cons u us =>
      unfold isDatas at h
      rw [Bool.and_eq_true] at h
      obtain ⟨v, r, rp⟩ := isData_ok d u h.1
      obtain ⟨vs, rs, rps⟩ := isDatas_ok ds us h.2
      exact ⟨v :: vs, .cons r rs, fun O H => .cons (rp O H) (rps O H)⟩
end
def datK (K : PySem.W.Frag) (p : Str × D) : Bool := match PySem.W.nsIn K mainGlobals p.1 with
  | some (some u) => isData K p.2 u
  | _ => false
theorem gdata_of {K : PySem.W.Frag} {h : Heap} {mg : Str → Option Value} {p : Str × D} (X : K.In h) (G : h.Ns mainGlobals mg) (c : datK K p = true) : GData K mg p.1 p.2 := by
  unfold datK at c
  split at c
  · rename_i u e
    obtain ⟨v, r, rp⟩ := isData_ok _ _ c
    exact ⟨u, v, PySem.W.mg_of X G e, r, rp⟩
  · cases c
/-! ### the head's Hook: facts, defs, data -/
def obsM (n : Nat) (fa : List He.Fa) (fn : List He.DefD) (dt : List (Str × D)) (g : Addr → Option Obj) : He.AlD × Bool := (He.obsDG n fa fn g, dt.all (datK (He.frG g (He.asD g n))))
def SaysM (fa : List He.Fa) (fn : List He.DefD) (dt : List (Str × D)) (K : PySem.W.Frag) : Prop := He.SaysD fa fn K ∧ dt.all (datK K) = true
def hookM (n : Nat) (fa : List He.Fa) (fn : List He.DefD) (dt : List (Str × D)) : PySem.W.Hook where
  α := He.AlD × Bool
  obs := fun s => obsM n fa fn dt s.heap.get?
  val := fun _ => (He.valD fn, true)
  says := fun _ h => ∃ K : PySem.W.Frag, K.In h ∧ SaysM fa fn dt K
  of := fun _ _ e => ⟨_, He.frG_in, congrArg Prod.fst e, congrArg Prod.snd e⟩
  keeps := fun _ _ _ q k => by
    obtain ⟨K, hK, c⟩ := q
    exact ⟨K, PySem.W.Frag.In.keeps hK k, c⟩
theorem obsM_eq {n : Nat} {fa : List He.Fa} {fn : List He.DefD} {dt : List (Str × D)} {g : Addr → Option Obj} {s : Shared} (h : ∀ a, g a = s.heap.get? a) : obsM n fa fn dt g = (hookM n fa fn dt).obs s := by
  cases (show g = s.heap.get? from funext h)
  rfl
def defOf (x : Str) (st : Stmt) : He.DefD := ⟨(x, none), x, x, defArgs st, defBody st, defScope st, [], []⟩
theorem def_says {fa : List He.Fa} {fn : List He.DefD} {dt : List (Str × D)} {K : PySem.W.Frag} {h : Heap} {mg : Str → Option Value} {x : Str} {st : Stmt} (X : K.In h) (G : h.Ns mainGlobals mg) (c : SaysM fa fn dt K) (i : Nat) (hi : fn[i]? = some (defOf x st)) (j : Nat) (hj : fa[j]? = some (.glo x)) :
    ∃ f fd, mg x = some (.ref f) ∧ FunD K x x (defArgs st) (defBody st) (defScope st) [] [] f fd := by
  obtain ⟨fd, F⟩ := c.1.def_ i hi
  exact ⟨_, fd, He.glo_ok X G (c.1.fact j hj), F⟩
theorem free_says {fa : List He.Fa} {fn : List He.DefD} {dt : List (Str × D)} {K : PySem.W.Frag} {h : Heap} {mg : Str → Option Value} {x : Str} (X : K.In h) (G : h.Ns mainGlobals mg) (c : SaysM fa fn dt K) (j : Nat) (hj : fa[j]? = some (.free x)) : mg x = none :=
  He.free_ok X G (c.1.fact j hj)
theorem data_says {fa : List He.Fa} {fn : List He.DefD} {dt : List (Str × D)} {K : PySem.W.Frag} {h : Heap} {mg : Str → Option Value} {x : Str} {d : D} (X : K.In h) (G : h.Ns mainGlobals mg) (c : SaysM fa fn dt K) (j : Nat) (hj : dt[j]? = some (x, d)) : GData K mg x d :=
  gdata_of X G (p := (x, d)) (List.all_eq_true.mp c.2 _ (List.mem_of_getElem? hj))
end Mir

set_option Elab.async false
set_option linter.all false
set_option maxRecDepth 100000
set_option maxHeartbeats 4000000
namespace Mir
open PySem PySem.Spec PyProof.Rows L2
/-! ### an exception's own class: what the head can test -/
def oexB (K : PySem.W.Frag) (C : Addr) : Bool := match K.lookup C with
  | some ⟨.type t, _, .cls cd, sl⟩ => decide (t = "type") && (match cd.mro, sl.toList with
    | .ref C' :: bm, [_, _, _, _, some (.builtin n), _] => decide (C' = C) && (decide (n = "ValueError.__new__") && (!cd.hasDel && (cd.hasDict && PySem.HandSPX.refsVE bm)))
    | _, _ => false)
  | _ => false
theorem oexB_ok {K : PySem.W.Frag} {C : Addr} (h : oexB K C = true) :
    ∃ nm q N bs bm sn sub ab col dd k0 k1 k2 k3 k5, K.lookup C = some (excClassObj nm q C N bs bm true sn sub ab col dd k0 k1 k2 k3 k5 "ValueError.__new__") ∧ PySem.HandSPX.refsVE bm = true := by
  unfold oexB at h
  split at h
  · rename_i t dd cd sl e
    rw [Bool.and_eq_true, decide_eq_true_eq] at h
    obtain ⟨rfl, h⟩ := h
    split at h
    · rename_i C' bm k0 k1 k2 k3 n k5 hm hs
      simp only [Bool.and_eq_true, decide_eq_true_eq, Bool.not_eq_true'] at h
      obtain ⟨rfl, rfl, hdel, hd, hr⟩ := h
      obtain ⟨nm, bs, mro, ns, qn, hdd, sn, sub, ab, col, del⟩ := cd
      obtain ⟨sl⟩ := sl
      dsimp only at hm hdel hd hs
      subst hm hdel hd hs
      exact ⟨_, _, _, _, _, _, _, _, _, _, _, _, _, _, _, e, hr⟩
    · cases h
  · cases h
/-- all that an own exception class with these fields must say -/
def excB (K : PySem.W.Frag) (x : Str) (names : List Str) : Bool :=
  oexB K (He.ga K x) && (decide (PySem.W.findIn K (.ref (He.ga K x)) "__setattr__" = some (some (.builtin "object.__setattr__"))) && (decide (PySem.W.subIn K (.ref (He.ga K x)) (.type "BaseException") = some true) &&
    (decide (PySem.W.typeIn K (.ref (He.ga K x)) = some (.type "type")) && (PySem.W.keepIn K (.ref (He.ga K x)) && ((names.all fun f => decide (PySem.W.findIn K (.ref (He.ga K x)) f = some none)) &&
      (decide (PySem.W.findIn K (.ref (He.ga K x)) "__init__" = some (some (.ref (He.ma K (He.ga K x) "__init__")))) && (decide (PySem.W.typeIn K (.ref (He.ma K (He.ga K x) "__init__")) = some (.type "function")) && xfB K (He.ga K x))))))))
structure ExcK (K : PySem.W.Frag) (C fI : Addr) (names : List Str) : Prop where
  o : OexC K C
  no : ∀ f ∈ names, PySem.W.findIn K (.ref C) f = some none
  iC : PySem.W.findIn K (.ref C) "__init__" = some (some (.ref fI))
  tI : PySem.W.typeIn K (.ref fI) = some (.type "function")
  xf : XfC K C
theorem excB_ok {K : PySem.W.Frag} {x : Str} {names : List Str} (h : excB K x names = true) : ExcK K (He.ga K x) (He.ma K (He.ga K x) "__init__") names := by
  unfold excB at h
  simp only [Bool.and_eq_true, decide_eq_true_eq, List.all_eq_true] at h
  obtain ⟨h1, h2, h3, h4, h5, h6, h7, h8, h9⟩ := h
  exact ⟨⟨oexB_ok h1, h2, h3, h4, h5⟩, h6, h7, h8, xfB_ok h9⟩
/-! ### __init__: self.f = f, .. -/
def spInit (C : Addr) (names : List Str) : Sp := fun vs H Q _ => ∃ (a : Addr) (ws : List V), vs = .ref a :: ws ∧ ws.length = names.length ∧ H a = some (exo a C none) ∧
  ∀ dx H', H dx = none → dx ≠ a → H' a = some (exo a C (some dx)) → H' dx = some (exd dx (names.reverse.zip ws.reverse)) → (∀ b, b ≠ a → b ≠ dx → H' b = H b) → Q .non H'
theorem spInit_len {C : Addr} {names ps : List Str} (hp : ps.length = names.length + 1) (vs : List V) (H : Hp) (Q : VK) (E : XK) (h : spInit C names vs H Q E) : vs.length = ps.length := by
  obtain ⟨a, ws, rfl, hl, _⟩ := h
  rw [hp, List.length_cons, hl]
theorem start_at {N : List Str} {vs : List V} {i : Nat} {v : V} (h : vs[i]? = some v) : (L2.start N vs)[i]? = some (some v) := by
  unfold L2.start
  have hi : i < vs.length := (List.getElem?_eq_some_iff.mp h).1
  rw [List.getElem?_append_left (by rw [List.length_map]; exact hi), List.getElem?_map, h]
  rfl
theorem init1_read {K : PySem.W.Frag} {C fI : Addr} {f1 : Str} {N : List Str} {vs : List V} {H : Hp} {Q : VK} {E : XK} (T : ExcK K C fI [f1]) (h : spInit C [f1] vs H Q E) :
    tOst K f1 (tVar 0) (tVar 1) { nx := fun _ H' => Q .non H', rt := Q } (L2.start N vs) H := by
  obtain ⟨a, ws, rfl, hl, ea, hq⟩ := h
  match ws, hl with
  | [y1], _ =>
    refine ⟨y1, start_at rfl, .ref a, start_at rfl, a, C, rfl, T.o, T.no f1 (by simp), .inl ⟨ea, fun dx hn hne => ?_⟩⟩
    exact hq dx _ hn hne (upd_same ..) (by rw [upd_ne hne, upd_same]; rfl) fun b h1 h2 => by rw [upd_ne h1, upd_ne h2]
theorem init2_read {K : PySem.W.Frag} {C fI : Addr} {f1 f2 : Str} {N : List Str} {vs : List V} {H : Hp} {Q : VK} {E : XK} (T : ExcK K C fI [f1, f2]) (h : spInit C [f1, f2] vs H Q E) :
    tSeq (tOst K f1 (tVar 0) (tVar 1)) (tOst K f2 (tVar 0) (tVar 2)) { nx := fun _ H' => Q .non H', rt := Q } (L2.start N vs) H := by
  obtain ⟨a, ws, rfl, hl, ea, hq⟩ := h
  match ws, hl with
  | [y1, y2], _ =>
    refine ⟨y1, start_at rfl, .ref a, start_at rfl, a, C, rfl, T.o, T.no f1 (by simp), .inl ⟨ea, fun dx hn hne => ?_⟩⟩
    refine ⟨y2, start_at rfl, .ref a, start_at rfl, a, C, rfl, T.o, T.no f2 (by simp), .inr ⟨dx, [(f1, y1)], upd_same .., by rw [upd_ne hne, upd_same], by show 1 ≤ 900; omega, ?_⟩⟩
    exact hq dx _ hn hne (by rw [upd_ne (Ne.symm hne), upd_same]) (by rw [upd_same]; rfl) fun b h1 h2 => by rw [upd_ne h2, upd_ne h1, upd_ne h2]
/-! ### raise C(e, ..) -/
structure MkAt (P : Program) (w : World) (K : PySem.W.Frag) (mg : Str → Option Value) (base : Heap) (xc : XC) (x : Str) (k : Nat) (names : List Str) : Prop where
  ex : ∃ (C fI : Addr) (fd : FuncData) (ps : List Str), mg x = some (.ref C) ∧ xc.cls k = .ref C ∧ xc.nm k = names.reverse ∧ ExcK K C fI names ∧ FnOk P w K mg base (L2.CX P w) 1 fI fd ps (spInit C names) ∧ Binds K fd ps []
def sRaise (k n : Nat) (ms : MA) : MS := fun ρ f => sBind (ms ρ f) fun ds f1 => if ds.length = n then .exc ⟨k, ds.reverse⟩ f1 else .bad
theorem psRaise {X : Cx} {G : Gx} {W : WX} {x : Str} {k n : Nat} {names : List Str} {ms : MA} {e : Expr} {es : List Expr} {p pos pos' : Pos} (M : MkAt X.prog X.w X.K X.mg X.base G.xc x k names) (hn : names.length = n) (hn2 : n ≤ 1000) (hc : X.calm = true) (hr : Room 2 X.A)
    (hg : Gl X x) (tk : Takes X W) (ha : PA X (e :: es) (tMA G W ms)) (hdb : (x == ("__debug__" : Str)) = false) (he : starEach (e :: es) X.env = (false, eval e X.env) :: starEach es X.env) (hpl : (backTo pos (starEach es X.env)).any (·.1) = false) :
    PS X (.Raise (some (.Call (.Name x p) (e :: es) [] pos)) none pos') (tMS G W (sRaise k n ms)) := by
  obtain ⟨C, fI, fd, ps, hm, hcl, hnm, T, F1, hb⟩ := M.ex
  refine psOf (ps_raise hc tk (pmk_oex (CX := L2.CX X.prog X.w) T.o T.iC T.tI F1 hr hb (dvs := []) .nil (passes_call tk fun _ _ _ _ z => z.elim) hg hm ha hdb he hpl)) fun D σ H q => ?_
  refine (sBind_read (rel := RpAll G.K) (k := fun ds _ f1 => if ds.length = n then SR.exc ⟨k, ds.reverse⟩ f1 else SR.bad) q).mono fun vs H1 h => ?_
  obtain ⟨O, ρ, f, ds, A, rs, p⟩ := h
  have hl := rs.length
  by_cases c : ds.length = n
  · rw [if_pos c] at p
    refine ⟨by omega, fun a ha0 => ⟨a, vs, by rw [List.append_nil], by omega, upd_same .., fun dx H' h1 h2 h3 h4 h5 => ⟨rfl, dx, _, h3, h4, by rw [upd_ne h2] at h1; exact h1, ?_⟩⟩⟩
    have hd1 : H1 dx = none := by rw [upd_ne h2] at h1; exact h1
    have s : Same H1 (upd (del H' a) dx (.xd (names.reverse.zip vs.reverse))) := fun b o eb => by
      have n1 : b ≠ a := fun z => by rw [z, ha0] at eb; cases eb
      have n2 : b ≠ dx := fun z => by rw [z, hd1] at eb; cases eb
      rw [upd_ne n2, del_ne n1, h5 b n1 n2, upd_ne n1]
      exact eb
    exact p O σ ρ _ _ _ (A.same s) (.of_same s) ⟨hcl.symm, dx, vs.reverse, rfl, by rw [hnm]; exact upd_same .., by rw [hnm, List.length_reverse, List.length_reverse]; omega, RpAll.step (.of_same s) _ _ rs.reverse, A.ot.fresh hd1⟩
  · rw [if_neg c] at p
    exact p.elim
end Mir

set_option Elab.async false
set_option linter.all false
set_option maxRecDepth 100000
set_option maxHeartbeats 4000000
namespace Mir
open PySem PySem.Spec PyProof.Rows L2
/-! ### a def called in an except suite, the exception in hand as its argument -/
structure FnX (P : Program) (w : World) (K : PySem.W.Frag) (mg : Str → Option Value) (base : Heap) (k : Nat) (f : Addr) (fd : FuncData) (ps : List Str) (sp : Addr × Obj → Sp) : Prop where
  len : ∀ p vs H Q E, sp p vs H Q E → vs.length = ps.length
  run : ∀ (A : Around) (outer : List Env) (s : Shared) (H : Hp) (args : Args) (us : List Value) (vs : List V) (Q : VK) (E : XK) (p : Addr × Obj), L2H.RoomH k A → A.guards = some [] → L2H.PinOk outer H s p → Env0 P w K mg base A outer s H → BindsTo s fd args (ps.zip us) → Vals vs us → sp p vs H Q E →
    codeAny (model P w) A (.call (.ref f) args) (CR C8.CX0 outer P w H s Q E) s
theorem fnX_of {P : Program} {w : World} {K : PySem.W.Frag} {mg : Str → Option Value} {base : Heap} {k : Nat} {f : Addr} {name qual : Str} {params : Arguments} {body : List Stmt} {scope : Scope} {dV kV doc pm cdv ct oc : Value} {an od : Option Addr}
    {osl : Array (Option Value)} {N ps : List Str} {sp : Addr × Obj → Sp} (lk : K.lookup f = some ⟨oc, od, .func (PySem.W.fnOf name qual params body scope dV kV doc pm an cdv ct), osl⟩) (hcd : PySem.W.codeIn K cdv qual = true) (S : FnScope N ps scope)
    (len : ∀ p vs H Q E, sp p vs H Q E → vs.length = ps.length)
    (hbody : ∀ (A : Around) (outer : List Env) (s : Shared) (H : Hp) (vs : List V) (Q : VK) (E : XK) (p : Addr × Obj), L2H.RoomH k (A.deeper (envOfC qual scope s.heap.objs.size f cdv)) → A.guards = some [] → sp p vs H Q E →
      ∃ t, PSs (L2H.cxH C8.CX0 P w K mg base N qual scope f cdv A outer s H E p) body t ∧ t { nx := fun _ H' => Q .non H', rt := Q } (L2.start N vs) H) :
    FnX P w K mg base (k + 1) f (PySem.W.fnOf name qual params body scope dV kV doc pm an cdv ct) ps sp := by
  refine ⟨len, fun A outer s H args us vs Q E p hr hgd hpin e0 hb r hsp => ?_⟩
  have hl := len _ _ _ _ _ hsp
  have KX : K.In s.heap := e0.mod.kin.keeps fun b o e => (e0.bs b o e).1
  have lim : s.heap.NoLimit := e0.mod.nolimit.keeps fun b o e => (e0.bs b o e).1
  have hkind : ∀ y ∈ ps.zip us, scope.names.lookup y.1 = some .local ∨ (scope.names.lookup y.1 = some .cell ∧ ((cellsFrom (s.heap.objs.size + 1) scope.names []).lookup y.1).isSome = true) := fun ⟨n, v⟩ hy => by
    rcases S.par n (List.of_mem_zip hy).1 with q | q
    · exact .inl q
    · exact .inr ⟨q, PySem.W.cellsFrom_some _ _ _ (.inl q)⟩
  refine codeAny_call_function hr.depth (KX _ _ lk) rfl S.co S.gen rfl (PySem.W.codeRec_of KX hcd) (hb _ _ _ _ ?_)
  refine wpAny_newFunctionEnv_cells S.kind hkind fun env he s1 x => ?_
  subst he
  refine ⟨lim.keeps x.toInCall.keep, codeAny_func ?_⟩
  obtain ⟨t, ht, hq⟩ := hbody A outer s H vs Q E p (hr.deeper _) hgd hsp
  have I : Inv (L2H.cxH C8.CX0 P w K mg base N qual scope f cdv A outer s H E p) [] (L2.start N vs) H s1 := L2H.inv_startH S hpin e0 hl r x
  refine wpAny_mono (ht.run [] s1 (L2.start N vs) H _ I hq) (fun fl s' hs => ?_) fun e s' hs => hs
  have fin : ∀ {σ' : L2.St} {H' : Hp} {v : V} {u : Value}, Inv (L2H.cxH C8.CX0 P w K mg base N qual scope f cdv A outer s H E p) [] σ' H' s' → RelV v u → Q v H' → CE outer P w H s Q u s' :=
    fun {σ' H' v u} J rv q => ⟨v, H', J.os, J.bare, J.base, J.hok, rv, q⟩
  cases fl with
  | ret u =>
    obtain ⟨v, σ', H', J, rv, q⟩ := hs
    exact fin J rv q
  | next =>
    obtain ⟨σ', H', J, q⟩ := hs
    exact fin (v := V.non) (u := Value.none) J rfl q
  | brk =>
    obtain ⟨_, _, _, q⟩ := hs
    exact False.elim q
  | cont =>
    obtain ⟨_, _, _, q⟩ := hs
    exact False.elim q
theorem fnX_D {P : Program} {w : World} {K : PySem.W.Frag} {mg : Str → Option Value} {base : Heap} {k : Nat} {x : Str} {st : Stmt} {f : Addr} {fd : FuncData} {N ps : List Str} {sp : Addr × Obj → Sp} (F : FunD K x x (defArgs st) (defBody st) (defScope st) [] [] f fd) (S : FnScope N ps (defScope st))
    (len : ∀ p vs H Q E, sp p vs H Q E → vs.length = ps.length)
    (hbody : ∀ (cdv : Value), CodeIs K f x cdv → ∀ (A : Around) (outer : List Env) (s : Shared) (H : Hp) (vs : List V) (Q : VK) (E : XK) (p : Addr × Obj), L2H.RoomH k (A.deeper (envOfC x (defScope st) s.heap.objs.size f cdv)) → A.guards = some [] → sp p vs H Q E →
      ∃ t, PSs (L2H.cxH C8.CX0 P w K mg base N x (defScope st) f cdv A outer s H E p) (defBody st) t ∧ t { nx := fun _ H' => Q .non H', rt := Q } (L2.start N vs) H) :
    FnX P w K mg base (k + 1) f fd ps sp := by
  obtain ⟨oc, od, dV, kV, doc, pm, an, cdv, ct, osl, rfl, lk, hcd, _, _⟩ := F.ex
  exact fnX_of lk hcd S len fun A outer s H vs Q E p hr hgd hsp => hbody cdv ⟨oc, od, _, osl, lk, rfl, hcd⟩ A outer s H vs Q E p hr hgd hsp
/-! ### what the classes say -/
/-- nms: the fields of each class, the last first -/
structure XcOk (K : PySem.W.Frag) (xc : XC) (nms : Nat → List Str) : Prop where
  nm : ∀ k, xc.nm k = nms k
  cl : ∀ (k : Nat) (C : Addr), xc.cls k = .ref C → XfC K C ∧ (PySem.W.clsIn K C).isSome = true ∧ PySem.W.findIn K (.ref C) "__class__" = some (some (.builtin "object.__class__")) ∧
    PySem.W.specialIn K (.builtin "object.__class__") "__get__" = some (some (.builtin "getset_descriptor.__get__")) ∧ PySem.W.takesIn K (.builtin "object.__class__") = some true ∧ PySem.W.mroIn K C (.type "object") = some true ∧
    ∀ n ∈ nms k, PySem.W.findIn K (.ref C) n = some none
/-- the exception in hand, seen from the context of a run -/
structure XIn (X : Cx) (G : Gx) (x : XV) : Prop where
  ex : ∃ (a : Addr) (oe : Obj) (C dd : Addr) (vs : List V), G.xa = some a ∧ (a, oe) ∈ X.pn ∧ Zc (.ref C) (some dd) oe ∧ (∃ vs, oe.data = .fields vs) ∧ G.xc.cls x.cls = .ref C ∧ ¬ G.O0 dd ∧ G.fa ≠ some dd ∧
    G.H0 dd = some (.xd ((G.xc.nm x.cls).zip vs)) ∧ vs.length = (G.xc.nm x.cls).length ∧ RpAll G.K G.O0 G.H0 vs x.fs
/-- what stood at the entry and was not owned, stands -/
theorem Agr.old {G : Gx} {O : AS} {σ : L2.St} {H : Hp} {ρ : List Sl} {f : FS} (A : Agr G O σ H ρ f) (gok : GOk G) : StepP G.O0 G.H0 O H := fun b o n t e => by
  have hb : some b ≠ G.fa := fun z => n (gok.fo b z.symm)
  refine ⟨A.grow b o hb t e, fun ho => ?_⟩
  rcases A.onew b ho with h | h
  · exact n h
  · exact h o t e
theorem notTbl_xd {fs : List (Str × V)} : notTbl (.xd fs) := fun _ z => by cases z
section
variable {X : Cx} {G : Gx} {W : WX} {x : XV}
theorem slot_x {O : AS} {σ : L2.St} {H : Hp} {ρ : List Sl} {f : FS} {i : Nat} (A : Agr G O σ H ρ f) (e : ρ[i]? = some .x) {a : Addr} (ha : G.xa = some a) : σ[i]? = some (some (.ref a)) := by
  obtain ⟨b, eb, hb⟩ := A.slots i _ e
  rw [ha] at hb
  cases hb
  exact eb
/-! ### e.f -/
def eXf (nms : Nat → List Str) (x : XV) (n : Str) (i : Nat) : ME := fun ρ f => match ρ[i]? with
  | some .x => ofO (((nms x.cls).zip x.fs).lookup n) f
  | _ => .bad
theorem zip_look {K : PySem.W.Frag} {O : AS} {H : Hp} {n : Str} {d : D} : ∀ (ks : List Str) (vs : List V) (ds : List D), RpAll K O H vs ds → (ks.zip ds).lookup n = some d → ∃ v, (ks.zip vs).lookup n = some v ∧ Rp K O H v d ∧ n ∈ ks
  | [], _, _, _, e => by simp at e
  | k :: ks, _, _, .nil, e => by simp at e
  | k :: ks, _, _, .cons (v := v) (vs := vs) (d := d0) (ds := ds) r rs, e => by
    rw [List.zip_cons_cons, List.lookup_cons] at e
    rw [List.zip_cons_cons, List.lookup_cons]
    by_cases h : (n == k) = true
    · rw [h] at e ⊢
      cases e
      exact ⟨v, rfl, r, by rw [eq_of_beq h]; exact List.mem_cons_self ..⟩
    · have h' : (n == k) = false := by simpa using h
      rw [h'] at e ⊢
      obtain ⟨v', e1, e2, e3⟩ := zip_look ks _ _ rs e
      exact ⟨v', e1, e2, List.mem_cons_of_mem _ e3⟩
theorem mXf {nms : Nat → List Str} {n v : Str} {i : Nat} {p1 pos : Pos} (gok : GOk G) (hK : G.K = X.K) (T : XcOk X.K G.xc nms) (hx : XIn X G x) (hv : PE X (.Name v p1) (tVar i)) (hb : attributeBase (.Name v p1) n X.env (eval (.Name v p1) X.env) = eval (.Name v p1) X.env := by rfl) :
    PE X (.Attribute (.Name v p1) n pos) (tM G W (eXf nms x n i)) := by
  obtain ⟨a, oe, C, dd, vs, ha, hp, hz, ⟨fv, hd⟩, hC, nO, nF, hdd, hl, rs⟩ := hx.ex
  obtain ⟨xf, _, _, _, _, _, hno⟩ := T.cl _ _ hC
  refine ⟨fun pins s σ H Q I h => ?_⟩
  obtain ⟨O, ρ, f, A, pp⟩ := h
  cases e : ρ[i]? with
  | none => rw [show eXf nms x n i ρ f = .bad by simp only [eXf, e]] at pp; exact pp.elim
  | some sl =>
    cases sl with
    | x =>
      rw [show eXf nms x n i ρ f = ofO (((nms x.cls).zip x.fs).lookup n) f by simp only [eXf, e]] at pp
      cases el : ((nms x.cls).zip x.fs).lookup n with
      | none => rw [el] at pp; exact pp.elim
      | some d =>
        rw [el] at pp
        have st := A.old gok
        obtain ⟨v1, e1, r1, hn⟩ := zip_look (n := n) (d := d) _ _ _ (RpAll.step st _ _ rs) el
        have ed : H dd = some (.xd ((G.xc.nm x.cls).zip vs)) := (st dd _ nO notTbl_xd hdd).1
        refine attr_of hb (thn (hv.run pins s σ H (fun y H1 => y = .ref a ∧ H1 = H) I ⟨.ref a, slot_x A e ha, rfl, rfl⟩) fun u s1 hh => ?_)
        obtain ⟨y, H1, I1, ry, ey, eH⟩ := hh
        subst ey eH
        obtain rfl : u = Value.ref a := ry
        obtain ⟨hget, _⟩ := I1.pin (a, oe) (List.mem_append_left _ hp)
        have hx : ObjOk X.prog X.w H1 s1.heap dd (.xd ((G.xc.nm x.cls).zip vs)) := I1.hok dd _ ed
        obtain ⟨mA, hns, hr⟩ := hx
        obtain ⟨od, ho, hlk⟩ := lookIn_ns hns
        obtain ⟨u1, hu, ru⟩ := RelO.some_of (v := v1) (o := mA n) (by rw [← e1, ← T.nm]; exact hr n)
        have J : PySem.W.InstAt s1.heap a oe C (some od) := ⟨hget, hz.1, by unfold PySem.W.notCls; rw [hd] <;> rfl, by rw [hz.2]; exact ho⟩
        exact HandSPX.exc_get I1.kIn J xf.ga xf.gg xf.exC (PySem.W.findObj_own xf.hdC (hno n hn) rfl (by rw [hlk, hu])) (handed_of ru) ⟨v1, H1, I1.tok _, ru, pp v1 H1 A (.refl _ _) r1⟩
    | no => rw [show eXf nms x n i ρ f = .bad by simp only [eXf, e]] at pp; exact pp.elim
    | d x' => rw [show eXf nms x n i ρ f = .bad by simp only [eXf, e]] at pp; exact pp.elim
    | l xs => rw [show eXf nms x n i ρ f = .bad by simp only [eXf, e]] at pp; exact pp.elim
    | fd => rw [show eXf nms x n i ρ f = .bad by simp only [eXf, e]] at pp; exact pp.elim
    | m ks xs => rw [show eXf nms x n i ρ f = .bad by simp only [eXf, e]] at pp; exact pp.elim
/-! ### isinstance(e, C) -/
/-- tab: for each class whether its exceptions are some of the class that y names -/
structure IsK (K : PySem.W.Frag) (mg : Str → Option Value) (xc : XC) (y : Str) (tab : List Bool) : Prop where
  ex : ∃ (v : V) (cv : Value), (mg y = some cv ∨ (mg y = none ∧ bootBuiltins y = some cv)) ∧ RelV v cv ∧ (∀ u, RelV v u → u = cv) ∧ ∀ (k : Nat) (b : Bool) (C : Addr), xc.cls k = .ref C → tab[k]? = some b → PySem.W.kitOne K (.ref C) cv = some b
def eXi (tab : List Bool) (x : XV) (i : Nat) : ME := fun ρ f => match ρ[i]? with
  | some .x => ofO ((tab[x.cls]?).map PyData.bool) f
  | _ => .bad
theorem mXi {nms : Nat → List Str} {tab : List Bool} {v y b : Str} {i : Nat} {p p1 p2 pos : Pos} (gok : GOk G) (hK : G.K = X.K) (T : XcOk X.K G.xc nms) (Ty : IsK X.K X.mg G.xc y tab) (hx : XIn X G x) (hv : PE X (.Name v p1) (tVar i))
    (hg : Gl X b) (hm : X.mg b = none) (hbb : bootBuiltins b = some (.builtin "isinstance")) (hn : b ≠ "__name__") (hdb : (b == ("__debug__" : Str)) = false) (hgy : Gl X y) (hny : y ≠ "__name__") (hdy : (y == ("__debug__" : Str)) = false)
    (he : starEach [.Name v p1, .Name y p2] X.env = (false, eval (.Name v p1) X.env) :: starEach [.Name y p2] X.env) (he2 : starEach [.Name y p2] X.env = (false, eval (.Name y p2) X.env) :: starEach [] X.env) (hpl : (backTo pos (starEach [.Name y p2] X.env)).any (·.1) = false) :
    PE X (.Call (.Name b p) [.Name v p1, .Name y p2] [] pos) (tM G W (eXi tab x i)) := by
  obtain ⟨a, oe, C, dd, vs, ha, hp, hz, hf, hC, nO, nF, hdd, hl, rs⟩ := hx.ex
  obtain ⟨xf, c1, c2, c3, c4, c5, _⟩ := T.cl _ _ hC
  obtain ⟨vy, cv, hy, ry, uy, hkit⟩ := Ty.ex
  have call : CallR X (.builtin "isinstance") (fun xs H Q => ∃ (bb : Bool) (fs : List (Str × V)), xs = [.ref a, vy] ∧ PySem.W.kitOne X.K (.ref C) cv = some bb ∧ H dd = some (.xd fs) ∧ Q (.bl bb) H) := by
    intro pins s σ H xs us Q I r h
    obtain ⟨bb, fs, rfl, e, ed, q⟩ := h
    cases r with
    | cons rx rr =>
      cases rr with
      | cons rt rr =>
        cases rr
        cases rx
        have ec := uy _ rt
        subst ec
        obtain ⟨hget, _⟩ := I.pin (a, oe) (List.mem_append_left _ hp)
        obtain ⟨fv, hd⟩ := hf
        have hx : ObjOk X.prog X.w H s.heap dd (.xd fs) := I.hok dd _ ed
        obtain ⟨mA, hns, hr⟩ := hx
        obtain ⟨od, ho, hlk⟩ := lookIn_ns hns
        have J : PySem.W.InstAt s.heap a oe C (some od) := ⟨hget, hz.1, by unfold PySem.W.notCls; rw [hd] <;> rfl, by rw [hz.2]; exact ho⟩
        exact PySem.W.kia_one (PySem.W.kitx_exc c1 xf.ga xf.gg xf.exC c2 c3 c4 c5) I.kIn J e (fun z => nomatch z) fun tk => ⟨.bl bb, H, I.kept (t' := tk) fun _ _ z => z, rfl, q⟩
  have py : PE X (.Name y p2) (tC vy) := by
    rcases hy with h1 | ⟨h1, h2⟩
    · exact pe_glob hgy h1 ry hdy
    · exact pe_bltn hgy h1 h2 ry hny hdy
  refine peOf (pe_callB call hg hm hbb (pa_cons hv (pa_cons py pa_nil he2) he) hn hdb he hpl) fun σ H Q q => ?_
  obtain ⟨O, ρ, f, A, pp⟩ := q
  cases e : ρ[i]? with
  | none => rw [show eXi tab x i ρ f = .bad by simp only [eXi, e]] at pp; exact pp.elim
  | some sl =>
    cases sl with
    | x =>
      rw [show eXi tab x i ρ f = ofO ((tab[x.cls]?).map PyData.bool) f by simp only [eXi, e]] at pp
      cases et : tab[x.cls]? with
      | none => rw [et] at pp; exact pp.elim
      | some bb =>
        rw [et] at pp
        have st := A.old gok
        have ed : H dd = some (.xd ((G.xc.nm x.cls).zip vs)) := (st dd _ nO notTbl_xd hdd).1
        exact ⟨.ref a, slot_x A e ha, bb, _, rfl, hkit _ _ _ hC et, ed, pp _ H A (.refl _ _) (.bl bb)⟩
    | no => rw [show eXi tab x i ρ f = .bad by simp only [eXi, e]] at pp; exact pp.elim
    | d x' => rw [show eXi tab x i ρ f = .bad by simp only [eXi, e]] at pp; exact pp.elim
    | l xs => rw [show eXi tab x i ρ f = .bad by simp only [eXi, e]] at pp; exact pp.elim
    | fd => rw [show eXi tab x i ρ f = .bad by simp only [eXi, e]] at pp; exact pp.elim
    | m ks xs => rw [show eXi tab x i ρ f = .bad by simp only [eXi, e]] at pp; exact pp.elim
end
/-! ### the promise of such a def -/
def spX (K : PySem.W.Frag) (xc : XC) (g : XV → Option D) : Addr × Obj → Sp := fun p vs H Q _ => ∃ (O : AS) (x : XV) (C dd : Addr) (ws : List V) (d : D), vs = [.ref p.1] ∧ LamX.Tabs xc.tb H ∧ OT O H ∧ Zc (.ref C) (some dd) p.2 ∧ (∃ fv, p.2.data = .fields fv) ∧ xc.cls x.cls = .ref C ∧ ¬ O dd ∧
  H dd = some (.xd ((xc.nm x.cls).zip ws)) ∧ ws.length = (xc.nm x.cls).length ∧ RpAll K O H ws x.fs ∧ g x = some d ∧ ∀ v H', OutP none H H' → LamX.Tabs xc.tb H' → Rp K O H' v d → Q v H'
end Mir

set_option Elab.async false
set_option linter.all false
set_option maxRecDepth 100000
set_option maxHeartbeats 4000000
namespace Mir
open PySem PySem.Spec PyProof.Rows L2 LamX
/-! ### behind something that keeps all but tables -/
theorem Agr.outN {G : Gx} {O : AS} {σ : L2.St} {H H' : Hp} {ρ : List Sl} {f : FS} (A : Agr G O σ H ρ f) (gok : GOk G) (o : OutP none H H') (tb : LamX.Tabs G.xc.tb H') : Agr G O σ H' ρ f := by
  refine A.out o (fun b z => nomatch z) tb ?_ gok.fo
  have q := A.feed
  cases hfa : G.fa with
  | none => trivial
  | some a =>
    rw [hfa] at q
    obtain ⟨oa, ec, lc⟩ := q
    exact ⟨oa, o a _ (by simp) notTbl_dK ec, lc.step (o.step fun b z => nomatch z)⟩
theorem outP_ext {H H' : Hp} (e : LamX.ExtN H H') : OutP none H H' := fun b o _ t h => e b o h t
theorem OutP.weak {fa : Option Addr} {H H' : Hp} (o : OutP none H H') : OutP fa H H' := fun b x _ t e => o b x (by simp) t e
section
variable {X : Cx}
/-- a def called in a suite -/
theorem pe_callX {x : Str} {p pos : Pos} {e : Expr} {es : List Expr} {f : Addr} {fd : FuncData} {ps : List Str} {k : Nat} {sp : Addr × Obj → Sp} {t : TA} (F : FnX X.prog X.w X.K X.mg X.base k f fd ps sp) (p0 : Addr × Obj) (hp0 : p0 ∈ X.pn) (hm : X.mg x = some (.ref f)) (hk : PySem.W.keepIn X.K (.ref f) = true)
    (hb : ∀ us : List Value, us.length = ps.length → ∀ s : Shared, BindsTo s fd ⟨us, []⟩ (ps.zip us)) (hr : L2H.RoomH k X.A) (hgd : X.A.guards = some []) (hg : Gl X x)
    (ha : PA X (e :: es) t) (hdb : (x == ("__debug__" : Str)) = false) (he : starEach (e :: es) X.env = (false, eval e X.env) :: starEach es X.env) (hpl : (backTo pos (starEach es X.env)).any (·.1) = false) :
    PE X (.Call (.Name x p) (e :: es) [] pos) (fun σ H Q => t σ H fun vs H1 => sp p0 vs H1 Q C8.E0) := by
  refine ⟨fun pins s σ H Q I h => ?_⟩
  refine wpAny_Call_Name_kw (ld_glob I hg hm ?_ hdb)
  refine PySem.W.callWith_K (h₀ := X.base) I.ok.mod.kin hk (thn (ha.run pos pins s σ H _ I h) fun us s1 ⟨vs, H1, I1, r, q⟩ => ⟨I1.kIn, ?_⟩) he hpl
  have hl : us.length = ps.length := by rw [← r.length]; exact F.len _ _ _ _ _ q
  have P1 := I1.pin p0 (List.mem_append_left _ hp0)
  have hpin : L2H.PinOk X.stack H1 s1 p0 := ⟨P1.1, P1.2.1, fun hm => (List.mem_cons.mp (I1.stkSub p0.1 hm)).elim P1.2.2.1 P1.2.2.2.1, P1.2.2.2.2⟩
  refine wpAny_call (codeAny_mono (F.run X.A X.stack s1 H1 ⟨us, []⟩ us vs Q C8.E0 p0 hr hgd hpin I1.env0 (hb us hl s1) r q) fun r s' hq => ?_)
  cases r with
  | error e => exact False.elim hq
  | ok fl =>
    cases fl with
    | ret u => exact I1.after hq
    | next => exact False.elim hq
    | brk => exact False.elim hq
    | cont => exact False.elim hq
/-! ### a lambda handed to a def that tries it -/
theorem lam_act {pins : List (Addr × Obj)} {σ : L2.St} {H : Hp} {s : Shared} {Ng : List Str} {qg : Str} {sg : Scope} {g f c' : Addr} {cdg pm ctv : Value} {params : Arguments} {body : Expr} {scope : Scope} {k i : Nat} {a : Str} {pn : List (Addr × Obj)} {xe : Value → Shared → Prop} {W : WX} {E : XK} {tb : TE} {p1 p2 : Pos}
    (I : Inv X pins σ H s) (L : LamX.LamS X.env.scope scope) (hf : s.heap.get? f = some (PySem.W.kla_obj "<lambda>" (X.env.qual ++ "<lambda>") params body scope (cloFrom X.env.cells scope.names []) pm c' ctv)) (hfn : H f = none) (hfr : f ∉ frs X.stack)
    (hbind : bindArgs (PySem.W.kla_fn "<lambda>" (X.env.qual ++ "<lambda>") params body scope (cloFrom X.env.cells scope.names []) pm (.ref c') ctv) ⟨[], []⟩ = pure [])
    (tk : Takes ((cxOf C8.CX0 X.prog X.w X.K X.mg X.base Ng qg sg g cdg X.A X.stack s H C8.E0).tr pn xe) W) (hW : ∀ cls d σ' H', E cls d H' → W cls d σ' H') (hr : Room (k + 1) (X.A.deeper (envOfC qg sg s.heap.objs.size g cdg))) (hgd : X.A.guards = some [])
    (hbody : ∀ (A : Around) (outer : List Env) (s : Shared) (H : Hp), Room k (A.deeper (lamEnv X scope s.heap.objs.size f c')) → A.guards = some [] → PE (lamCx X A outer s H E scope f c') body tb)
    (hN : Ng[i]? = some a) (hv : Vis sg a) (hd : (a == ("__debug__" : Str)) = false) (hcd : (a == ("__classdict__" : Str)) = false) :
    PE ((cxOf C8.CX0 X.prog X.w X.K X.mg X.base Ng qg sg g cdg X.A X.stack s H C8.E0).tr pn xe) (.Call (.Name a p1) [] [] p2)
      (fun σZ HZ Q => σZ[i]? = some (some (.ref f)) ∧ HZ c' = some (CodeO c' (X.env.qual ++ "<lambda>")) ∧ tb σ HZ Q) := by
  refine ⟨fun pinsZ sZ σZ HZ Q IZ h => ?_⟩
  obtain ⟨hs, hc, ht⟩ := h
  refine wpAny_Call_Name_kw (thn ((pe_var (pos := p1) (i := i) hN hv hd hcd).run pinsZ sZ σZ HZ (fun v H1 => v = .ref f ∧ H1 = HZ) IZ ⟨.ref f, hs, rfl, rfl⟩) fun u s1 ⟨v, H1, I1, r1, ev, eH⟩ => ?_)
  subst ev eH
  obtain rfl : u = Value.ref f := r1
  have at_f : s1.heap.get? f = some (PySem.W.kla_obj "<lambda>" (X.env.qual ++ "<lambda>") params body scope (cloFrom X.env.cells scope.names []) pm c' ctv) := I1.base.keep f _ hf hfn hfr (fun z => nomatch (show f ∈ ([] : List Addr) from z))
  refine PySem.W.callWith_F0 ⟨_, _, _, _, at_f⟩ ?_
  have un : Un (frs X.stack) [] H H1 s.heap s1.heap := I1.base
  obtain ⟨⟨oc, vs, t, hoc, hdc, hvc⟩, _, _⟩ := I1.hok c' _ hc
  have hx : Passes (L2.CX X.prog X.w) ((cxOf C8.CX0 X.prog X.w X.K X.mg X.base Ng qg sg g cdg X.A X.stack s H C8.E0).tr pn xe) E := passes_call tk hW
  have rc : codeAny (model X.prog X.w) (X.A.deeper (envOfC qg sg s.heap.objs.size g cdg)) (.call (.ref f) ⟨[], []⟩) (CR (L2.CX X.prog X.w) (envOfC qg sg s.heap.objs.size g cdg :: X.stack) X.prog X.w H1 s1 Q E) s1 := by
    refine PySem.W.kla_callFunE hr.depth at_f rfl L.co L.gen rfl ⟨c', oc, vs, t, rfl, hoc, hdc, hvc⟩ ?_
    rw [hbind]
    refine wpAny_pure (wpAny_newFunctionEnv (fun y hy => (L.own y hy).2) (fun y hy => absurd hy (by simp)) (fun h₁ hns hsb => ⟨I1.nolimit.fresh _ hsb, ?_⟩) L.kind)
    have J : Inv (lamCx X (X.A.deeper (envOfC qg sg s.heap.objs.size g cdg)) (envOfC qg sg s.heap.objs.size g cdg :: X.stack) s1 H1 E scope f c') [] σ H1 { s1 with heap := h₁, toks := s1.toks + ([] : List (Str × Value)).length } :=
      lam_start2 I L I1.env0 hr.hd un hns fun b o e => hsb.extBut b o (Nat.ne_of_lt (Heap.lt_size e)) (Heap.get?_push_of_some _ e)
    refine PySem.W.kla_codeExpr (wpAny_mono ((hbody _ _ s1 H1 (hr.deeper _) hgd).run [] _ _ H1 Q J ht) (fun v s' hq => ?_) fun e s' hq => hq)
    obtain ⟨w', H', J', rv, q⟩ := hq
    exact ⟨w', H', J'.os, J'.bare, J'.base, J'.hok, rv, q⟩
  refine wpAny_call (codeAny_mono rc fun r s' hq => ?_)
  cases r with
  | error e => exact hx pinsZ σZ H1 s1 e s' I1 hq
  | ok fl =>
    cases fl with
    | ret u => exact I1.after hq
    | next => exact False.elim hq
    | brk => exact False.elim hq
    | cont => exact False.elim hq
/-- what is wished of the lambda's exceptions: they are of the class CS, and the suite's def takes them -/
def EHd (K : PySem.W.Frag) (CS : Addr) (spE : Addr × Obj → Sp) (Q : VK) : XK := fun cls d H' => PySem.W.exmOne K cls (.ref CS) = some true ∧ ∀ (a : Addr) (oe : Obj), H' a = none → Zc cls d oe → (∃ fv, oe.data = .fields fv) → spE (a, oe) [.ref a] H' Q C8.E0
def tHeard (K : PySem.W.Frag) (T : List (Addr × Str)) (CS : Addr) (spE : Addr × Obj → Sp) (tol : Str) (t : XK → TE) : TE := fun σ H Q => LamX.Tabs T H ∧ ∀ H1, LamX.ExtN H H1 → LamX.Tabs T H1 →
  t (EHd K CS spE Q) σ H1 fun v H' => [V.str tol, v].length ≤ sizeLine ∧ ∀ p, H' p = none → Q (.ref p) (upd H' p (.tup [.str tol, v]))
/-- heard(lambda: body), heard: try: return (tol, a()) / except e as en: return er(en) -/
theorem pe_heard {T : List (Addr × Str)} {t : XK → TE} {x a e en er tol : Str} {g c P CS fe : Addr} {k ke : Nat} {fd fde : FuncData} {st : Stmt} {Ng pse : List Str} {spE : Addr × Obj → Sp} {params : Arguments} {body : Expr} {scope : Scope} {p lpos pos : Pos}
    {j j2 : Nat} {q1 q2 p1 p2 p3 p4 p5 p6 p7 p8 p9 p10 : Pos}
    (hg : Gl X x) (hm : X.mg x = some (.ref g)) (F : FunD X.K x x (defArgs st) (defBody st) (defScope st) [] [] g fd) (hb : ∀ us : List Value, us.length = 1 → ∀ s : Shared, BindsTo s fd ⟨us, []⟩ ([a].zip us))
    (hbd : defBody st = [.Try [.Return (some (.Tuple [.Constant (.str tol) j q1, .Call (.Name a p1) [] [] p2] j2 q2)) p3] [.ExceptHandler (some (.Name e p4)) (some en) [.Return (some (.Call (.Name er p5) [.Name en p6] [] p7)) p8] p9] [] [] p10])
    (Sg : FnScope Ng [a] (defScope st)) (hN0 : Ng[0]? = some a) (hN1 : Ng[1]? = some en) (hva : Vis (defScope st) a) (hln : (defScope st).names.lookup en = some .local) (hge : (defScope st).names.lookup e = some .globalImplicit) (hger : (defScope st).names.lookup er = some .globalImplicit)
    (hme : X.mg e = some (.ref CS)) (hmer : X.mg er = some (.ref fe)) (FE : FnX X.prog X.w X.K X.mg X.base ke fe fde pse spE) (hke : PySem.W.keepIn X.K (.ref fe) = true) (hbe : ∀ us : List Value, us.length = pse.length → ∀ s : Shared, BindsTo s fde ⟨us, []⟩ (pse.zip us)) (hkk : ke ≤ k)
    (TB : TabB X.base X.mg c P) (hcode : X.env.code = .ref c) (hmT : (P, X.env.qual ++ "<lambda>") ∈ T) (hu : ∀ p ∈ T, p.1 = P → p.2 = X.env.qual ++ "<lambda>") (hr : Room (k + 2) X.A) (hgd : X.A.guards = some []) (L : LamX.LamS X.env.scope scope) (hdef : defaultsOf params X.env = ([], []))
    (hbind : ∀ (q : Str) (cl : List (Str × Addr)) (pm cv ctv : Value), bindArgs (PySem.W.kla_fn "<lambda>" q params body scope cl pm cv ctv) ⟨[], []⟩ = pure [])
    (hbody : ∀ (A : Around) (outer : List Env) (s : Shared) (H : Hp) (E : XK) (f c' : Addr), Room k (A.deeper (lamEnv X scope s.heap.objs.size f c')) → A.guards = some [] → PE (lamCx X A outer s H E scope f c') body (t E))
    (hdb : (x == ("__debug__" : Str)) = false) (hd : (a == ("__debug__" : Str)) = false) (hcd : (a == ("__classdict__" : Str)) = false) (hde : (e == ("__debug__" : Str)) = false) (hder : (er == ("__debug__" : Str)) = false) (hden : (en == ("__debug__" : Str)) = false) (hcden : (en == ("__classdict__" : Str)) = false) :
    PE X (.Call (.Name x p) [.Lambda params body scope lpos] [] pos) (tHeard X.K T CS spE tol t) := by
  refine ⟨fun pins s σ H Q I h => ?_⟩
  obtain ⟨hT, h⟩ := h
  have hk := F.kp
  obtain ⟨oc, od, dV, kV, doc, pm, an, cdv, ct, osl, rfl, lk, hcg, _, _⟩ := F.ex
  refine wpAny_Call_Name_kw (ld_glob I hg hm ?_ hdb)
  refine PySem.W.callWith_K (h₀ := X.base) I.ok.mod.kin hk ?_ (by rfl) (by rfl)
  show wpAny _ _ (spliced ((false, eval (.Lambda params body scope lpos) X.env) :: backTo pos (starEach [] X.env))) _ _ s
  refine Calls.spliced_cons (lam_make2 I TB hcode hmT hu hT hdef (L.has I.ok) fun f c' pm' ctv H1 s' I1 eN T1 hf hfn hfr hco => ?_)
  refine Calls.spliced_nil ⟨I1.kIn, ?_⟩
  have rc : codeAny (model X.prog X.w) X.A (.call (.ref g) ⟨[.ref f], []⟩) (CR C8.CX0 X.stack X.prog X.w H1 s' Q C8.E0) s' := by
    refine run_ofS (N := Ng) (ps := [a]) (us := [.ref f]) (vs := [.ref f]) lk hcg Sg hr I1.env0 (hb [.ref f] rfl s') (.cons rfl .nil) rfl fun hr' => ?_
    have hgl : Gl (cxOf C8.CX0 X.prog X.w X.K X.mg X.base Ng x (defScope st) g cdv X.A X.stack s' H1 C8.E0).nox e := hge
    have hgl2 : ∀ (a : Addr) (pn : List (Addr × Obj)), Gl ((cxOf C8.CX0 X.prog X.w X.K X.mg X.base Ng x (defScope st) g cdv X.A X.stack s' H1 C8.E0).nox.suite a pn) er := fun _ _ => hger
    rw [hbd]
    refine ⟨_, (pss_one (ps_try_as (X := (cxOf C8.CX0 X.prog X.w X.K X.mg X.base Ng x (defScope st) g cdv X.A X.stack s' H1 C8.E0).nox) (c := .ref CS) (i := 1) (Wout := fun _ _ _ _ => False)
      (tb := fun W D σZ HZ => ∃ Ech : XK, (∀ cls d σ' H', Ech cls d H' → W cls d σ' H') ∧ σZ[0]? = some (some (.ref f)) ∧ HZ c' = some (CodeO c' (X.env.qual ++ "<lambda>")) ∧ t Ech σ HZ fun v H' => [V.str tol, v].length ≤ sizeLine ∧ ∀ p, H' p = none → D.rt (.ref p) (upd H' p (.tup [.str tol, v])))
      (ts := fun a cls d D σZ HZ => (∃ σ0 : L2.St, σZ = σ0.set 1 (some (.ref a))) ∧ ∀ oe, Zc cls d oe → (∃ fv, oe.data = .fields fv) → spE (a, oe) [.ref a] HZ D.rt C8.E0)
      rfl rfl Sg.nd hN1 hln ⟨hgl, hde, .inl hme⟩ L2.takes0 (fun W pn xe tk _ => ?_) (fun a oe cls d pn hz hf => ?_))).nox, ?_⟩
    · refine ⟨fun pins s2 σ2 H2 D I2 h2 => ?_⟩
      obtain ⟨Ech, hW, e1, e2, e3⟩ := h2
      have hp := lam_act (p1 := p1) (p2 := p2) (i := 0) I1 L hf hfn hfr (hbind _ _ _ _ _) tk hW hr' hgd (fun A outer s H hr2 hg2 => hbody A outer s H Ech f c' hr2 hg2) hN0 hva hd hcd
      have hq := pss_one (ps_ret (pos := p3) (pe_tup (x1 := j2) (pos := q2) (pa_cons (pe_str (j := j) (pos := q1) (x := tol)) (pa_cons hp pa_nil))))
      exact hq.run pins s2 σ2 H2 D I2 ⟨e1, e2, e3⟩
    · refine ⟨fun pins s2 σ2 H2 D I2 h2 => ?_⟩
      obtain ⟨⟨σ0, rfl⟩, hsp⟩ := h2
      have rh := L2H.RoomH.mono (L2H.roomH_of hr') (show ke ≤ k + 1 by omega)
      have pvn : PE ((cxOf C8.CX0 X.prog X.w X.K X.mg X.base Ng x (defScope st) g cdv X.A X.stack s' H1 C8.E0).nox.suite a ((a, oe) :: pn)) (.Name en p6) (tVar 1) := pe_var (pos := p6) (i := 1) hN1 (.inl hln) hden hcden
      have hq := pss_one (ps_ret (pos := p8) (pe_callX (X := (cxOf C8.CX0 X.prog X.w X.K X.mg X.base Ng x (defScope st) g cdv X.A X.stack s' H1 C8.E0).nox.suite a ((a, oe) :: pn)) (x := er) (p := p5) (pos := p7) FE (a, oe) (List.mem_cons_self ..) hmer hke hbe ⟨rh.dp, rh.un⟩ hgd (hgl2 _ _) (pa_cons pvn pa_nil) hder rfl rfl))
      have hl := I2.len
      refine hq.run pins s2 _ H2 D I2 ⟨.ref a, ?_, hsp oe hz hf⟩
      rw [List.getElem?_set_self]
      rw [List.length_set] at hl
      have : 1 < Ng.length := (List.getElem?_eq_some_iff.mp hN1).1
      exact Nat.lt_of_lt_of_eq this hl.symm
    · exact ⟨EHd X.K CS spE Q, fun cls d σ' H' ⟨e1, e2⟩ => ⟨true, e1, fun _ a ha => ⟨⟨σ', rfl⟩, fun oe hz hf => e2 a oe ha hz hf⟩, fun z => by cases z⟩, start_at rfl, hco, h H1 eN T1⟩
  refine wpAny_call (codeAny_mono rc fun r s2 hq => ?_)
  cases r with
  | error e => exact (show False from hq).elim
  | ok fl =>
    cases fl with
    | ret u => exact I1.after hq
    | next => exact False.elim hq
    | brk => exact False.elim hq
    | cont => exact False.elim hq
end
/-! ### its mirror -/
def eHeard (tol : Str) (ncl : Nat) (gx : XV → Option D) (m : ME) : ME := fun ρ f => match m ρ f with
  | .ok d f1 => .ok (.tuple [.str tol, d]) f1
  | .exc x f1 => if x.cls < ncl then ofO (gx x) f1 else .bad
  | .bad => .bad
theorem heard_read {G : Gx} {W : WX} {CS : Addr} {tol : Str} {ncl : Nat} {gx : XV → Option D} {m : ME} {σ : L2.St} {H : Hp} {Q : VK} (gok : GOk G) (HC : ∀ k, k < ncl → ∃ C, G.xc.cls k = .ref C ∧ PySem.W.exmOne G.K (.ref C) (.ref CS) = some true)
    (h : tM G W (eHeard tol ncl gx m) σ H Q) : tHeard G.K G.xc.tb CS (spX G.K G.xc gx) tol (fun E => tM G (fun cls d _ H => E cls d H) m) σ H Q := by
  obtain ⟨O, ρ, f, A, pp⟩ := h
  refine ⟨A.tabs, fun H1 eN tb => ?_⟩
  have o1 := outP_ext eN
  have A1 := A.outN gok o1 tb
  refine ⟨O, ρ, f, A1, ?_⟩
  unfold eHeard at pp
  cases em : m ρ f with
  | bad => rw [em] at pp; exact pp.elim
  | ok d f1 =>
    rw [em] at pp
    intro v H' A' o2 r
    refine ⟨by show 2 ≤ sizeLine; rw [sizeLine_eq]; omega, fun p hp => ?_⟩
    have sm : Same H' (upd H' p (.tup [.str tol, v])) := same_upd hp
    exact pp (.ref p) _ (A'.same sm) ((OutP.weak o1).trans (o2.trans (.of_same sm))) (.tup (.inl ⟨A'.ot.fresh hp, upd_same ..⟩) (.cons (.str _) (.cons (Rp.step (.of_same sm) _ _ r) .nil)))
  | exc x f1 =>
    rw [em] at pp
    dsimp only at pp
    by_cases hc : x.cls < ncl
    · rw [if_pos hc] at pp
      obtain ⟨C, hC, hex⟩ := HC _ hc
      cases eg : gx x with
      | none => rw [eg] at pp; exact pp.elim
      | some d =>
        rw [eg] at pp
        intro cls dd H' A' o2 xa
        obtain ⟨rfl, da, ws, rfl, ed, el, rs, nO⟩ := xa
        refine ⟨by rw [hC]; exact hex, fun a oe ha hz hf => ⟨O, x, C, da, ws, d, rfl, A'.tabs, A'.ot, by rw [hC] at hz; exact hz, hf, hC, nO, ed, el, rs, eg, fun v H2 o3 tb2 rv => ?_⟩⟩
        exact pp v H2 (A'.outN gok o3 tb2) ((OutP.weak o1).trans (o2.trans (OutP.weak o3))) rv
    · rw [if_neg hc] at pp
      exact pp.elim
end Mir

set_option Elab.async false
set_option linter.all false
set_option maxRecDepth 100000
set_option maxHeartbeats 4000000
namespace Mir
open PySem PySem.Spec PyProof.Rows L2 LamX
/-! ### the end with tables of code objects, for FnG -/
theorem law_callTG {P : Program} {w : World} {K : PySem.W.Frag} {mg mb : Str → Option Value} {k : Nat} {fa a : Addr} {cs : List (Addr × Addr)} {fd : FuncData} {x : Str} {sp : Sp} {s1 : Shared} {us : List Value} {ns : List Int}
    (inK : K.In s1.heap) (ng : s1.heap.Ns mainGlobals mg) (nb : s1.heap.Ns builtinsNs mb) (boot : ∀ x : Str, x ≠ "__name__" → mb x = bootBuiltins x) (nolim : s1.heap.NoLimit) (gens : s1.gens = #[])
    (hT : ∀ p ∈ cs, s1.heap.get? p.2 = some { cls := .none, data := .fields #[] }) (nT : ∀ p ∈ cs, K.lookup p.2 = none) (C : ∀ p ∈ cs, PySem.W.CodeHd s1.heap p.1 p.2)
    (hbm : ∃ (bm : Addr) (ob : Obj), mg "__builtins__" = some (.ref bm) ∧ bm ≠ builtinsNs ∧ s1.heap.get? bm = some ob ∧ ob.cls = .type "module" ∧ ob.dict = some builtinsNs ∧ ob.data = .plain)
    (at_a : s1.heap.get? a = some { cls := .type "list", data := .seq us.toArray }) (intsA : IntsAre us ns) (few : ns.length ≤ sizeLine) (room : Room k callerA)
    (F : ∀ base : Heap, K.In base → base.Ns mainGlobals mg → (∀ p ∈ cs, TabB base mg p.1 p.2) → FnG P w K mg base (L2.CX P w) k fa fd [x] sp) (bnd : ∀ (s : Shared) (u : Value), BindsTo s fd ⟨[u], []⟩ [(x, u)])
    (prom : ∀ H : Hp, (∀ p ∈ cs, H p.2 = some (.tbl #[])) → SqL K H a (ns.map V.int) → sp [.ref a] H (fun v _ => v = .bl true) fun _ _ _ => False) :
    codeAny (model P w) callerA (.call (.ref fa) ⟨[.ref a], []⟩) (fun r s' => r = .ok (.ret (.bool true)) ∧ OldK s1.heap s'.heap ∧ s'.os = s1.os ∧ AllBare s'.gens) s1 := by
  let ob : Obj := { cls := .type "list", data := .seq us.toArray }
  let ts : List Addr := cs.map (·.2)
  let Hs : Hp := fun b => if b ∈ ts then some (.tbl #[]) else if b = a ∧ K.lookup a = none then some (.frz ob (.lst (ns.map V.int))) else none
  have memT : ∀ p ∈ cs, p.2 ∈ ts := fun p hp => List.mem_map.mpr ⟨p, hp, rfl⟩
  have isT : ∀ b, b ∈ ts → s1.heap.get? b = some { cls := .none, data := .fields #[] } := fun b hb => by
    obtain ⟨p, hp, e⟩ := List.mem_map.mp hb
    rw [← e]
    exact hT p hp
  have notT : ∀ {b : Addr} {o : Obj}, s1.heap.get? b = some o → o.data ≠ .fields #[] → b ∉ ts := fun {b o} e d hb => by
    rw [isT b hb] at e
    cases e
    exact d rfl
  have aT : a ∉ ts := notT at_a fun z => by cases z
  have look : ∀ {b u}, Hs b = some u → (b ∈ ts ∧ u = .tbl #[]) ∨ (b ∉ ts ∧ b = a ∧ K.lookup a = none ∧ u = .frz ob (.lst (ns.map V.int))) := fun {b u} z => by
    by_cases ct : b ∈ ts
    · have z2 := (if_pos ct).symm.trans z
      cases z2
      exact .inl ⟨ct, rfl⟩
    · have z1 := (if_neg ct).symm.trans z
      by_cases c : b = a ∧ K.lookup a = none
      · have z2 := (if_pos c).symm.trans z1
        cases z2
        exact .inr ⟨ct, c.1, c.2, rfl⟩
      · have z2 := (if_neg c).symm.trans z1
        cases z2
  have atT : ∀ p ∈ cs, Hs p.2 = some (.tbl #[]) := fun p hp => if_pos (memT p hp)
  have out : ∀ {b : Addr} {o : Obj}, s1.heap.get? b = some o → b ∉ ts → (b = a → K.lookup a ≠ none) → (hidT s1.heap Hs).get? b = some o := fun {b o} e nt n => hidT_get e ((if_neg nt).trans (if_neg fun c => n c.1 c.2))
  have notA : ∀ {b : Addr} {o : Obj}, s1.heap.get? b = some o → (∀ vs n, o.data ≠ .seq vs n) → b ≠ a := fun {b o} e d z => by
    subst z
    cases at_a.symm.trans e
    exact d _ _ rfl
  have outD : ∀ {b : Addr} {o : Obj}, s1.heap.get? b = some o → (∀ vs n, o.data ≠ .seq vs n) → o.data ≠ .fields #[] → (hidT s1.heap Hs).get? b = some o := fun e d1 d2 => out e (notT e d2) fun z => absurd z (notA e d1)
  have ns_h : ∀ {b : Addr} {m : Str → Option Value}, s1.heap.Ns b m → (hidT s1.heap Hs).Ns b m := fun {b m} q => by
    obtain ⟨o, es, ep, e, d, r⟩ := q
    exact ⟨o, es, ep, outD e (fun vs n z => by rw [d] at z; cases z) (fun z => by rw [d] at z; cases z), d, r⟩
  have inKh : K.In (hidT s1.heap Hs) := fun b o e => out (inK b o e) (fun hb => by
    obtain ⟨p, hp, ep⟩ := List.mem_map.mp hb
    rw [← ep, nT p hp] at e
    cases e) fun z n => by
    subst z
    rw [n] at e
    cases e
  have modh : Mod K mg (hidT s1.heap Hs) := by
    obtain ⟨mc, q1, q2⟩ := nolim
    exact ⟨inKh, ns_h ng, ⟨mb, ns_h nb, boot⟩, ⟨mc, ns_h q1, q2⟩⟩
  have TB : ∀ p ∈ cs, TabB (hidT s1.heap Hs) mg p.1 p.2 := fun p hp => by
    have hTp := hT p hp
    refine ⟨?_, ?_, fun z => ?_⟩
    · obtain ⟨o, vs, file, tf, flags, tg, inF, text, tt, e1, r1, r2, r3, r4, r5, r6, r7, r8, hne⟩ := C p hp
      refine ⟨o, vs, file, tf, flags, tg, inF, text, tt, outD e1 (fun vs n z => by rw [r2] at z; cases z) (fun z => ?_), r1, r2, r3, r4, r5, r6, r7, r8, hne⟩
      rw [r2] at z
      cases z
      simp at r3
    · obtain ⟨bm, o, b1, b2, b3, b4, b5, b6⟩ := hbm
      refine ⟨bm, o, b1, b2, fun q => ?_, fun q => ?_, outD b3 (fun vs n z => by rw [b6] at z; cases z) (fun z => by rw [b6] at z; cases z), b4, b5, b6⟩
      · obtain ⟨o2, es, ep, e, hd, _⟩ := ng
        rw [q, e] at b3
        cases b3
        rw [hd] at b6
        cases b6
      · rw [q, hTp] at b3
        cases b3
        cases b6
    · obtain ⟨o, es, ep, e, hd, _⟩ := ng
      rw [z, hTp] at e
      cases e
      cases hd
  have hok : HOk P w Hs s1.heap := fun b u z => by
    rcases look z with ⟨hb, rfl⟩ | ⟨_, rfl, _, rfl⟩
    · exact isT b hb
    · exact ⟨at_a, by rw [List.length_map]; exact few, us, _, vals_ints intsA, at_a⟩
  have sq : SqL K Hs a (ns.map V.int) := by
    cases hk : K.lookup a with
    | none => exact .inl (.inr ⟨ob, (if_neg aT).trans (if_pos ⟨rfl, hk⟩)⟩)
    | some o =>
      cases at_a.symm.trans (inK a o hk)
      exact .inr ⟨_, us.toArray, _, hk, rfl, rfl, rfl, by rw [List.size_toArray, intsA.length]; exact few, by simpa using vals_ints intsA⟩
  have env : Env0 P w K mg (hidT s1.heap Hs) callerA [] s1 Hs := ⟨rfl, modh, fun b o e => of_hidT e, Nat.le_of_eq (hidT_size _ _), trivial, fun b hb => absurd hb List.not_mem_nil, hok, .of_eq gens⟩
  refine codeAny_mono ((F _ inKh (ns_h ng) TB).run callerA [] s1 Hs ⟨[.ref a], []⟩ [.ref a] [.ref a] _ _ room rfl env (bnd s1 (.ref a)) (.cons rfl .nil) (prom Hs atT sq)) fun r s' h => ?_
  match r, h with
  | .error e, h =>
    obtain ⟨_, _, _, _, _, _, _, _, _, _, _, _, z⟩ := h
    exact z.elim
  | .ok (.ret u), h =>
    obtain ⟨v, H', os, bare, un, hok', ru, q⟩ := h
    cases (show v = V.bl true from q)
    cases (show u = Value.bool true from ru)
    have key : ∀ b o, b ∉ ts → s1.heap.get? b = some o → s'.heap.get? b = some o := fun b o nb e => by
      cases q : Hs b with
      | none => exact un.keep b o e q (fun z => absurd z List.not_mem_nil) List.not_mem_nil
      | some y =>
        rcases look q with ⟨hb, _⟩ | ⟨_, rfl, _, rfl⟩
        · exact absurd hb nb
        · obtain ⟨e2, _⟩ := hok' _ _ (un.frzs _ _ _ q)
          cases at_a.symm.trans e
          exact e2
    have grown : ∀ p ∈ cs, ∃ more : Array Value, s'.heap.get? p.2 = some { cls := .none, data := .fields more } := fun p hp => by
      obtain ⟨more, z⟩ := un.tbls p.2 #[] (atT p hp)
      exact ⟨_, hok' p.2 _ z⟩
    refine ⟨rfl, ⟨fun b o e => ?_, fun b o e => ?_⟩, os, bare⟩
    · by_cases hb : b ∈ ts
      · obtain ⟨p, hp, ep⟩ := List.mem_map.mp hb
        obtain ⟨more, hm⟩ := grown p hp
        rw [← ep] at e ⊢
        rw [hT p hp] at e
        cases e
        exact .inr (.inl ⟨((C p hp).tab (hT p hp)).isCodeTable, rfl, #[], more, rfl, by rw [Array.empty_append]; exact hm⟩)
      · exact .inl (key b o hb e)
    · by_cases hb : b ∈ ts
      · obtain ⟨p, hp, ep⟩ := List.mem_map.mp hb
        obtain ⟨more, hm⟩ := grown p hp
        rw [← ep]
        exact ⟨_, hm⟩
      · exact ⟨o, key b o hb e⟩
theorem walk_ofTG {l : PySem.W.OpenLaw} {n k : Nat} {q : Program} {loose : List Str} {XP : (Str → Option Value) → Heap → Prop} {YP : World → Heap → Prop} {d : DefRec} {x : Str}
    (most : l.most = some n) (few : n ≤ sizeLine) (nod : d.params.defaults = []) (room : Room k callerA)
    (F : ∀ (w : World) (mg : Str → Option Value) (fa : Addr) (h : Heap), YP w h → h.Ns mainGlobals mg → mg d.name = some (.ref fa) →
      ∃ (K : PySem.W.Frag) (fd : FuncData) (cs : List (Addr × Addr)) (sp : Sp), K.In h ∧ (∀ p ∈ cs, h.get? p.2 = some { cls := .none, data := .fields #[] }) ∧ (∀ p ∈ cs, K.lookup p.2 = none) ∧ (∀ p ∈ cs, PySem.W.CodeHd h p.1 p.2) ∧ (∀ (s : Shared) (u : Value), BindsTo s fd ⟨[u], []⟩ [(x, u)]) ∧
        (∀ (H : Hp) (a : Addr) (ns : List Int), ns.length ≤ n → (∀ p ∈ cs, H p.2 = some (.tbl #[])) → SqL K H a (ns.map V.int) → sp [.ref a] H (fun v _ => v = .bl true) fun _ _ _ => False) ∧
        ∀ base : Heap, K.In base → base.Ns mainGlobals mg → (∀ p ∈ cs, TabB base mg p.1 p.2) → FnG l.prog w K mg base (L2.CX l.prog w) k fa fd [x] sp) :
    PySem.W.WalkO q loose XP YP l.row.toRowW d [] (fun f vs => PySem.call f vs) :=
  Att.attach_call most nod fun w _ _ mg _ fa _ _ _ _ a _ ns G Y _ _ _ hmg hobj hints hlen hg => by
    obtain ⟨K, fd, cs, sp, KX, hT, nT, C, hb, hsp, hF⟩ := F w mg fa _ Y G.T.g hmg
    exact law_callTG KX G.T.g G.T.b G.T.builtins G.T.nolimit hg hT nT C G.T.bmain hobj hints (Nat.le_trans hlen few) room hF hb fun H hH hS => hsp H a ns hlen hH hS
/-- tables that are empty -/
theorem tabs_nil {H : Hp} {cs : List (Addr × Addr)} {qs : List Str} (h : ∀ p ∈ cs, H p.2 = some (.tbl #[])) : LamX.Tabs ((cs.map (·.2)).zip qs) H := fun p hp => by
  have hm := (List.of_mem_zip hp).1
  obtain ⟨c, hc, e⟩ := List.mem_map.mp hm
  rw [← e]
  exact TabS.nil (h c hc)
end Mir

set_option Elab.async false
set_option linter.all false
set_option maxRecDepth 100000
set_option maxHeartbeats 4000000
namespace Mir
open PySem PySem.Spec PyProof.Rows L2
/-! ### a code's address -/
theorem code_of {K : PySem.W.Frag} {x : Str} {cdv : Value} (h : CodeIs K (He.ga K x) x cdv) : cdv = .ref (He.codeOf K (x, none)) := by
  obtain ⟨oc, od, fd, osl, lk, rfl, hcd⟩ := h
  obtain ⟨c, hc⟩ := He.codeIn_ref hcd
  rw [hc]
  exact congrArg Value.ref (He.codeOf_eq (p := (x, none)) lk hc).symm
/-! ### a def that an except suite calls with the exception in hand -/
structure DefX (P : Program) (w : World) (K : PySem.W.Frag) (mg : Str → Option Value) (base : Heap) (xc : XC) (x : Str) (k : Nat) (gx : XV → Option D) : Prop where
  ex : ∃ (f : Addr) (fd : FuncData) (ps : List Str), mg x = some (.ref f) ∧ PySem.W.keepIn K (.ref f) = true ∧ FnX P w K mg base k f fd ps (spX K xc gx) ∧ ∀ us : List Value, us.length = ps.length → ∀ s : Shared, BindsTo s fd ⟨us, []⟩ (ps.zip us)
def oOf : SR → Option D
  | .nx _ _ => some .none
  | .ret d _ => some d
  | _ => none
def xfun (n : Nat) (m : XV → MS) : XV → Option D := fun x => oOf (m x (.x :: List.replicate (n - 1) .no) ⟨[], 0, 0, 0⟩)
theorem defX {P : Program} {w : World} {K : PySem.W.Frag} {mg : Str → Option Value} {base : Heap} {xc : XC} {x en : Str} {st : Stmt} {f : Addr} {fd : FuncData} {N : List Str} {k : Nat} {m : XV → MS} (F : FunD K x x (defArgs st) (defBody st) (defScope st) [] [] f fd) (S : FnScope N [en] (defScope st)) (hm : mg x = some (.ref f))
    (hbind : ∀ (kV doc pm : Value) (an : Option Addr) (cdv ct : Value) (us : List Value), us.length = 1 → bindArgs (PySem.W.fnOf x x (defArgs st) (defBody st) (defScope st) .none kV doc pm an cdv ct) ⟨us, []⟩ = pure ([en].zip us))
    (hbody : ∀ (G : Gx) (xv : XV), G.K = K → G.xc = xc → GOk G → ∀ (cdv : Value), CodeIs K f x cdv → ∀ (A : Around) (outer : List Env) (s : Shared) (H : Hp) (E : XK) (p : Addr × Obj), L2H.RoomH k (A.deeper (envOfC x (defScope st) s.heap.objs.size f cdv)) → A.guards = some [] →
      XIn (L2H.cxH C8.CX0 P w K mg base N x (defScope st) f cdv A outer s H E p) G xv → PSs (L2H.cxH C8.CX0 P w K mg base N x (defScope st) f cdv A outer s H E p) (defBody st) (tMS G (fun _ _ _ _ => False) (m xv))) :
    DefX P w K mg base xc x (k + 1) (xfun N.length m) := by
  have hN : 1 ≤ N.length := by have := congrArg List.length S.pre; rw [List.length_take] at this; simp at this; omega
  refine ⟨f, fd, [en], hm, F.kp, fnX_D F S (fun p vs H Q E h => ?_) (fun cdv hc A outer s H vs Q E p hr hgd h => ?_), fun us hl s => FunD.bindsA (ps := [en]) F hbind s us hl⟩
  · obtain ⟨O, xv, C, dd, ws, d, rfl, _⟩ := h
    rfl
  · obtain ⟨O, xv, C, dd, ws, d, rfl, tb, ot, hz, hf, hC, nO, ed, el, rs, eg, hq⟩ := h
    have gok : GOk (⟨K, H, O, none, 0, xc, some p.1⟩ : Gx) := ⟨fun a e => nomatch e⟩
    have xin : XIn (L2H.cxH C8.CX0 P w K mg base N x (defScope st) f cdv A outer s H E p) (⟨K, H, O, none, 0, xc, some p.1⟩ : Gx) xv := ⟨p.1, p.2, C, dd, ws, rfl, List.mem_cons_self .., hz, hf, hC, nO, (fun z => nomatch z), ed, el, rs⟩
    refine ⟨_, hbody ⟨K, H, O, none, 0, xc, some p.1⟩ xv rfl rfl gok cdv hc A outer s H E p hr hgd xin, O, .x :: List.replicate (N.length - 1) .no, ⟨[], 0, 0, 0⟩, ?_, ?_⟩
    · have hlen : (L2.start N [.ref p.1]).length = N.length := by unfold L2.start; rw [List.length_append, List.length_map, List.length_replicate, List.length_singleton]; omega
      refine ⟨fun b o _ _ e => e, fun _ h => h, fun _ h => .inl h, ot, trivial, ?_, fun i s e => ?_, fun i j xs ys a e1 _ w1 => ?_, tb⟩
      · rw [hlen, List.length_cons, List.length_replicate]
        omega
      · cases i with
        | zero => cases e; exact ⟨p.1, start_at rfl, rfl⟩
        | succ i =>
          rw [List.getElem?_cons_succ, List.getElem?_replicate] at e
          split at e
          · cases e; trivial
          · cases e
      · cases i with
        | zero => cases e1; exact w1.elim
        | succ i =>
          rw [List.getElem?_cons_succ, List.getElem?_replicate] at e1
          split at e1 <;> cases e1
          exact w1.elim
    · unfold xfun at eg
      cases em : m xv (.x :: List.replicate (N.length - 1) .no) ⟨[], 0, 0, 0⟩ with
      | nx ρ f' =>
        rw [em] at eg
        cases eg
        exact fun O' σ' H' A' s' => hq .non H' (fun b o n t e => A'.grow b o n t e) A'.tabs .non
      | ret d f' =>
        rw [em] at eg
        cases eg
        exact fun O' σ' ρ v H' A' s' r => hq v H' (fun b o n t e => A'.grow b o n t e) A'.tabs (Rp.less A'.o0 _ _ r)
      | exc z f' => rw [em] at eg; cases eg
      | brk ρ f' => rw [em] at eg; cases eg
      | ct ρ f' => rw [em] at eg; cases eg
      | bad => rw [em] at eg; cases eg
/-! ### the classes, as the head tells them -/
/-- an own exception class with its __init__ st -/
structure ExcF (K : PySem.W.Frag) (mg : Str → Option Value) (xc : XC) (x : Str) (k : Nat) (names : List Str) (st : Stmt) : Prop where
  ex : ∃ (C fI : Addr) (fd : FuncData), mg x = some (.ref C) ∧ xc.cls k = .ref C ∧ xc.nm k = names.reverse ∧ ExcK K C fI names ∧ FunD K "__init__" (x ++ ".__init__") (defArgs st) (defBody st) (defScope st) [] [] fI fd
/-- two fields -/
theorem mkAt2 {P : Program} {w : World} {K : PySem.W.Frag} {mg : Str → Option Value} {base : Heap} {xc : XC} {x s0 f1 f2 : Str} {k : Nat} {st : Stmt} {p1 p2 p3 p4 p5 p6 p7 p8 : Pos} (F : ExcF K mg xc x k [f1, f2] st) (S : FnScope [s0, f1, f2] [s0, f1, f2] (defScope st))
    (hbd : defBody st = [.Assign [.Attribute (.Name s0 p1) f1 p2] (.Name f1 p3) p4, .Assign [.Attribute (.Name s0 p5) f2 p6] (.Name f2 p7) p8])
    (hbind : ∀ (kV doc pm : Value) (an : Option Addr) (cdv ct : Value) (us : List Value), us.length = 3 → bindArgs (PySem.W.fnOf "__init__" (x ++ ".__init__") (defArgs st) (defBody st) (defScope st) .none kV doc pm an cdv ct) ⟨us, []⟩ = pure ([s0, f1, f2].zip us))
    (hv : ∀ y ∈ [s0, f1, f2], (defScope st).names.lookup y = some .local ∧ (y == ("__debug__" : Str)) = false ∧ (y == ("__classdict__" : Str)) = false) : MkAt P w K mg base xc x k [f1, f2] := by
  obtain ⟨C, fI, fd, h1, h2, h3, T, FD⟩ := F.ex
  obtain ⟨a1, a2, a3⟩ := hv s0 (by simp)
  obtain ⟨b1, b2, b3⟩ := hv f1 (by simp)
  obtain ⟨c1, c2, c3⟩ := hv f2 (by simp)
  refine ⟨C, fI, fd, [s0, f1, f2], h1, h2, h3, T, FunD.ok FD S (spInit_len rfl) (fun cdv A outer s H vs Q E hr h => ⟨tSeq (tOst K f1 (tVar 0) (tVar 1)) (tOst K f2 (tVar 0) (tVar 2)), ?_, init2_read T h⟩), FunD.bindsN FD hbind⟩
  rw [hbd]
  exact pss_cons (ps_ost (pe_var (i := 0) rfl (.inl a1) a2 a3) (pe_var (i := 1) rfl (.inl b1) b2 b3)) (pss_one (ps_ost (pe_var (i := 0) rfl (.inl a1) a2 a3) (pe_var (i := 2) rfl (.inl c1) c2 c3)))
/-! ### heard(lambda: ..) -/
/-- the def that tries -/
structure HeardAt (P : Program) (w : World) (K : PySem.W.Frag) (mg : Str → Option Value) (base : Heap) (xc : XC) (x tol : Str) (ncl ke : Nat) (gx : XV → Option D) : Prop where
  ex : ∃ (a e en er : Str) (g CS : Addr) (fd : FuncData) (st : Stmt) (Ng : List Str) (j j2 : Nat) (q1 q2 p1 p2 p3 p4 p5 p6 p7 p8 p9 p10 : Pos), mg x = some (.ref g) ∧ FunD K x x (defArgs st) (defBody st) (defScope st) [] [] g fd ∧ (∀ us : List Value, us.length = 1 → ∀ s : Shared, BindsTo s fd ⟨us, []⟩ ([a].zip us)) ∧
    defBody st = [.Try [.Return (some (.Tuple [.Constant (.str tol) j q1, .Call (.Name a p1) [] [] p2] j2 q2)) p3] [.ExceptHandler (some (.Name e p4)) (some en) [.Return (some (.Call (.Name er p5) [.Name en p6] [] p7)) p8] p9] [] [] p10] ∧
    FnScope Ng [a] (defScope st) ∧ Ng[0]? = some a ∧ Ng[1]? = some en ∧ Vis (defScope st) a ∧ (defScope st).names.lookup en = some .local ∧ (defScope st).names.lookup e = some .globalImplicit ∧ (defScope st).names.lookup er = some .globalImplicit ∧ mg e = some (.ref CS) ∧ DefX P w K mg base xc er ke gx ∧
    (a == ("__debug__" : Str)) = false ∧ (a == ("__classdict__" : Str)) = false ∧ (e == ("__debug__" : Str)) = false ∧ (er == ("__debug__" : Str)) = false ∧ (en == ("__debug__" : Str)) = false ∧ (en == ("__classdict__" : Str)) = false ∧
    ∀ k, k < ncl → ∃ C, xc.cls k = .ref C ∧ PySem.W.exmOne K (.ref C) (.ref CS) = some true
/-- the table of the code at c -/
structure TbAt (mg : Str → Option Value) (base : Heap) (xc : XC) (c : Addr) (q : Str) : Prop where
  ex : ∃ P : Addr, LamX.TabB base mg c P ∧ (P, q) ∈ xc.tb ∧ ∀ p ∈ xc.tb, p.1 = P → p.2 = q
theorem mHeard {X : Cx} {G : Gx} {W : WX} {x tol : Str} {ncl ke k : Nat} {gx : XV → Option D} {m : ME} {c : Addr} {params : Arguments} {body : Expr} {scope : Scope} {p lpos pos : Pos} (gok : GOk G) (hK : G.K = X.K) (T : HeardAt X.prog X.w X.K X.mg X.base G.xc x tol ncl ke gx) (hcode : X.env.code = .ref c) (B : TbAt X.mg X.base G.xc c (X.env.qual ++ "<lambda>"))
    (hr : Room (k + 2) X.A) (hkk : ke ≤ k) (hgd : X.A.guards = some []) (hg : Gl X x) (L : LamX.LamS X.env.scope scope) (hdef : defaultsOf params X.env = ([], []))
    (hbind : ∀ (q : Str) (cl : List (Str × Addr)) (pm cv ctv : Value), bindArgs (PySem.W.kla_fn "<lambda>" q params body scope cl pm cv ctv) ⟨[], []⟩ = pure [])
    (hbody : ∀ (A : Around) (outer : List Env) (s : Shared) (H : Hp) (E : XK) (f c' : Addr), Room k (A.deeper (LamX.lamEnv X scope s.heap.objs.size f c')) → A.guards = some [] → PE (LamX.lamCx X A outer s H E scope f c') body (tM G (fun cls d _ H => E cls d H) m))
    (hdb : (x == ("__debug__" : Str)) = false) : PE X (.Call (.Name x p) [.Lambda params body scope lpos] [] pos) (tM G W (eHeard tol ncl gx m)) := by
  obtain ⟨a, e, en, er, g, CS, fd, st, Ng, j, j2, q1, q2, p1, p2, p3, p4, p5, p6, p7, p8, p9, p10, hm, F, hb, hbd, Sg, hN0, hN1, hva, hln, hge, hger, hme, DX, d1, d2, d3, d4, d5, d6, HC⟩ := T.ex
  obtain ⟨fe, fde, pse, hmer, hke, FE, hbe⟩ := DX.ex
  obtain ⟨Pt, TB, hmT, hu⟩ := B.ex
  refine peOf (pe_heard hg hm F hb hbd Sg hN0 hN1 hva hln hge hger hme hmer FE hke hbe hkk TB hcode hmT hu hr hgd L hdef hbind hbody hdb d1 d2 d3 d4 d5 d6) fun σ H Q q => ?_
  have h := heard_read (CS := CS) gok (by rw [hK]; exact HC) q
  rw [hK] at h
  rw [← hK] at h ⊢
  exact h
end Mir

set_option Elab.async false
set_option linter.all false
set_option maxRecDepth 100000
set_option maxHeartbeats 4000000
namespace Mir
open PySem PySem.Spec PyProof.Rows L2
section
variable {X : Cx} {G : Gx} {W : WX}
/-! ### xs.count(b), bools -/
def isB : D → Bool
  | .bool _ => true
  | _ => false
def isBv (b : Bool) : D → Bool
  | .bool c => c == b
  | _ => false
def gCount : List D → Option D
  | [.list ds, .bool b] => if ds.all isB = true then some (.int (ds.countP (isBv b) : Nat)) else none
  | _ => none
def eqb (b : Bool) : Value → Bool
  | .bool c => c == b
  | _ => false
theorem bools_of {K : PySem.W.Frag} {O : AS} {H : Hp} (b : Bool) : ∀ {vs : List V} {ds : List D} {us : List Value}, RpAll K O H vs ds → Vals vs us → ds.all isB = true → us.countP (eqb b) = ds.countP (isBv b) ∧ ∀ u ∈ us, ∃ c, u = .bool c
  | _, _, _, .nil, .nil, _ => ⟨rfl, fun u hu => by cases hu⟩
  | _, _, _, .cons (d := d) r rs, .cons rv rvs, h => by
    rw [List.all_cons, Bool.and_eq_true] at h
    obtain ⟨h1, h2⟩ := bools_of b rs rvs h.2
    cases r with
    | bl c =>
      cases rv
      refine ⟨?_, fun u hu => ?_⟩
      · rw [List.countP_cons, List.countP_cons, h1]
        rfl
      · rcases List.mem_cons.mp hu with e | e
        · exact ⟨c, e⟩
        · exact h2 u e
    | _ => cases h.1
theorem mtCount : MtD X "list.count" gCount := by
  intro pins s σ H x xs v us Q I rx rxs h
  obtain ⟨O, ds, d, ot, rs, e, q⟩ := h
  unfold gCount at e
  split at e
  · rename_i es b
    split at e
    · rename_i hb
      cases e
      cases rs with
      | cons a1 b1 =>
        cases a1 with
        | lst la lr =>
          cases b1 with
          | cons a2 b2 =>
            cases b2
            cases a2
            cases rx
            obtain ⟨u, rfl, ru⟩ := rxs.one
            cases ru
            obtain ⟨its, rv, ⟨⟨cls, dd, data, sl⟩, n, ho, hc, hdn, hd⟩, hlen⟩ := I.list la.sq
            simp only at hc hd
            subst hc hd
            obtain ⟨hcount, hbools⟩ := bools_of b lr rv hb
            refine call_meets PySem.F.slot_list_count ⟨_, ho, rfl⟩ PySem.F.entry_list_count (PySem.F.args_list_count_2 _ _)
              (SeqAt.list_countAt _ its.toArray n dd sl (.bool b) (eqb b)) ⟨ho, fun y hy => ?_, ?_⟩
            · obtain ⟨c, rfl⟩ := hbools y (by simpa using hy)
              exact SeqAt.EqAt.bool_bool c b
            · refine ⟨.int (es.countP (isBv b) : Nat), H, I.tok _, ⟨s.toks, ?_⟩, q _ _ (fun _ _ z => z) (.int _)⟩
              show Value.int ((its.toArray.toList.countP (eqb b) : Nat) : Int) s.toks = Value.int ((es.countP (isBv b) : Nat) : Int) s.toks
              rw [List.toList_toArray, hcount]
    · cases e
  · cases e
/-! ### f-strings -/
def gFmt : List D → Option D
  | [.str y] => if y.length ≤ lim then some (.str y) else none
  | [.int i] => if i.natAbs.log2 < 1920 then some (.str (toString i)) else none
  | _ => none
theorem mFmt {a : Expr} {ma : ME} {pos : Pos} (hK : G.K = X.K) (ha : PE X a (tM G W ma)) : PE X (.FormattedValue a (-1) none pos) (tM G W (eUn gFmt ma)) := peOf (pe_fmt ha) fun σ H Q q => by
  refine (un_read q).mono fun x H1 h => ?_
  obtain ⟨O, ds, d, ot, rs, e, k⟩ := h
  unfold gFmt at e
  split at e
  · split at e
    · rename_i hl
      cases e
      cases rs with
      | cons a1 b1 =>
        cases b1
        cases a1
        exact .inl ⟨_, rfl, Nat.le_trans hl lim_line, k _ _ (fun _ _ z => z) (.str _)⟩
    · cases e
  · split at e
    · rename_i hl
      cases e
      cases rs with
      | cons a1 b1 =>
        cases b1
        cases a1
        exact .inr ⟨_, rfl, hl, k _ _ (fun _ _ z => z) (.str _)⟩
    · cases e
  · cases e
def eJs : List ME → Str → ME
  | [], acc => fun _ f => .ok (.str acc) f
  | m :: ms, acc => fun ρ f => (m ρ f).bind fun d f1 => match d with
    | .str y => if (acc ++ y).length ≤ lim then eJs ms (acc ++ y) ρ f1 else .bad
    | _ => .bad
theorem js_read : ∀ (ms : List ME) (acc : Str) {σ : L2.St} {H : Hp} {Q : VK}, tM G W (eJs ms acc) σ H Q → tJs (ms.map fun m => tM G W m) acc σ H fun out H1 => Q (.str out) H1
  | [], acc, σ, H, Q, h => by
    obtain ⟨O, ρ, f, A, p⟩ := h
    exact p (.str acc) H A (.refl _ _) (.str _)
  | m :: ms, acc, σ, H, Q, h => by
    obtain ⟨O, ρ, f, A, p⟩ := h
    refine ⟨O, ρ, f, A, ?_⟩
    unfold eJs at p
    cases e : m ρ f with
    | bad => rw [e] at p; exact p.elim
    | exc x f1 => rw [e] at p; exact p
    | ok d f1 =>
      rw [e] at p
      dsimp only [R.bind_ok] at p
      intro v H' A' s r
      cases r with
      | str y =>
        dsimp only at p
        by_cases hl : (acc ++ y).length ≤ lim
        · rw [if_pos hl] at p
          exact ⟨y, rfl, Nat.le_trans hl lim_line, js_read ms (acc ++ y) ⟨O, ρ, f1, A', p.later A s⟩⟩
        · rw [if_neg hl] at p
          exact p.elim
      | _ => exact p.elim
theorem mJs {v1 v2 : Expr} {rest : List Expr} {ms : List ME} {pos : Pos} (h : PJ X (v1 :: v2 :: rest) (ms.map fun m => tM G W m)) : PE X (.JoinedStr (v1 :: v2 :: rest) pos) (tM G W (eJs ms Str.empty)) :=
  peOf (pe_joined h) fun σ H Q q => js_read ms Str.empty q
theorem pjNil : PJ X [] (([] : List ME).map fun m => tM G W m) := .nil
theorem pjCons {e : Expr} {m : ME} {es : List Expr} {ms : List ME} (h : PE X e (tM G W m)) (r : PJ X es (ms.map fun m => tM G W m)) : PJ X (e :: es) ((m :: ms).map fun m => tM G W m) := .cons h r
end
/-! ### a feed made of script[:n] -/
def spFeedS (K : PySem.W.Frag) (n : Nat) : Sp := fun vs H Q _ => ∃ (a : Addr) (ns : List Int), vs = [.ref a] ∧ SqL K H a (ns.map V.int) ∧ ns.length ≤ 63 ∧
  ∀ p c H', p ≠ c → H' p = some (fdDict c ⟨ns.take n, 0, 0, 0⟩) → H' c = some (.lst ((ns.take n).map V.int)) → Same H H' → Q (.ref p) H'
theorem cut_n {ns : List Int} (n : Nat) : cutV (ns.map V.int) none (some (n : Int)) = (ns.take n).map V.int := by
  unfold cutV
  have e1 : HT.sIx (ns.map V.int).length 0 none = 0 := rfl
  rw [e1, HT.sIx_nat, List.drop_zero, Nat.sub_zero, List.map_take, List.length_map]
  by_cases h : n ≤ ns.length
  · rw [show min n ns.length = n by omega]
  · rw [show min n ns.length = ns.length by omega, List.take_of_length_le (by rw [List.length_map]; omega), List.take_of_length_le (by rw [List.length_map]; omega)]
abbrev tFeedN (K : PySem.W.Frag) (n : Int) : TS := tRet (tDisp [(tC (.str (fdKey 0)), tSl (rSlL K) (tVar 0) tNoPart (tPart (tC (.int n)))), (tC (.str (fdKey 1)), tC (.int 0)), (tC (.str (fdKey 2)), tC (.int 0)), (tC (.str (fdKey 3)), tC (.int 0))])
theorem feedN_read {K : PySem.W.Frag} {n : Nat} {vs : List V} {H : Hp} {Q : VK} {E : XK} {N : List Str} (hN : N.length = 1) (h : spFeedS K n vs H Q E) : tFeedN K (n : Int) { nx := fun _ H' => Q .non H', rt := Q } (L2.start N vs) H := by
  obtain ⟨a, ns, rfl, hS, hl, hq⟩ := h
  have e : L2.start N [.ref a] = [some (.ref a)] := by
    unfold L2.start
    rw [hN]
    rfl
  rw [e]
  intro p hp
  simp only [tPairs, tC]
  refine ⟨.ref a, rfl, (n : Int), rfl, a, ns.map V.int, rfl, Same.seq (same_upd hp) hS, fun D hD => ?_⟩
  rw [cut_n]
  have hDp : D ≠ p := fun z => by subst z; rw [upd_same] at hD; cases hD
  have kp : ∀ b o, H b = some o → upd (upd H p (.dK [])) D (.lst ((ns.take n).map V.int)) b = some o := fun b o eb => by
    have h1 : b ≠ p := fun z => by subst z; rw [hp] at eb; cases eb
    have h3 : b ≠ D := fun z => by subst z; rw [upd_ne hDp, eb] at hD; cases hD
    rw [upd_ne h3, upd_ne h1]
    exact eb
  refine ⟨by rw [upd_ne (Ne.symm hDp), upd_same], [(.inr (fdKey 0), .ref D), (.inr (fdKey 1), .int 0), (.inr (fdKey 2), .int 0), (.inr (fdKey 3), .int 0)], rfl, by show 4 ≤ 15; omega, ?_⟩
  refine hq p D _ (Ne.symm hDp) upd_same (by rw [upd_ne hDp, upd_same]) fun b o eb => ?_
  have h1 : b ≠ p := fun z => by subst z; rw [hp] at eb; cases eb
  rw [upd_ne h1]
  exact kp b o eb
theorem spFeedS_len {K : PySem.W.Frag} {n : Nat} {ps : List Str} (hp : ps.length = 1) (vs : List V) (H : Hp) (Q : VK) (E : XK) (h : spFeedS K n vs H Q E) : vs.length = ps.length := by
  obtain ⟨a, ns, rfl, _⟩ := h
  exact hp.symm
structure FeedAtS (P : Program) (w : World) (K : PySem.W.Frag) (mg : Str → Option Value) (base : Heap) (n : Nat) (x y : Str) : Prop where
  ex : ∃ f fd, mg x = some (.ref f) ∧ PySem.W.keepIn K (.ref f) = true ∧ FnG P w K mg base (L2.CX P w) 1 f fd [y] (spFeedS K n) ∧ ∀ us : List Value, us.length = 1 → ∀ s : Shared, BindsTo s fd ⟨us, []⟩ ([y].zip us)
def spLawS (K : PySem.W.Frag) (tb : List (Addr × Str)) (cut : Nat) (m : MS) (n i : Nat) : Sp := fun vs H Q _ => ∃ (a : Addr) (ns : List Int), vs = [.ref a] ∧ LamX.Tabs tb H ∧ SqL K H a (ns.map V.int) ∧ ns.length ≤ 63 ∧ (∃ f, m (entryLaw n i) ⟨ns.take cut, 0, 0, 0⟩ = .ret (.bool true) f) ∧ ∀ H', Q (.bl true) H'
theorem spLawS_len {K : PySem.W.Frag} {tb : List (Addr × Str)} {cut : Nat} {m : MS} {n i : Nat} {ps : List Str} (hp : ps.length = 1) (vs : List V) (H : Hp) (Q : VK) (E : XK) (h : spLawS K tb cut m n i vs H Q E) : vs.length = ps.length := by
  obtain ⟨a, ns, rfl, _⟩ := h
  exact hp.symm
theorem law_readS {K : PySem.W.Frag} {xc : XC} {N : List Str} {cut : Nat} {m : MS} {i : Nat} {vs : List V} {H : Hp} {Q : VK} {E : XK} {W : WX} (hi : i < N.length) (hi0 : 1 ≤ i) (h : spLawS K xc.tb cut m N.length i vs H Q E) :
    tSeq (L2.tAsg (tCallP (spFeedS K cut) (WE W) (tCons (tVar 0) tNil)) (gName i)) (tEx K xc fun G => tMS G W m) { nx := fun _ H' => Q .non H', rt := Q } (L2.start N vs) H := by
  obtain ⟨a, ns, rfl, tb, hS, hl, ⟨f, hm⟩, hQ⟩ := h
  refine ⟨.ref a, start_at rfl, a, ns, rfl, hS, hl, fun p c H' hpc hp hc hk => ?_⟩
  have hfd : FeedOk K (fun b => b = p) H' (some p) c ⟨ns.take cut, 0, 0, 0⟩ := ⟨rfl, hp, fun z => hpc z.symm, hc⟩
  have gok : GOk (⟨K, H', fun b => b = p, some p, c, xc, none⟩ : Gx) := ⟨fun b e => FeedOk.own hfd e⟩
  refine ⟨⟨K, H', fun b => b = p, some p, c, xc, none⟩, rfl, rfl, gok, fun b => b = p, entryLaw N.length i, ⟨ns.take cut, 0, 0, 0⟩, ?_, ?_⟩
  · have hlen : (L2.start N [.ref a]).length = N.length := by unfold L2.start; rw [List.length_append, List.length_map, List.length_replicate, List.length_singleton]; omega
    refine ⟨fun b o _ _ e => e, fun _ h => h, fun _ h => .inl h, fun b hb => ⟨fdDict c ⟨ns.take cut, 0, 0, 0⟩, by subst hb; exact hp, notTbl_dK⟩, hfd, ?_, fun j s e => ?_, fun j k xs ys b e1 _ w1 => ?_, tb.ext hk⟩
    · unfold entryLaw
      rw [List.length_set, List.length_set, List.length_replicate, hlen]
    · unfold entryLaw at e
      by_cases hj : i = j
      · subst hj
        rw [List.getElem?_set_self (by rw [List.length_replicate]; exact hi)] at e
        cases e
        exact ⟨p, by rw [List.getElem?_set_self (by rw [hlen]; exact hi)], rfl⟩
      · rw [List.getElem?_set_ne hj, List.getElem?_replicate] at e
        split at e
        · cases e; trivial
        · cases e
    · unfold entryLaw at e1
      by_cases hj : i = j
      · subst hj
        rw [List.getElem?_set_self (by rw [List.length_replicate]; exact hi)] at e1
        cases e1
        exact w1.elim
      · rw [List.getElem?_set_ne hj, List.getElem?_replicate] at e1
        split at e1 <;> cases e1
        exact w1.elim
  · rw [hm]
    intro O' σ' ρ' v H'' A' s' r
    cases r
    exact hQ _
end Mir

set_option Elab.async false
set_option linter.all false
set_option maxRecDepth 100000
set_option maxHeartbeats 4000000
namespace Mir
open PySem PySem.Spec PyProof.Rows L2
/-! ### what the head tests of classes and tables -/
abbrev ClsL : Type := List (Str × List Str)
def clsK (K : PySem.W.Frag) (xs : ClsL) : Nat → Value := fun k => match xs[k]? with
  | some p => .ref (He.ga K p.1)
  | none => .none
def xnmL (xs : ClsL) : Nat → List Str := fun k => match xs[k]? with
  | some p => p.2.reverse
  | none => []
def xcL (K : PySem.W.Frag) (xs : ClsL) (tb : List (Addr × Str)) : XC := ⟨clsK K xs, xnmL xs, tb⟩
theorem clsK_at {K : PySem.W.Frag} {xs : ClsL} {k : Nat} {C : Addr} (h : clsK K xs k = .ref C) : ∃ p, xs[k]? = some p ∧ C = He.ga K p.1 := by
  unfold clsK at h
  split at h
  · rename_i p e
    cases h
    exact ⟨p, e, rfl⟩
  · cases h
def xcB (K : PySem.W.Frag) (x : Str) : Bool := (PySem.W.clsIn K (He.ga K x)).isSome && (decide (PySem.W.findIn K (.ref (He.ga K x)) "__class__" = some (some (.builtin "object.__class__"))) && (decide (PySem.W.specialIn K (.builtin "object.__class__") "__get__" = some (some (.builtin "getset_descriptor.__get__"))) &&
  (decide (PySem.W.takesIn K (.builtin "object.__class__") = some true) && decide (PySem.W.mroIn K (He.ga K x) (.type "object") = some true))))
def excsB (K : PySem.W.Frag) (xs : ClsL) : Bool := xs.all fun p => excB K p.1 p.2 && xcB K p.1
theorem excsB_at {K : PySem.W.Frag} {xs : ClsL} (h : excsB K xs = true) {k : Nat} {p : Str × List Str} (e : xs[k]? = some p) : excB K p.1 p.2 = true ∧ xcB K p.1 = true := by
  have := List.all_eq_true.mp h p (List.mem_of_getElem? e)
  rw [Bool.and_eq_true] at this
  exact this
theorem xcOk_of {K : PySem.W.Frag} {xs : ClsL} {tb : List (Addr × Str)} (h : excsB K xs = true) : XcOk K (xcL K xs tb) (xnmL xs) := by
  refine ⟨fun _ => rfl, fun k C hC => ?_⟩
  obtain ⟨p, e, rfl⟩ := clsK_at hC
  obtain ⟨h1, h2⟩ := excsB_at h e
  have T := excB_ok h1
  unfold xcB at h2
  simp only [Bool.and_eq_true, decide_eq_true_eq] at h2
  obtain ⟨a1, a2, a3, a4, a5⟩ := h2
  refine ⟨T.xf, a1, a2, a3, a4, a5, fun n hn => T.no n ?_⟩
  unfold xnmL at hn
  rw [e] at hn
  exact List.mem_reverse.mp hn
theorem excF_of {K : PySem.W.Frag} {mg : Str → Option Value} {xs : ClsL} {tb : List (Addr × Str)} {x : Str} {names : List Str} {k : Nat} {st : Stmt} {fd : FuncData} (h : excsB K xs = true) (hk : xs[k]? = some (x, names)) (hm : mg x = some (.ref (He.ga K x)))
    (FD : FunD K "__init__" (x ++ ".__init__") (defArgs st) (defBody st) (defScope st) [] [] (He.fAd K (x, some "__init__")) fd) : ExcF K mg (xcL K xs tb) x k names st := by
  refine ⟨He.ga K x, _, fd, hm, ?_, ?_, excB_ok (excsB_at h hk).1, FD⟩
  · show clsK K xs k = _
    unfold clsK
    rw [hk]
  · show xnmL xs k = _
    unfold xnmL
    rw [hk]
def subB (K : PySem.W.Frag) (xs : ClsL) (cv : Value) (tab : List Bool) : Bool := (xs.zip tab).all fun q => decide (PySem.W.kitOne K (.ref (He.ga K q.1.1)) cv = some q.2)
theorem subB_ok {K : PySem.W.Frag} {xs : ClsL} {tb : List (Addr × Str)} {cv : Value} {tab : List Bool} (h : subB K xs cv tab = true) (k : Nat) (b : Bool) (C : Addr) (hC : (xcL K xs tb).cls k = .ref C) (hb : tab[k]? = some b) : PySem.W.kitOne K (.ref C) cv = some b := by
  obtain ⟨p, e, rfl⟩ := clsK_at hC
  have hm : (p, b) ∈ xs.zip tab := by
    refine List.mem_of_getElem? (i := k) ?_
    rw [List.getElem?_zip_eq_some]
    exact ⟨e, hb⟩
  exact of_decide_eq_true (List.all_eq_true.mp h (p, b) hm)
theorem isK_own {K : PySem.W.Frag} {mg : Str → Option Value} {xs : ClsL} {tb : List (Addr × Str)} {y : Str} {tab : List Bool} (h : subB K xs (.ref (He.ga K y)) tab = true) (hm : mg y = some (.ref (He.ga K y))) : IsK K mg (xcL K xs tb) y tab :=
  ⟨.ref (He.ga K y), .ref (He.ga K y), .inl hm, rfl, fun u e => e, subB_ok h⟩
theorem isK_blt {K : PySem.W.Frag} {mg : Str → Option Value} {xs : ClsL} {tb : List (Addr × Str)} {y : Str} {T : String} {tab : List Bool} (h : subB K xs (.type T) tab = true) (hm : mg y = none) (hb : bootBuiltins y = some (.type T)) : IsK K mg (xcL K xs tb) y tab :=
  ⟨.ty T, .type T, .inr ⟨hm, hb⟩, rfl, fun u e => e, subB_ok h⟩
def exmB (K : PySem.W.Frag) (xs : ClsL) (e : Str) : Bool := xs.all fun p => decide (PySem.W.exmOne K (.ref (He.ga K p.1)) (.ref (He.ga K e)) = some true)
theorem exmB_ok {K : PySem.W.Frag} {xs : ClsL} {tb : List (Addr × Str)} {e : Str} (h : exmB K xs e = true) : ∀ k, k < xs.length → ∃ C, (xcL K xs tb).cls k = .ref C ∧ PySem.W.exmOne K (.ref C) (.ref (He.ga K e)) = some true := fun k hk => by
  refine ⟨He.ga K xs[k].1, ?_, of_decide_eq_true (List.all_eq_true.mp h xs[k] (List.getElem_mem hk))⟩
  show clsK K xs k = _
  unfold clsK
  rw [List.getElem?_eq_getElem hk]
/-- which of the classes a clause takes -/
def exmTB (K : PySem.W.Frag) (xs : ClsL) (e : Str) (tab : List Bool) : Bool := decide (tab.length ≤ xs.length) && (xs.zip tab).all fun q => decide (PySem.W.exmOne K (.ref (He.ga K q.1.1)) (.ref (He.ga K e)) = some q.2)
structure ExmK (K : PySem.W.Frag) (mg : Str → Option Value) (xc : XC) (y : Str) (tab : List Bool) : Prop where
  ex : ∃ c, mg y = some c ∧ ∀ (k : Nat) (b : Bool), tab[k]? = some b → PySem.W.exmOne K (xc.cls k) c = some b
theorem exmT_ok {K : PySem.W.Frag} {mg : Str → Option Value} {xs : ClsL} {tb : List (Addr × Str)} {e : Str} {tab : List Bool} (h : exmTB K xs e tab = true) (hm : mg e = some (.ref (He.ga K e))) : ExmK K mg (xcL K xs tb) e tab := by
  unfold exmTB at h
  rw [Bool.and_eq_true, decide_eq_true_eq] at h
  refine ⟨_, hm, fun k b hk => ?_⟩
  obtain ⟨hl, e1⟩ := List.getElem?_eq_some_iff.mp hk
  have hk2 : k < xs.length := by omega
  have e2 : xs[k]? = some xs[k] := List.getElem?_eq_getElem hk2
  have hm : (xs[k], b) ∈ xs.zip tab := by
    refine List.mem_of_getElem? (i := k) ?_
    rw [List.getElem?_zip_eq_some]
    exact ⟨e2, hk⟩
  have q := of_decide_eq_true (List.all_eq_true.mp h.2 (xs[k], b) hm)
  show PySem.W.exmOne K (clsK K xs k) _ = _
  unfold clsK
  rw [e2]
  exact q
def tabsK (K : PySem.W.Frag) (tf : List He.Defn) : List Addr := (tf.map fun p => He.cT K p).map (·.2)
theorem tbAt_of {K : PySem.W.Frag} {mg : Str → Option Value} {base : Heap} {xs : ClsL} {tf : List He.Defn} {qs : List Str} {x q : Str} (i : Nat) (nd : (tabsK K tf).Nodup) (hi : tf[i]? = some (x, none)) (hq : qs[i]? = some q)
    (TB : ∀ p ∈ tf.map (fun p => He.cT K p), LamX.TabB base mg p.1 p.2) : TbAt mg base (xcL K xs ((tabsK K tf).zip qs)) (He.codeOf K (x, none)) q := by
  have hmem : He.cT K (x, none) ∈ tf.map fun p => He.cT K p := List.mem_map.mpr ⟨_, List.mem_of_getElem? hi, rfl⟩
  have hat : (tabsK K tf)[i]? = some (He.cT K (x, none)).2 := by
    unfold tabsK
    rw [List.map_map, List.getElem?_map, hi]
    rfl
  refine ⟨(He.cT K (x, none)).2, TB _ hmem, ?_, fun p hp e => ?_⟩
  · refine List.mem_of_getElem? (i := i) ?_
    show ((tabsK K tf).zip qs)[i]? = _
    rw [List.getElem?_zip_eq_some]
    exact ⟨hat, hq⟩
  · obtain ⟨j, hj⟩ := List.getElem?_of_mem (show p ∈ (tabsK K tf).zip qs from hp)
    rw [List.getElem?_zip_eq_some] at hj
    obtain ⟨h1, h2⟩ := hj
    rw [e] at h1
    have hij : i = j := by
      obtain ⟨a1, a2⟩ := List.getElem?_eq_some_iff.mp hat
      obtain ⟨b1, b2⟩ := List.getElem?_eq_some_iff.mp h1
      have pw := List.pairwise_iff_getElem.mp nd
      rcases Nat.lt_trichotomy i j with z | z | z
      · exact absurd (a2.trans b2.symm) (pw i j a1 b1 z)
      · exact z
      · exact absurd (b2.trans a2.symm) (pw j i b1 a1 z)
    subst hij
    rw [hq] at h2
    exact (Option.some.inj h2).symm
/-- all tests in one -/
def exAll (dt : List (Str × D)) (xs : ClsL) (subs : List (Str × List Bool)) (subT : List (String × List Bool)) (e : Str) (tf : List He.Defn) (trs : List (Str × List Bool)) (K : PySem.W.Frag) : Bool :=
  dt.all (datK K) && (excsB K xs && (subs.all (fun q => subB K xs (.ref (He.ga K q.1)) q.2) && (subT.all (fun q => subB K xs (.type q.1) q.2) && (exmB K xs e && (decide (tabsK K tf).Nodup && trs.all fun q => exmTB K xs q.1 q.2)))))
section
variable {fa : List He.Fa} {fn : List He.DefD} {tf : List He.Defn} {dt : List (Str × D)} {xs : ClsL} {subs : List (Str × List Bool)} {subT : List (String × List Bool)} {e : Str} {trs : List (Str × List Bool)} {w : World} {h : Heap} {K : PySem.W.Frag} {mg : Str → Option Value}
abbrev SaysE (fa : List He.Fa) (fn : List He.DefD) (tf : List He.Defn) (dt : List (Str × D)) (xs : ClsL) (subs : List (Str × List Bool)) (subT : List (String × List Bool)) (e : Str) (trs : List (Str × List Bool)) (w : World) (h : Heap) (K : PySem.W.Frag) : Prop := He.SaysX fa fn [] tf (exAll dt xs subs subT e tf trs) w h K
theorem SaysE.d (c : SaysE fa fn tf dt xs subs subT e trs w h K) : He.SaysD fa fn K := congrArg (fun z : He.AlT => z.1) c.t
theorem SaysE.ex (c : SaysE fa fn tf dt xs subs subT e trs w h K) : dt.all (datK K) = true ∧ excsB K xs = true ∧ (subs.all (fun q => subB K xs (.ref (He.ga K q.1)) q.2)) = true ∧ (subT.all (fun q => subB K xs (.type q.1) q.2)) = true ∧ exmB K xs e = true ∧ (tabsK K tf).Nodup ∧ (trs.all fun q => exmTB K xs q.1 q.2) = true := by
  have m := c.more
  unfold exAll at m
  simp only [Bool.and_eq_true, decide_eq_true_eq] at m
  exact m
theorem defE (X : K.In h) (G : h.Ns mainGlobals mg) (c : SaysE fa fn tf dt xs subs subT e trs w h K) {x : Str} {st : Stmt} (i : Nat) (hi : fn[i]? = some (defOf x st)) (j : Nat) (hj : fa[j]? = some (.glo x)) :
    ∃ f fd, f = He.ga K x ∧ mg x = some (.ref f) ∧ FunD K x x (defArgs st) (defBody st) (defScope st) [] [] f fd := by
  obtain ⟨fd, F⟩ := c.d.def_ i hi
  exact ⟨_, fd, rfl, He.glo_ok X G (c.d.fact j hj), F⟩
theorem gloE (X : K.In h) (G : h.Ns mainGlobals mg) (c : SaysE fa fn tf dt xs subs subT e trs w h K) {x : Str} (j : Nat) (hj : fa[j]? = some (.glo x)) : mg x = some (.ref (He.ga K x)) := He.glo_ok X G (c.d.fact j hj)
theorem freeE (X : K.In h) (G : h.Ns mainGlobals mg) (c : SaysE fa fn tf dt xs subs subT e trs w h K) {x : Str} (j : Nat) (hj : fa[j]? = some (.free x)) : mg x = none := He.free_ok X G (c.d.fact j hj)
theorem dataE (X : K.In h) (G : h.Ns mainGlobals mg) (c : SaysE fa fn tf dt xs subs subT e trs w h K) {x : Str} {d : D} (j : Nat) (hj : dt[j]? = some (x, d)) : GData K mg x d :=
  gdata_of X G (p := (x, d)) (List.all_eq_true.mp c.ex.1 _ (List.mem_of_getElem? hj))
def initOf (x : Str) (st : Stmt) : He.DefD := ⟨(x, some "__init__"), "__init__", x ++ ".__init__", defArgs st, defBody st, defScope st, [], []⟩
theorem excE (X : K.In h) (G : h.Ns mainGlobals mg) (c : SaysE fa fn tf dt xs subs subT e trs w h K) {x : Str} {names : List Str} {st : Stmt} (tb : List (Addr × Str)) (k : Nat) (hk : xs[k]? = some (x, names)) (i : Nat) (hi : fn[i]? = some (initOf x st)) (j : Nat) (hj : fa[j]? = some (.glo x)) : ExcF K mg (xcL K xs tb) x k names st := by
  obtain ⟨fd, F⟩ := c.d.def_ i hi
  exact excF_of c.ex.2.1 hk (gloE X G c j hj) F
theorem isE (X : K.In h) (G : h.Ns mainGlobals mg) (c : SaysE fa fn tf dt xs subs subT e trs w h K) {y : Str} {tab : List Bool} (tb : List (Addr × Str)) (k : Nat) (hk : subs[k]? = some (y, tab)) (j : Nat) (hj : fa[j]? = some (.glo y)) : IsK K mg (xcL K xs tb) y tab :=
  isK_own (List.all_eq_true.mp c.ex.2.2.1 _ (List.mem_of_getElem? hk)) (gloE X G c j hj)
theorem isT (X : K.In h) (G : h.Ns mainGlobals mg) (c : SaysE fa fn tf dt xs subs subT e trs w h K) {y : Str} {T : String} {tab : List Bool} (tb : List (Addr × Str)) (k : Nat) (hk : subT[k]? = some (T, tab)) (j : Nat) (hj : fa[j]? = some (.free y)) (hb : bootBuiltins y = some (.type T)) : IsK K mg (xcL K xs tb) y tab :=
  isK_blt (List.all_eq_true.mp c.ex.2.2.2.1 _ (List.mem_of_getElem? hk)) (freeE X G c j hj) hb
theorem exmE (X : K.In h) (G : h.Ns mainGlobals mg) (c : SaysE fa fn tf dt xs subs subT e trs w h K) {y : Str} {tab : List Bool} (tb : List (Addr × Str)) (k : Nat) (hk : trs[k]? = some (y, tab)) (j : Nat) (hj : fa[j]? = some (.glo y)) : ExmK K mg (xcL K xs tb) y tab :=
  exmT_ok (List.all_eq_true.mp c.ex.2.2.2.2.2.2 _ (List.mem_of_getElem? hk)) (gloE X G c j hj)
/-- a class's __init__ -/
def clsInit (st : Stmt) (j : Nat) : Stmt := match st with
  | .ClassDef _ _ _ body .. => body.getD j (.Pass ⟨0, 0, 0, 0⟩)
  | _ => .Pass ⟨0, 0, 0, 0⟩
end
end Mir

set_option Elab.async false
set_option linter.all false
set_option maxRecDepth 100000
set_option maxHeartbeats 4000000
namespace Mir
open PySem PySem.Spec PyProof.Rows L2
theorem units64H {k : Nat} {A : Around} (r : L2H.RoomH k A) : A.units + 64 < cLine := by have := r.un; omega
theorem units1H {k : Nat} {A : Around} (r : L2H.RoomH k A) : A.units + 1 < cLine := by have := r.un; omega
/-! ### a list lent, evaluated -/
theorem bBor_ok {i : Nat} {m : MB} {ρ : List Sl} {f f' : FS} {b : Bool} (h : m (frz i ρ) f = .ok b f') : bBor i m ρ f = .ok b f' := by
  unfold bBor
  rw [h]
theorem eBor_ok {i : Nat} {m : ME} {ρ : List Sl} {f f' : FS} {d : D} (h : m (frz i ρ) f = .ok d f') (hs : scal d = true) : eBor i m ρ f = .ok d f' := by
  unfold eBor
  rw [h]
  exact if_pos hs
section
variable {X : Cx} {G : Gx} {W : WX}
/-! ### x, y = ([..], e), x a list of one's own -/
theorem Agr.putL {O : AS} {σ : L2.St} {H : Hp} {ρ : List Sl} {f : FS} (A : Agr G O σ H ρ f) (i : Nat) {p : Addr} {vs : List V} {ds : List D} (op : O p) (n0 : ¬ G.O0 p) (e : H p = some (.lst vs)) (r : RpAll G.K O H vs ds)
    (nsl : ∀ (j : Nat) (a : Addr) (xs : Sl), ρ[j]? = some xs → xs.own → σ[j]? = some (some (V.ref a)) → a ≠ p) : Agr G O (σ.set i (some (.ref p))) H (ρ.set i (.l ds)) f := by
  have hl := A.len
  refine ⟨A.grow, A.o0, A.onew, A.ot, A.feed, by simp [hl], fun j s es => ?_, fun j k xs ys a e1 e2 w1 w2 s1 s2 => ?_, A.tabs⟩
  · by_cases hj : i = j
    · subst hj
      have hi : i < ρ.length := by
        have := (List.getElem?_eq_some_iff.mp es).1
        simpa using this
      rw [List.getElem?_set_self hi] at es
      cases es
      exact ⟨p, vs, by rw [List.getElem?_set_self (by omega)], op, n0, e, r⟩
    · rw [List.getElem?_set_ne hj] at es
      have q := A.slots j s es
      rw [List.getElem?_set_ne hj]
      exact q
  · by_cases hj : i = j
    · by_cases hk : i = k
      · omega
      · subst hj
        rw [List.getElem?_set_ne hk] at e2 s2
        have hi : i < σ.length := by
          have := (List.getElem?_eq_some_iff.mp s1).1
          simpa using this
        rw [List.getElem?_set_self hi] at s1
        cases s1
        exact absurd rfl (nsl k _ ys e2 w2 s2)
    · rw [List.getElem?_set_ne hj] at e1 s1
      by_cases hk : i = k
      · subst hk
        have hi : i < σ.length := by
          have := (List.getElem?_eq_some_iff.mp s2).1
          simpa using this
        rw [List.getElem?_set_self hi] at s2
        cases s2
        exact absurd rfl (nsl j _ xs e1 w1 s1)
      · rw [List.getElem?_set_ne hk] at e2 s2
        exact A.inj j k xs ys a e1 e2 w1 w2 s1 s2
theorem set_same {σ : List (Option V)} (i : Nat) : σ.set i ((σ[i]?).getD none) = σ := by
  apply List.ext_getElem?
  intro j
  by_cases h : i = j
  · subst h
    by_cases hi : i < σ.length
    · rw [List.getElem?_set_self hi, List.getElem?_eq_getElem hi]
      rfl
    · rw [List.getElem?_eq_none (by rw [List.length_set]; omega), List.getElem?_eq_none (by omega)]
  · rw [List.getElem?_set_ne h]
def sParOwn (i j : Nat) (ms : MA) (m2 : ME) : MS := fun ρ f => sBind (ms ρ f) fun ds f1 => if ds.length ≤ lim then sBind (m2 (ρ.set i .no) f1) fun e f2 => .nx (((ρ.set i .no).set i (.l ds)).set j (.d e)) f2 else .bad
theorem psParOwn {i j : Nat} {x y : Str} {es : List Expr} {b : Expr} {ms : MA} {m2 : ME} {px py pt p1 : Pos} {kt k2 pt2} (hc : X.calm = true) (hN : X.N.Nodup) (hi : X.N[i]? = some x) (hj : X.N[j]? = some y) (hij : i ≠ j)
    (hx : X.env.scope.names.lookup x = some .local) (hy : X.env.scope.names.lookup y = some .local) (ha : PA X es (tMA G W ms)) (hb : PE X b (tM G W m2))
    (h1 : starEach [.List es p1, b] X.env = (false, eval (.List es p1) X.env) :: starEach [b] X.env) (h2 : starEach [b] X.env = (false, eval b X.env) :: starEach [] X.env)
    (hw : swappedStores [.Tuple [.Name x px, .Name y py] kt pt] (.Tuple [.List es p1, b] k2 pt2) X.env = pure (some [x, y]))
    (hs : swapsWithSole [.Tuple [.Name x px, .Name y py] kt pt] (.Tuple [.List es p1, b] k2 pt2) pos.line X.env = pure false) :
    PS X (.Assign [.Tuple [.Name x px, .Name y py] kt pt] (.Tuple [.List es p1, b] k2 pt2) pos) (tMS G W (sParOwn i j ms m2)) := psOf (ps_par hc hN hi hj hij hx hy (pa_cons (pe_lst ha) (pa_cons hb pa_nil h2) h1) hw hs) fun D σ H q => by
  refine (sBind_read (rel := RpAll G.K) (k := fun ds ρ f1 => if ds.length ≤ lim then sBind (m2 (ρ.set i .no) f1) fun e f2 => SR.nx (((ρ.set i .no).set i (.l ds)).set j (.d e)) f2 else SR.bad) q).mono fun vs H1 h => ?_
  obtain ⟨O, ρ, f, ds, A, r, p⟩ := h
  by_cases hk : ds.length ≤ lim
  · rw [if_pos hk] at p
    refine ⟨by rw [r.length]; exact Nat.le_trans hk lim_line, fun q hq => ?_⟩
    obtain ⟨A1, up⟩ := A.setL i r hq
    have A2 := A1.setNo i (v := (σ[i]?).getD none)
    rw [List.set_set, List.set_set, set_same] at A2
    have nO := A.ot.fresh hq
    have nfa : some q ≠ G.fa := fun z => nO (FeedOk.own A.feed z.symm)
    refine ⟨_, ρ.set i .no, f, A2, ?_⟩
    cases em : m2 (ρ.set i .no) f with
    | bad => rw [em] at p; exact p.elim
    | exc x f2 =>
      rw [em] at p
      exact fun cls d H' A' s' xa => p _ _ _ cls d H' A' (up.trans (A2.stepO s')) xa
    | ok e f2 =>
      rw [em] at p
      intro v2 H2 A3 o3 r3
      have st := up.trans (A2.stepO o3)
      refine ⟨_, _, rfl, p _ _ H2 ((A3.putL i (.inr rfl) (fun z => nO (A.o0 q z)) (o3 q _ nfa notTbl_lst upd_same) (RpAll.step st _ _ r) fun j' a xs e1 w e2 => ?_).setD j r3) st⟩
      by_cases hji : i = j'
      · subst hji
        have hi2 : i < ρ.length := by
          have := (List.getElem?_eq_some_iff.mp e1).1
          simpa using this
        rw [List.getElem?_set_self hi2] at e1
        cases e1
        exact w.elim
      · rw [List.getElem?_set_ne hji] at e1
        exact A.notAt hq j' a xs e1 w e2
  · rw [if_neg hk] at p
    exact p.elim
end
end Mir

set_option Elab.async false
set_option linter.all false
set_option maxRecDepth 100000
set_option maxHeartbeats 4000000
namespace Mir
open PySem PySem.Spec PyProof.Rows L2
/-! ### enumerate(tuple) -/
def IteT (K : PySem.W.Frag) (a : Addr) : It :=
  ⟨fun i H => ∃ (xs : List V) (x : V), SqT K H a xs ∧ xs[i]? = some x, fun i H v H' => ∃ T x, v = .ref T ∧ H T = none ∧ H' = upd H T (.tup [.int (i : Nat), x]) ∧ ∀ xs, SqT K H a xs → xs[i]? = some x, fun i H => ∃ xs : List V, SqT K H a xs ∧ xs.length = i⟩
set_option maxHeartbeats 4000000 in
theorem meets_enum1 {v : Value} {o : Obj} {H : Heap → Prop} (B : Begins v o H) :
    Meets (Builtin.«enumerate.__new__» ⟨[.type "enumerate", v], []⟩) (fun _ R s => H s.heap ∧
      R (.ok (.ret (.ref (s.heap.push o).objs.size))) { s with heap := (s.heap.push o).push { cls := .type "enumerate", data := .fields #[.none, .bool false, .ref s.heap.objs.size, rawInt 0, .none, .none] } }) :=
  .of_wp fun prog w A R s h => by
    obtain ⟨hp, g, d, tk, os⟩ := s; obtain ⟨h1, h⟩ := h
    have hsub := sub_enumerate
    have q1 : ∀ {A' : Around} {E : Value → Shared → Prop} {Q : Value → Shared → Prop}, Q (.ref hp.objs.size) ⟨hp.push o, g, d, tk, os⟩ → wpAny (model prog w) A' (pyIter v) Q E ⟨hp, g, d, tk, os⟩ :=
      fun q => B.iter prog w _ _ ⟨hp, g, d, tk, os⟩ _ h1 q
    wp_walk using q1
    refine wpAny_stack_any fun st => wpAny_pure ?_
    split
    · rename_i c _ _ _ _ _
      cases (c == Value.type "enumerate")
      · wp_walk using q1
        exact ⟨_, rfl, h⟩
      · wp_walk using q1
        exact ⟨_, rfl, h⟩
    · wp_walk using q1
      exact ⟨_, rfl, h⟩
theorem enum_begins1 {prog : Program} {w : World} {A : Around} {E : Value → Shared → Prop} {s : Shared} {v : Value} {o : Obj} {H : Heap → Prop} {Q : Value → Shared → Prop} (B : Begins v o H) (h1 : H s.heap)
    (h : ∀ h', IsEnum h' (s.heap.objs.size + 1) s.heap.objs.size 0 .none → h'.get? s.heap.objs.size = some o → h'.objs.size = s.heap.objs.size + 2 →
      (∀ b o, s.heap.get? b = some o → h'.get? b = some o) → Q (.ref (s.heap.objs.size + 1)) { s with heap := h' }) :
    wpAny (model prog w) A (call (.type "enumerate") [v]) Q E s := by
  refine callType_new F.called_enumerate (by decide) (F.typeCall_enumerate_1 _) (F.newCall_enumerate_1 _) (fun obj => F.args_object_init_2 obj _) F.entry_enumerate_new (meets_enum1 B) ⟨h1, ?_⟩
  have hz : (s.heap.push o).objs.size = s.heap.objs.size + 1 := Heap.size_push ..
  show _ ∧ _
  rw [hz]
  have he : IsEnum ((s.heap.push o).push { cls := .type "enumerate", data := .fields #[.none, .bool false, .ref s.heap.objs.size, rawInt 0, .none, .none] }) (s.heap.objs.size + 1) s.heap.objs.size 0 .none := by
    have := Heap.get?_push_size (s.heap.push o) (o := { cls := .type "enumerate", data := .fields #[.none, .bool false, .ref s.heap.objs.size, rawInt 0, .none, .none] }) rfl
    rw [hz] at this; exact this
  exact ⟨⟨_, he, rfl⟩, h _ he (Heap.get?_push_of_some _ (Heap.get?_push_size _ B.free)) (by rw [Heap.size_push, hz]) fun b o x => Heap.get?_push_of_some _ (Heap.get?_push_of_some _ x)⟩
theorem turn_enumT {P : Program} {w : World} {K : PySem.W.Frag} {elts : List Expr} {kk : Nat} {tpos : Pos} (a e it : Addr) :
    Turn P w K (.Tuple elts kk tpos) (IteT K a) [e, it] e (fun i h => (∃ old, IsEnum h e it ((i : Nat) : Int) old) ∧ h.IsTupleIter it a i ∧ e ≠ it) where
  mem := by simp
  obj := fun i h st b hb => by
    obtain ⟨⟨old, he⟩, ⟨o, ho, hc, hd⟩, _⟩ := st
    have e' : b = e ∨ b = it := by simpa using hb
    rcases e' with z | z
    · rw [z]; exact ⟨_, he, fun v q => nomatch q⟩
    · rw [z]; exact ⟨o, ho, fun v q => by rw [hd] at q; cases q⟩
  keep := fun i h h' st k => let ⟨⟨old, he⟩, hi, hne⟩ := st; ⟨⟨old, k e (by simp) _ he⟩, hi.at fun o q => k it (by simp) o q, hne⟩
  item := by
    intro X hP hw hK hc i pins s σ H E I hf st hg
    subst hP hw hK
    obtain ⟨⟨old, he⟩, hit, hne⟩ := st
    obtain ⟨xs, x, hq, hx⟩ := hg
    obtain ⟨its, rv, p, hz⟩ := I.tuple hq
    obtain ⟨u, hu, ru⟩ := rv.get hx
    have p : s.heap.IsTuple a its.toArray := p
    have hel : e < s.heap.objs.size := Heap.lt_size he
    have hil : it < s.heap.objs.size := by obtain ⟨_, q, _⟩ := hit; exact Heap.lt_size q
    have nai : a ≠ it := fun z => by
      obtain ⟨o1, h1, c1, _⟩ := p
      obtain ⟨o2, h2, c2, _⟩ := hit
      rw [z, h2] at h1; cases h1
      exact absurd (Value.type.inj (c1.symm.trans c2)) (by decide)
    have nae : e ≠ a := fun z => by
      obtain ⟨o1, h1, c1, _⟩ := p
      have he' : s.heap.get? e = _ := he
      rw [z, h1] at he'; cases he'
      exact absurd (Value.type.inj c1) (by decide)
    have hlt : i < its.toArray.size := by
      have := (List.getElem?_eq_some_iff.mp hu).1
      simpa using this
    refine wpAny_pyNext_enum_itemD (Draws.tuple (A := X.A.in1) (I.ok.hd hc) it a nai its.toArray) he ⟨hit, p⟩ hlt hne (by simp [hne, nae]) fun x' h' tk hP ho hst hT hsz hk => ?_
    have ex : x' = u := by
      have z : its[i]? = some x' := by simpa using hP
      rw [hu] at z
      exact (Option.some.inj z).symm
    subst ex
    refine ⟨_, rfl, wpAny_letOwnedTupleGo_enum (s := { s with heap := h', toks := tk + 1 }) ho fun h'' he' sb => ?_⟩
    have hT2 : h''.get? s.heap.objs.size = some { cls := .type "tuple", data := .seq #[.int i tk, x'] } := (sb.2 _ (Nat.ne_of_gt hel)).trans hT
    have new : ObjOk X.prog X.w (upd H s.heap.objs.size (.tup [.int (i : Nat), x])) h'' s.heap.objs.size (.tup [.int (i : Nat), x]) :=
      ⟨by show 2 ≤ sizeLine; decide, [.int i tk, x'], .cons ⟨_, rfl⟩ (.cons ru .nil), ⟨_, hT2, rfl, _, rfl⟩⟩
    have I1 : Inv X pins σ (upd H s.heap.objs.size (.tup [.int (i : Nat), x])) { s with heap := h'', toks := tk + 1 } :=
      I.turnedNew (ch := [e, it]) (fun b ob hb q => (sb.2 b (fun z => hb (by simp [z]))).trans (hk b ob (fun z => hb (by simp [z])) (fun z => hb (by simp [z])) q)) hf (Nat.le_refl _) new
    refine ⟨.ref s.heap.objs.size, _, I1, rfl, ⟨_, x, rfl, I.hok.fresh (Nat.le_refl _), rfl, fun ys hy => by rw [I.tuple_inj hy hq]; exact hx⟩, ⟨⟨x', ?_⟩, hst.1.at fun o q => (sb.2 it (Ne.symm hne)).trans q, hne⟩, fun b hb => ?_⟩
    · have e1 : ((i + 1 : Nat) : Int) = (i : Int) + 1 := by omega
      rw [e1]; exact he'
    · have hb' : b < s.heap.objs.size := by
        have e' : b = e ∨ b = it := by simpa using hb
        rcases e' with z | z
        · rw [z]; exact hel
        · rw [z]; exact hil
      rw [upd_ne (Nat.ne_of_lt hb')]
      exact (hf b hb).1
  done := by
    intro X hP hw hK hc i pins s σ H E I hf st hg
    subst hP hw hK
    obtain ⟨⟨old, he⟩, hit, hne⟩ := st
    obtain ⟨xs, hq, hx⟩ := hg
    obtain ⟨its, rv, p, hz⟩ := I.tuple hq
    have p : s.heap.IsTuple a its.toArray := p
    obtain ⟨f0, f1, f2, f3, f4, f5⟩ := hf it (by simp)
    have hl := rv.length
    have nai : a ≠ it := fun z => by
      obtain ⟨o1, h1, c1, _⟩ := p
      obtain ⟨o2, h2, c2, _⟩ := hit
      rw [z, h2] at h1; cases h1
      exact absurd (Value.type.inj (c1.symm.trans c2)) (by decide)
    have es : its.toArray.size = i := by rw [List.size_toArray]; omega
    refine wpAny_pyNext_enum_endD (Draws.tuple (A := X.A.in1) (I.ok.hd hc) it a nai its.toArray) he ⟨by rw [es]; exact hit, p⟩ fun h' eb => ⟨rfl, I.turned (t' := s.toks) (fun b o hb q => eb b o hb q) f0 f1 f3 f4 f5⟩
  self := fun A i s Q E st h => let ⟨⟨_, he⟩, _⟩ := st; wpAny_pyIter_enum he h
def iEnum2 (K : PySem.W.Frag) (ta : TA) : TI := fun σ H R => ta σ H fun vs H1 => ∃ a xs, vs = [.ref a] ∧ ((SqL K H1 a xs ∧ R (Ite K a) H1) ∨ (SqT K H1 a xs ∧ R (IteT K a) H1))
theorem pi_enum2 {X : Cx} {e : Expr} {ta : TA} {p pos tpos : Pos} {elts : List Expr} {kk : Nat} (hg : Gl X "enumerate") (hm : X.mg "enumerate" = none) (ha : PA X [e] ta) (hs : starEach [e] X.env = [(false, eval e X.env)] := by rfl) :
    PI X (.Tuple elts kk tpos) (.Call (.Name "enumerate" p) [e] [] pos) (iEnum2 X.K ta) := by
  refine ⟨fun pins s σ H R I h => ?_⟩
  refine Call_ (ld_blt I hg hm boot_enumerate (PyProof.Rows.callWith_type1 (thn (ha.run pos pins s σ H _ I h) fun us s1 ⟨vs, H1, I1, r1, q1⟩ => ?_) hs rfl))
  obtain ⟨a, xs, ex, hq⟩ := q1
  subst ex
  cases r1 with
  | cons r rr =>
    cases rr
    cases r
    have fresh : ∀ b ∈ [s1.heap.objs.size + 1, s1.heap.objs.size], s1.heap.objs.size ≤ b := fun b hb => by
      have e' : b = s1.heap.objs.size + 1 ∨ b = s1.heap.objs.size := by simpa using hb
      rcases e' with z | z
      · rw [z]; exact Nat.le_add_right _ _
      · rw [z]; exact Nat.le_refl _
    rcases hq with ⟨hq, q⟩ | ⟨hq, q⟩
    · obtain ⟨its, rv, p', hz⟩ := I1.list hq
      refine call_enumerate_list p'.isList fun h' he hit hsz hk => wpAny_pyIter_enum he ?_
      exact ⟨s1.heap.objs.size + 1, [s1.heap.objs.size + 1, s1.heap.objs.size], _, _, H1, rfl, I1.kept (t' := s1.toks) hk, turn_enum a (s1.heap.objs.size + 1) s1.heap.objs.size, ⟨⟨.none, he⟩, hit, Nat.succ_ne_self _⟩, fun b hb => I1.fpOk (fresh b hb) (I1.hok.fresh (fresh b hb)), q⟩
    · obtain ⟨its, rv, p', hz⟩ := I1.tuple hq
      refine enum_begins1 (begins_tuple a its.toArray) p' fun h' he hit hsz hk => wpAny_pyIter_enum he ?_
      exact ⟨s1.heap.objs.size + 1, [s1.heap.objs.size + 1, s1.heap.objs.size], _, _, H1, rfl, I1.kept (t' := s1.toks) hk, turn_enumT a (s1.heap.objs.size + 1) s1.heap.objs.size, ⟨⟨.none, he⟩, ⟨_, hit, rfl, rfl⟩, Nat.succ_ne_self _⟩, fun b hb => I1.fpOk (fresh b hb) (I1.hok.fresh (fresh b hb)), q⟩
/-! ### its mirror: lists and tuples -/
theorem walkD_enumT {K : PySem.W.Frag} {O : AS} {H : Hp} {a : Addr} {vs : List V} {ds : List D} (l : TupO K O H a vs) (r : RpAll K O H vs ds) : WalkD K (IteT K a) (enumD ds) O H where
  go := fun i O' H' hi s => by
    have hi' : i < vs.length := by rw [r.length]; simpa [enumD] using hi
    exact ⟨vs, vs[i], (l.step s).sq, by simp [hi']⟩
  stop := fun O' H' s => ⟨vs, (l.step s).sq, by rw [r.length]; simp [enumD]⟩
  yld := fun i O' H' x H'' hi s ot y => by
    obtain ⟨T, y, rfl, hT, rfl, h⟩ := y
    obtain ⟨d, e, rd⟩ := (RpAll.step s _ _ r).getV (h vs (l.step s).sq)
    have hi' : i < ds.length := by simpa [enumD] using hi
    refine ⟨same_upd hT, .tuple [.int (i : Nat), d], ?_, Rp.newTup (.cons (.int _) (.cons rd .nil)) hT ot⟩
    unfold enumD
    rw [List.getElem?_map, List.getElem?_range hi']
    simp [e]
def enumLT : List D → Option (List D)
  | [.list xs] => some (enumD xs)
  | [.tuple xs] => some (enumD xs)
  | _ => none
theorem mEnum2 {X : Cx} {G : Gx} {W : WX} {a : Expr} {ms : MA} {p pos tpos : Pos} {elts : List Expr} {kk : Nat} (hK : G.K = X.K) (hg : Gl X "enumerate") (hm : X.mg "enumerate" = none) (ha : PA X [a] (tMA G W ms)) (hs : starEach [a] X.env = [(false, eval a X.env)]) :
    PI X (.Tuple elts kk tpos) (.Call (.Name "enumerate" p) [a] [] pos) (tMI G W (iArgs enumLT ms)) :=
  piOf (pi_enum2 hg hm ha hs) fun σ H R q => (tMA_bind (g := fun ds _ f1 => ofO (enumLT ds) f1) q).mono fun vs H1 h => by
    obtain ⟨O, ρ, f, ds, A, r, p⟩ := h
    unfold enumLT at p
    split at p
    · cases r with
      | cons a b =>
        cases b
        cases a with
        | lst l rs => exact ⟨_, _, rfl, .inl ⟨by rw [← hK]; exact l.sq, by rw [← hK]; exact p _ H1 A (.refl _ _) (walkD_enum l rs)⟩⟩
    · cases r with
      | cons a b =>
        cases b
        cases a with
        | tup l rs => exact ⟨_, _, rfl, .inr ⟨by rw [← hK]; exact l.sq, by rw [← hK]; exact p _ H1 A (.refl _ _) (walkD_enumT l rs)⟩⟩
    · exact p.elim
end Mir

set_option Elab.async false
set_option linter.all false
set_option maxRecDepth 100000
set_option maxHeartbeats 4000000
namespace Mir
open PySem PySem.Spec PyProof.Rows L2
section
variable {X : Cx} {G : Gx} {W : WX} {a b e : Expr} {ma mb : ME} {pos : Pos}
/-! ### x = a + b, two lists: the new one is own -/
def ownB (i : Nat) (ρ : List Sl) (x y : D) (f : FS) : SR := match x, y with
  | .list xs, .list ys => if xs.length + ys.length ≤ lim then .nx (ρ.set i (.l (xs ++ ys))) f else .bad
  | _, _ => .bad
def sOwnB (i : Nat) (ma mb : ME) : MS := fun ρ f => sBind (ma ρ f) fun x f1 => sBind (mb ρ f1) fun y f2 => ownB i ρ x y f2
theorem psOwnB {i : Nat} {x : Str} {pos' p : Pos} (hN : X.N.Nodup) (hi : X.N[i]? = some x) (hx : Loc X.env.scope x) (ha : PE X a (tM G W ma)) (hb : PE X b (tM G W mb)) (hs : swapsWith (.BinOp a .Add b p) (some (.Name x pos')) pos.line X.env = pure false) (hf : X.fn x = true ∨ X.env.scope.names.lookup x = some .local) :
    PS X (.Assign [.Name x pos'] (.BinOp a .Add b p) pos) (tMS G W (sOwnB i ma mb)) := psOf (ps_set hN hi hx (pe_op op_cat ha hb) hs hf) fun D σ H q => by
  refine (sBind_read (rel := Rp G.K) (k := fun x ρ f1 => sBind (mb ρ f1) fun y f2 => ownB i ρ x y f2) q).mono fun v H1 h => ?_
  obtain ⟨O, ρ, f, dx, A, rx, p⟩ := h
  refine ⟨O, ρ, f, A, ?_⟩
  cases e : mb ρ f with
  | bad => rw [e] at p; exact p.elim
  | exc x f1 => rw [e] at p; exact fun cls d H' A' s' xa => p O σ ρ cls d H' A' (A.stepO s') xa
  | ok dy f1 =>
    rw [e] at p
    dsimp only [sBind] at p
    intro y H2 A2 o2 ry
    have rx2 := Rp.step (A.stepO o2) _ _ rx
    unfold ownB at p
    split at p
    · rename_i xs ys
      split at p
      · rename_i hk
        cases rx2 with
        | lst a1 b1 =>
          cases ry with
          | lst a2 b2 =>
            refine ⟨_, _, _, _, rfl, rfl, a1.2, a2.2, by rw [b1.length, b2.length]; exact Nat.le_trans hk lim_line, fun q hq => ?_⟩
            obtain ⟨A', s'⟩ := A2.setL i (b1.append b2) hq
            exact p _ _ _ A' ((A.stepO o2).trans s')
      · exact p.elim
    · exact p.elim
/-! ### xs.extend(e) -/
def sExt (i : Nat) (m : ME) : MS := fun ρ f => match ρ[i]? with
  | some (.l xs) => sBind (m ρ f) fun d f1 => match d with
    | .list ys => if xs.length + ys.length ≤ lim then .nx (ρ.set i (.l (xs ++ ys))) f1 else .bad
    | _ => .bad
  | _ => .bad
theorem psExt {i : Nat} {x : Str} {p apos : Pos} {cpos : Pos} (gok : GOk G) (hK : G.K = X.K) (hv : PE X (.Name x p) (tVar i)) (he : PE X e (tM G W ma))
    (hbase : attributeBase (.Name x p) "extend" X.env (eval (.Name x p) X.env) = eval (.Name x p) X.env)
    (hfew : ((backTo cpos (starEach [e] X.env)).all (fun x => !x.1) && (backToKw cpos (keywordEach [] X.env)).all (fun x => x.1.isSome)
      && decide (([e] : List Expr).length + ([] : List Keyword).length + (if ([] : List Keyword).isEmpty then 0 else 1) < 30)) = true)
    (hline : (apos.endLine == cpos.line) = true) (hs : starEach [e] X.env = (false, eval e X.env) :: starEach [] X.env) (hplain : (backTo cpos (starEach [] X.env)).any (·.1) = false)
    (hsw : swapsWith (.Call (.Attribute (.Name x p) "extend" apos) [e] [] cpos) none pos.line X.env = pure false) :
    PS X (.Expr (.Call (.Attribute (.Name x p) "extend" apos) [e] [] cpos) pos) (tMS G W (sExt i ma)) :=
  psOf (ps_expr (pe_bm PySem.F.plainAttrs_list PySem.F.slot_list_extend PySem.F.type_list_extend mt_extend hv (pa_cons he pa_nil hs) hbase hfew hline hs hplain) hsw) fun D σ H q => by
    obtain ⟨O, ρ, f, A, pp⟩ := q
    unfold sExt at pp
    cases e1 : ρ[i]? with
    | none => rw [e1] at pp; exact pp.elim
    | some s =>
      rw [e1] at pp
      cases s with
      | no => exact pp.elim
      | d x => exact pp.elim
      | fd => exact pp.elim
      | m ks xs => exact pp.elim
      | x => exact pp.elim
      | l xs =>
        dsimp only at pp
        obtain ⟨a, us, ea, oa, na, Ha, ra⟩ := A.slots i _ e1
        have nf : some a ≠ G.fa := fun z => na (gok.fo a z.symm)
        refine ⟨.ref a, ea, .inl ⟨rfl, _, .inl (.inl Ha)⟩, O, ρ, f, A, ?_⟩
        cases e2 : ma ρ f with
        | bad => rw [e2] at pp; exact pp.elim
        | exc x f1 => rw [e2] at pp; exact fun cls d H' A' s' xa => pp O σ ρ cls d H' A' (A.stepO s') xa
        | ok d f1 =>
          rw [e2] at pp
          dsimp only [sBind] at pp
          intro y H1 A1 o1 ry
          cases d with
          | list ys =>
            dsimp only at pp
            by_cases hl : xs.length + ys.length ≤ lim
            · rw [if_pos hl] at pp
              have Ha1 : H1 a = some (.lst us) := o1 a _ nf notTbl_lst Ha
              have ra1 := RpAll.step (A.stepO o1) _ _ ra
              cases ry with
              | lst a2 b2 =>
                obtain ⟨A2, s2⟩ := A1.setApp gok e1 ea (ra1.append b2)
                exact ⟨_, _, us, _, rfl, rfl, Ha1, a2.2, by rw [ra.length, b2.length]; exact Nat.le_trans hl lim_line, pp _ _ _ A2 ((A.stepO o1).trans s2)⟩
            · rw [if_neg hl] at pp; exact pp.elim
          | _ => exact pp.elim
end
/-! ### isinstance(e, (C1, C2)) -/
section
variable {X : Cx} {G : Gx} {W : WX}
def orTab (t u : List Bool) : List Bool := (t.zip u).map fun p => p.1 || p.2
theorem orTab_get {t u : List Bool} {k : Nat} {b : Bool} (h : (orTab t u)[k]? = some b) : ∃ x y, t[k]? = some x ∧ u[k]? = some y ∧ b = (x || y) := by
  unfold orTab at h
  rw [List.getElem?_map] at h
  cases e : (t.zip u)[k]? with
  | none => rw [e] at h; cases h
  | some p =>
    rw [e] at h
    cases h
    obtain ⟨x, y⟩ := p
    obtain ⟨h1, h2⟩ := List.getElem?_zip_eq_some.mp e
    exact ⟨x, y, h1, h2, rfl⟩
theorem mXi2 {nms : Nat → List Str} {tab tab2 : List Bool} {v y y2 b : Str} {i : Nat} {p p1 p2 p3 pt pos : Pos} {kk : Nat} (gok : GOk G) (hK : G.K = X.K) (T : XcOk X.K G.xc nms) (Ty : IsK X.K X.mg G.xc y tab) (Ty2 : IsK X.K X.mg G.xc y2 tab2) (hx : XIn X G x) (hv : PE X (.Name v p1) (tVar i))
    (hg : Gl X b) (hm : X.mg b = none) (hbb : bootBuiltins b = some (.builtin "isinstance")) (hn : b ≠ "__name__") (hdb : (b == ("__debug__" : Str)) = false) (hgy : Gl X y) (hny : y ≠ "__name__") (hdy : (y == ("__debug__" : Str)) = false) (hgy2 : Gl X y2) (hny2 : y2 ≠ "__name__") (hdy2 : (y2 == ("__debug__" : Str)) = false)
    (he : starEach [.Name v p1, .Tuple [.Name y p2, .Name y2 p3] kk pt] X.env = (false, eval (.Name v p1) X.env) :: starEach [.Tuple [.Name y p2, .Name y2 p3] kk pt] X.env) (he2 : starEach [.Tuple [.Name y p2, .Name y2 p3] kk pt] X.env = (false, eval (.Tuple [.Name y p2, .Name y2 p3] kk pt) X.env) :: starEach [] X.env)
    (het : starEach [.Name y p2, .Name y2 p3] X.env = (false, eval (.Name y p2) X.env) :: starEach [.Name y2 p3] X.env) (het2 : starEach [.Name y2 p3] X.env = (false, eval (.Name y2 p3) X.env) :: starEach [] X.env)
    (hpl : (backTo pos (starEach [.Tuple [.Name y p2, .Name y2 p3] kk pt] X.env)).any (·.1) = false) :
    PE X (.Call (.Name b p) [.Name v p1, .Tuple [.Name y p2, .Name y2 p3] kk pt] [] pos) (tM G W (eXi (orTab tab tab2) x i)) := by
  obtain ⟨a, oe, C, dd, vs, ha, hp, hz, hf, hC, nO, nF, hdd, hl, rs⟩ := hx.ex
  obtain ⟨xf, c1, c2, c3, c4, c5, _⟩ := T.cl _ _ hC
  obtain ⟨vy, cv, hy, ry, uy, hkit⟩ := Ty.ex
  obtain ⟨vz, cw, hz2, rz, uz, hkit2⟩ := Ty2.ex
  have call : CallR X (.builtin "isinstance") (fun xs H Q => ∃ (b1 b2 : Bool) (fs : List (Str × V)) (tp : Addr), xs = [.ref a, .ref tp] ∧ H tp = some (.tup [vy, vz]) ∧ PySem.W.kitOne X.K (.ref C) cv = some b1 ∧ PySem.W.kitOne X.K (.ref C) cw = some b2 ∧ H dd = some (.xd fs) ∧ Q (.bl (b1 || b2)) H) := by
    intro pins s σ H xs us Q I r h
    obtain ⟨b1, b2, fs, tp, rfl, hT, e1, e2, ed, q⟩ := h
    cases r with
    | cons rx rr =>
      cases rr with
      | cons rt rr =>
        cases rr
        cases rx
        cases rt
        obtain ⟨hget, _⟩ := I.pin (a, oe) (List.mem_append_left _ hp)
        obtain ⟨fv, hd⟩ := hf
        have hx : ObjOk X.prog X.w H s.heap dd (.xd fs) := I.hok dd _ ed
        obtain ⟨mA, hns, hr⟩ := hx
        obtain ⟨od, ho, hlk⟩ := lookIn_ns hns
        have J : PySem.W.InstAt s.heap a oe C (some od) := ⟨hget, hz.1, by unfold PySem.W.notCls; rw [hd] <;> rfl, by rw [hz.2]; exact ho⟩
        obtain ⟨_, its, rv, o, h1, h2, n, h3⟩ := (show ObjOk X.prog X.w H s.heap tp (.tup [vy, vz]) from I.hok tp _ hT)
        obtain ⟨w1, w2, rfl, r1, r2⟩ := vals2 rv
        have ec := uy _ r1
        have ec2 := uz _ r2
        subst ec ec2
        obtain ⟨oc, od2, dt, sl⟩ := o
        simp only at h2 h3
        subst h2 h3
        have ka : PySem.W.kitAny X.K (.ref C) [w1, w2] = some (b1 || b2) := by
          unfold PySem.W.kitAny
          rw [e1]
          cases b1 with
          | true => rfl
          | false =>
            dsimp only
            unfold PySem.W.kitAny
            rw [e2]
            cases b2 <;> rfl
        exact PySem.W.kia_tup (PySem.W.kitx_exc c1 xf.ga xf.gg xf.exC c2 c3 c4 c5) I.kIn J h1 ka (fun z => nomatch z) fun tk => ⟨.bl (b1 || b2), H, I.kept (t' := tk) fun _ _ z => z, rfl, q⟩
  have py : PE X (.Name y p2) (tC vy) := by
    rcases hy with h1 | ⟨h1, h2⟩
    · exact pe_glob hgy h1 ry hdy
    · exact pe_bltn hgy h1 h2 ry hny hdy
  have pz : PE X (.Name y2 p3) (tC vz) := by
    rcases hz2 with h1 | ⟨h1, h2⟩
    · exact pe_glob hgy2 h1 rz hdy2
    · exact pe_bltn hgy2 h1 h2 rz hny2 hdy2
  refine peOf (pe_callB call hg hm hbb (pa_cons hv (pa_cons (pe_tup (pa_cons py (pa_cons pz pa_nil het2) het)) pa_nil he2) he) hn hdb he hpl) fun σ H Q q => ?_
  obtain ⟨O, ρ, f, A, pp⟩ := q
  cases e : ρ[i]? with
  | none => rw [show eXi (orTab tab tab2) x i ρ f = .bad by simp only [eXi, e]] at pp; exact pp.elim
  | some sl =>
    cases sl with
    | x =>
      rw [show eXi (orTab tab tab2) x i ρ f = ofO (((orTab tab tab2)[x.cls]?).map PyData.bool) f by simp only [eXi, e]] at pp
      cases et : (orTab tab tab2)[x.cls]? with
      | none => rw [et] at pp; exact pp.elim
      | some bb =>
        rw [et] at pp
        obtain ⟨b1, b2, g1, g2, rfl⟩ := orTab_get et
        have st := A.old gok
        have ed : H dd = some (.xd ((G.xc.nm x.cls).zip vs)) := (st dd _ nO notTbl_xd hdd).1
        refine ⟨.ref a, slot_x A e ha, by show 2 ≤ sizeLine; rw [sizeLine_eq]; omega, fun tp htp => ?_⟩
        have sm : Same H (upd H tp (.tup [vy, vz])) := same_upd htp
        refine ⟨b1, b2, _, tp, rfl, upd_same, hkit _ _ _ hC g1, hkit2 _ _ _ hC g2, sm _ _ ed, ?_⟩
        exact pp _ _ (A.same sm) (fun _ _ _ _ e => sm _ _ e) (.bl _)
    | no => rw [show eXi (orTab tab tab2) x i ρ f = .bad by simp only [eXi, e]] at pp; exact pp.elim
    | d x' => rw [show eXi (orTab tab tab2) x i ρ f = .bad by simp only [eXi, e]] at pp; exact pp.elim
    | l xs => rw [show eXi (orTab tab tab2) x i ρ f = .bad by simp only [eXi, e]] at pp; exact pp.elim
    | fd => rw [show eXi (orTab tab tab2) x i ρ f = .bad by simp only [eXi, e]] at pp; exact pp.elim
    | m ks xs => rw [show eXi (orTab tab tab2) x i ρ f = .bad by simp only [eXi, e]] at pp; exact pp.elim
end
end Mir

set_option Elab.async false
set_option linter.all false
set_option maxRecDepth 100000
set_option maxHeartbeats 4000000
namespace Mir
open PySem PySem.Spec PyProof.Rows L2

section
variable {P : Program} {w : World} {A : Around} {E : Value → Shared → Prop} {s : Shared}
set_option maxRecDepth 100000 in
set_option maxHeartbeats 3200000 in
/-- set(xs), xs a list of ints -/
theorem set_ints {l : Addr} {its : Array Value} (ns : List Int) {Q : Value → Shared → Prop} (hh : A.handled = none) (hl : s.heap.IsList l its) (hit : IntsAre its.toList ns) (few : ns.length + 1 < scanBound)
    (q : ∀ (h1 : Heap) (tk c : Nat), SetR w h1 s.heap.objs.size (fun j => decide (j ∈ ns)) c → c ≤ ns.length → (∀ b o, s.heap.get? b = some o → h1.get? b = some o) → Q (.ref s.heap.objs.size) { s with heap := h1, toks := tk }) :
    wpAny (model P w) A (call (.type "set") [.ref l]) Q E s := by
  have isz : its.size = ns.length := by rw [← Array.length_toList]; exact IntsAre.length hit
  obtain ⟨c, tl, hmro⟩ := F.called_set.mro
  have made := F.called_set.made
  have subs := F.called_set.sub
  refine wpAny_call (codeAny_of_tree ?_)
  show wpAny _ _ (callAny (.type "set") _) _ _ _
  refine wpAny_pure ⟨Code.quiet_builtin _ (by decide +kernel), codeAny_builtin F.entry_type_call ?_⟩
  rw [Around.under_plain (weight_type_call_type "set" [.ref l] []) rfl]
  have b1 := F.called_set.notType
  have b2 := F.called_set.canCreate
  have b3 := F.typeCall_set_1 (.ref l)
  repeat (any_goals (first | assumption | wp_step))

  refine codeAny_mono (code_set_led1 (.ref l) (E := E) (Q₁ := fun obj s₁ => obj = .ref s.heap.objs.size ∧ s₁ = { s with heap := s.heap.push (obj0 w) }) ⟨rfl, rfl⟩) fun r s₁ hr => ?_
  cases r with
  | error e => exact hr
  | ok fl =>
    cases fl with
    | ret obj =>
      obtain ⟨rfl, rfl⟩ := hr
      have at0 : (s.heap.push (obj0 w)).get? s.heap.objs.size = some (obj0 w) := Heap.get?_push_size _ rfl
      have ty0 : Shared.TypeIs { s with heap := s.heap.push (obj0 w) } (.ref s.heap.objs.size) "set" := ⟨_, at0, rfl⟩
      have b4 := F.called_set.init.lookup
      have b5 := F.called_set.init.bind (.ref s.heap.objs.size)
      repeat (any_goals (first | assumption | wp_step))

      refine codeAny_mono (codeAny_call_builtin (R := wants (fun r s₂ => r = .none ∧ ∃ h1 tk c, s₂ = { s with heap := h1, toks := tk } ∧ SetR w h1 s.heap.objs.size (fun j => decide (j ∈ ns)) c ∧ c ≤ ns.length ∧
          (∀ b o, s.heap.get? b = some o → h1.get? b = some o)) E) F.called_set.init.plain F.entry_set_init (check_set_init_1 ty0 ?_)) fun r₂ s₂ hr₂ => ?_
      · obtain ⟨ol, hol, hcl, nl, hdl⟩ := hl
        obtain ⟨ocls, odict, odata, oslots⟩ := ol
        simp only at hcl hdl
        subst hcl; subst hdl
        have hol1 : (s.heap.push (obj0 w)).get? l = some { cls := .type "list", dict := odict, data := .seq its nl, slots := oslots } := Heap.get?_push_of_some _ hol
        have b6 := F.sub_list_set
        have b7 := F.sub_list_frozenset
        have b8 : (Value.type "list" == Value.type "dict") = false := by decide
        have hl1 : (s.heap.push (obj0 w)).IsList l its := ⟨_, hol1, rfl, nl, rfl⟩
        unfold Builtin.«set.__init__» noKeywords Builtin.Frozenset.updateFrom
        generalize hPI : pyIter = PI
        wp_walk
        subst hPI

        refine wpAny_pyIter_list hl1 ?_
        refine wpAny_bind (wpAny_runValue ?_)
        have lS : l < s.heap.objs.size := Heap.lt_size hol
        have hh3 : A.in1.in1.in1.handled = none := by simp [hh]
        have z1 : (s.heap.push (obj0 w)).objs.size = s.heap.objs.size + 1 := Heap.size_push ..
        have neI : l ≠ (s.heap.push (obj0 w)).objs.size := by rw [z1]; exact Nat.ne_of_lt (Nat.lt_succ_of_lt lS)
        have awayS : s.heap.objs.size ∉ [(s.heap.push (obj0 w)).objs.size, l] := by
          rw [z1]; simp only [List.mem_cons, List.not_mem_nil, or_false, not_or]
          exact ⟨Nat.ne_of_lt (Nat.lt_succ_self _), Nat.ne_of_gt lS⟩
        have vals : ∀ (i : Nat) (v : Value), its[i]? = some v → ∃ k t, ns[i]? = some k ∧ v = .int k t := fun i v hv => by
          have hi : i < ns.length := by rw [← isz]; exact (Array.getElem?_eq_some_iff.mp hv).1
          obtain ⟨t, e⟩ := IntsAre.int_at hit i v (by rw [Array.getElem?_toList]; exact hv)
          refine ⟨ns[i], t, List.getElem?_eq_getElem hi, ?_⟩
          rw [e, List.getD_eq_getElem?_getD, List.getElem?_eq_getElem hi]
          rfl
        refine set_update_ints ((Walks.list hh3 _ l neI its).toS) s.heap.objs.size
          awayS ns isz few vals (its.size - 0) 0 _ (by omega) (Nat.zero_le _)
          ⟨⟨_, Heap.get?_push_size _ rfl, rfl, rfl⟩, (hl1.push _)⟩ ?start ?stop
        case start => exact ⟨0, Nat.le_refl 0, setR_new_at (Heap.get?_push_of_some _ at0)⟩
        case stop =>
          intro s1 c1 mv hc1 hS1
          obtain ⟨h1, g2, d1, tk1, os1⟩ := s1
          have eg : g2 = s.gens := mv.gens
          have ed : d1 = s.drawn := mv.drawn
          have eo : os1 = s.os := mv.os
          subst eg; subst ed; subst eo
          show wpAny _ _ _ _ _ _
          refine wpAny_pure ?_
          show wpAny _ _ (ret Value.none) _ _ _
          rw [isz] at hc1
          refine wpAny_pure ⟨rfl, h1, tk1, c1, rfl, hS1, hc1, fun b o e => ?_⟩
          have b0 : b < s.heap.objs.size := Heap.lt_size e
          refine mv.heap b o ?_ (Heap.get?_push_of_some _ (Heap.get?_push_of_some _ e))
          rw [z1]
          simp only [List.mem_cons, List.not_mem_nil, or_false, not_or]
          exact ⟨Nat.ne_of_lt b0, Nat.ne_of_lt (Nat.lt_succ_of_lt b0)⟩

      · cases r₂ with
        | error e => exact hr₂
        | ok fl₂ =>
          cases fl₂ with
          | ret r =>
            obtain ⟨rfl, h1, tk, c1, rfl, hS1, hc1, kp⟩ := hr₂
            repeat (any_goals (first | assumption | wp_step))
            exact q _ _ _ hS1 hc1 kp
          | _ => exact hr₂.elim
    | _ => exact hr.elim
end
end Mir

set_option Elab.async false
set_option linter.all false
set_option maxRecDepth 100000
set_option maxHeartbeats 4000000
namespace Mir
open PySem PySem.Spec PyProof.Rows L2
/-! ### ints in order, each once -/
def insI (x : Int) : List Int → List Int
  | [] => [x]
  | y :: ys => if x < y then x :: y :: ys else if x = y then y :: ys else y :: insI x ys
def sortI (ns : List Int) : List Int := ns.foldr insI []
theorem insI_mem {x k : Int} : ∀ {ys : List Int}, k ∈ insI x ys ↔ k = x ∨ k ∈ ys
  | [] => by simp [insI]
  | y :: ys => by
    unfold insI
    split
    · simp
    · split
      · rename_i e
        subst e
        simp
      · rw [List.mem_cons, insI_mem, List.mem_cons]
        exact ⟨fun h => by rcases h with h | h | h <;> simp [h], fun h => by rcases h with h | h | h <;> simp [h]⟩
theorem insI_asc {x : Int} : ∀ {ys : List Int}, ys.Pairwise (· < ·) → (insI x ys).Pairwise (· < ·)
  | [], _ => by simp [insI]
  | y :: ys, h => by
    have h0 := h
    rw [List.pairwise_cons] at h
    unfold insI
    split
    · rename_i lt
      exact List.pairwise_cons.mpr ⟨fun k hk => by
        rcases List.mem_cons.mp hk with rfl | hk
        · exact lt
        · exact Int.lt_trans lt (h.1 k hk), h0⟩
    · split
      · exact h0
      · refine List.pairwise_cons.mpr ⟨fun k hk => ?_, insI_asc h.2⟩
        rcases insI_mem.mp hk with rfl | hk
        · omega
        · exact h.1 k hk
theorem sortI_mem {k : Int} : ∀ {ns : List Int}, k ∈ sortI ns ↔ k ∈ ns
  | [] => Iff.rfl
  | n :: ns => by
    show k ∈ insI n (sortI ns) ↔ _
    rw [insI_mem, sortI_mem, List.mem_cons]
theorem sortI_asc : ∀ ns : List Int, (sortI ns).Pairwise (· < ·)
  | [] => .nil
  | n :: ns => insI_asc (sortI_asc ns)
theorem asc_one : ∀ {xs ys : List Int}, xs.Pairwise (· < ·) → ys.Pairwise (· < ·) → (∀ k, k ∈ xs ↔ k ∈ ys) → xs = ys
  | [], [], _, _, _ => rfl
  | [], y :: ys, _, _, h => absurd ((h y).mpr List.mem_cons_self) (by simp)
  | x :: xs, [], _, _, h => absurd ((h x).mp List.mem_cons_self) (by simp)
  | x :: xs, y :: ys, h1, h2, h => by
    rw [List.pairwise_cons] at h1 h2
    have e : x = y := by
      rcases List.mem_cons.mp ((h x).mp List.mem_cons_self) with e | m
      · exact e
      · rcases List.mem_cons.mp ((h y).mpr List.mem_cons_self) with e | m2
        · exact e.symm
        · have a := h2.1 x m
          have b := h1.1 y m2
          omega
    subst e
    congr 1
    refine asc_one h1.2 h2.2 fun k => ⟨fun m => ?_, fun m => ?_⟩
    · rcases List.mem_cons.mp ((h k).mp (List.mem_cons_of_mem _ m)) with e | m2
      · have := h1.1 k m; omega
      · exact m2
    · rcases List.mem_cons.mp ((h k).mpr (List.mem_cons_of_mem _ m)) with e | m2
      · have := h2.1 k m; omega
      · exact m2
def intsOf : List D → Option (List Int)
  | [] => some []
  | .int i :: ds => (intsOf ds).map (i :: ·)
  | _ => none
theorem intsOf_eq : ∀ {ds : List D} {ns : List Int}, intsOf ds = some ns → ds = ns.map .int
  | [], _, e => by cases e; rfl
  | .int i :: ds, ns, e => by
    unfold intsOf at e
    cases q : intsOf ds with
    | none => rw [q] at e; cases e
    | some ms =>
      rw [q] at e
      cases e
      rw [intsOf_eq q]
      rfl
  | .none :: _, _, e | .bool _ :: _, _, e | .str _ :: _, _, e | .list _ :: _, _, e | .tuple _ :: _, _, e | .dict _ :: _, _, e => by cases e
theorem rpInts {K : PySem.W.Frag} {O : AS} {H : Hp} : ∀ {ns : List Int} {vs : List V}, RpAll K O H vs (ns.map .int) → vs = ns.map V.int
  | [], _, .nil => rfl
  | n :: ns, _, .cons a b => by
    cases a
    rw [rpInts b]
    rfl
def gSortSetI : List D → Option D
  | [.list xs] => (intsOf xs).bind fun ns => if ns.length < 60 then some (.list ((sortI ns).map .int)) else none
  | _ => none
section
variable {X : Cx}
def rSetI (K : PySem.W.Frag) (w : World) : List V → Hp → VK → Prop := fun xs H Q => ∃ (l : Addr) (ns : List Int), xs = [V.ref l] ∧ SqL K H l (ns.map V.int) ∧ ns.length < 60 ∧
  ∀ a c, H a = none → c ≤ ns.length → Q (.ref a) (upd H a (SetO w a (fun j => decide (j ∈ ns)) c))
theorem vals_ints : ∀ {ns : List Int} {us : List Value}, Vals (ns.map V.int) us → IntsAre us ns
  | [], _, .nil => .nil
  | n :: ns, _, .cons r t => by
    obtain ⟨k, rfl⟩ := r
    exact .cons n k (vals_ints t)
theorem cr_setI (hc : X.calm = true) : CallR X (.type "set") (rSetI X.K X.w) := by
  intro pins s σ H xs us Q I r h
  obtain ⟨l, ns, rfl, hl, hf, q⟩ := h
  rw [Vals.ref1 r]
  obtain ⟨its, rv, pl, hz⟩ := I.list hl
  have hn : H s.heap.objs.size = none := I.hok.fresh (Nat.le_refl _)
  refine set_ints ns (I.ok.hd hc) pl.isList (by simpa using vals_ints rv) (by unfold scanBound; omega) fun h1 tk c R hc k => ?_
  exact ⟨.ref s.heap.objs.size, upd H s.heap.objs.size (SetO X.w s.heap.objs.size (fun j => decide (j ∈ ns)) c), I.laid (t' := tk) k (Nat.le_refl _) (setO_new R), rfl, q _ c hn hc⟩
end
theorem mSortSetI {X : Cx} {G : Gx} {W : WX} {ma : ME} {e : Expr} {p p2 pos pos2 : Pos} (hK : G.K = X.K) (hc : X.calm = true) (hg : Gl X "sorted") (hm : X.mg "sorted" = none) (hg2 : Gl X "set") (hm2 : X.mg "set" = none) (ha : PE X e (tM G W ma))
    (he : starEach [e] X.env = (false, eval e X.env) :: starEach [] X.env := by rfl) :
    PE X (.Call (.Name "sorted" p) [.Call (.Name "set" p2) [e] [] pos2] [] pos) (tM G W (eUn gSortSetI ma)) := by
  have inner : PE X (.Call (.Name "set" p2) [e] [] pos2) _ := pe_callTy (cr_setI hc) hg2 hm2 rfl (pa_cons ha pa_nil he) (he := he)
  refine peOf (pe_callB (cr_sortedSet hc) hg hm rfl (pa_cons inner pa_nil)) fun σ H Q q => ?_
  refine tP.mono (Q := fun x H1 => rD G.K gSortSetI [x] H1 Q) (un_read q) fun x H1 ⟨O, ds, d, ot, rs, eg, qq⟩ => ?_
  unfold gSortSetI at eg
  split at eg
  · rename_i xs
    cases ep : intsOf xs with
    | none => rw [ep] at eg; cases eg
    | some ns =>
      rw [ep, Option.bind_some] at eg
      split at eg
      · rename_i few
        cases eg
        have ex := intsOf_eq ep
        subst ex
        cases rs with
        | cons r1 r2 =>
          cases r2
          cases r1 with
          | lst l1 l2 =>
            have ev := rpInts l2
            subst ev
            rw [hK] at l1 qq
            refine ⟨_, ns, rfl, l1.sq, few, fun a c hn hc2 => ?_⟩
            have s1 : Same H1 (upd H1 a (SetO X.w a (fun j => decide (j ∈ ns)) c)) := same_upd hn
            refine ⟨a, _, c, rfl, upd_same, by omega, fun ms pl asc mem hl hp => ?_⟩
            have e1 : ms = sortI ns := asc_one asc (sortI_asc ns) fun k => by
              rw [mem k, sortI_mem]
              exact decide_eq_true_iff
            subst e1
            have s2 : Same (upd H1 a (SetO X.w a (fun j => decide (j ∈ ns)) c)) (upd (upd H1 a (SetO X.w a (fun j => decide (j ∈ ns)) c)) pl (.lst ((sortI ns).map V.int))) := same_upd hp
            exact qq _ _ (Same.trans s1 s2) (Rp.newLst (rp_ints _) hp (ot.same s1))
      · cases eg
  · cases eg
/-! ### str of a tuple, too -/
def gStr2 : List D → Option D
  | [.tuple xs] => if (PyData.tuple xs).showable && decide ((PyData.tuple xs).shown.length ≤ 10000000) && decide ((PyData.tuple xs).depth ≤ 60) && (PyData.tuple xs).plain then some (.str (PyData.tuple xs).shown) else none
  | ds => gStr ds
theorem cStr2 {X : Cx} (hu : X.A.units + 64 < cLine) (hg : X.A.guards = some []) : CallD X (.type "str") gStr2 := by
  intro pins s σ H xs us Q I r h
  obtain ⟨O, ds, d, ot, rs, e, q⟩ := h
  unfold gStr2 at e
  split at e
  · rename_i ys
    split at e
    · rename_i hk
      cases e
      simp only [Bool.and_eq_true, decide_eq_true_eq] at hk
      obtain ⟨⟨⟨h1, h2⟩, h3⟩, pl⟩ := hk
      have h2' : (PyData.tuple ys).shown.length ≤ sizeLine := Nat.le_trans h2 (by decide)
      cases rs with
      | cons a b =>
        cases b
        have qq := q (.str (PyData.tuple ys).shown) H (Same.refl H) (.str _)
        obtain ⟨u, rfl, rv⟩ := vals1 r
        obtain ⟨as, rd⟩ := Rp.reads I a pl rv
        cases a with
        | tup _ _ =>
          cases rv
          exact str_of_reads rd h1 (PyData.noDict_hsm (noDict_plain _ pl)) hg (by omega) (fun _ _ e => e) (fun h' u tk k => ⟨.str _, H, I.kept k, ⟨u, rfl⟩, qq⟩) h2'
    · cases e
  · exact cStr pins s σ H xs us Q I r ⟨O, _, d, ot, rs, e, q⟩
/-! ### a text times a number -/
def gMul2 : List D → Option D
  | [.str z, .int n] => if decide (z.length ≤ 100) && decide (0 ≤ n) && decide (n ≤ 1000) then some (.str (PySem.Txt.mul z n)) else none
  | ds => gMul ds
theorem mul2_ok {z : Str} {n : Int} (h : z.length ≤ 100) (h0 : 0 ≤ n) (h1 : n ≤ 1000) : PySem.MulOk z n := by
  refine ⟨?_, fun a b => ?_, fun a b => ?_⟩
  · rw [decide_eq_false (by omega), decide_eq_false (by omega)]
    rfl
  · have a' : 1 ≤ n := by omega
    have : (2 ^ 63 - 1) / 1000 ≤ ((2 : Int) ^ 63 - 1) / n := by
      apply (Int.le_ediv_iff_mul_le (by omega)).mpr
      have : ((2 : Int) ^ 63 - 1) / 1000 * n ≤ (2 ^ 63 - 1) / 1000 * 1000 := Int.mul_le_mul_of_nonneg_left h1 (by decide)
      exact Int.le_trans this (by decide)
    have q : ((2 : Int) ^ 63 - 1) / 1000 = 9223372036854775 := by decide
    omega
  · have e : z.length * n.toNat ≤ 100 * 1000 := Nat.mul_le_mul h (by omega)
    unfold PySem.Builtin.Str.tooLong
    simp only [decide_eq_false_iff_not]
    have := sizeLine_eq
    omega
theorem oMul2 {X : Cx} : OpD X (binaryOp .Mult) gMul2 := by
  intro pins s σ H x y v u Q I rx ry h
  obtain ⟨O, ds, d, ot, rs, e, q⟩ := h
  unfold gMul2 at e
  split at e
  · split at e
    · rename_i hk
      cases e
      simp only [Bool.and_eq_true, decide_eq_true_eq] at hk
      obtain ⟨da, db, hh, ra, rb⟩ := r2 rs
      cases hh
      cases ra; cases rb
      obtain ⟨t, rfl⟩ := rx
      obtain ⟨t', rfl⟩ := ry
      exact PySem.SB.mul (mul2_ok hk.1.1 hk.1.2 hk.2) fun t2 k => ⟨.str _, H, I.tok _, ⟨_, rfl⟩, q _ _ (Same.refl H) (.str _)⟩
    · cases e
  · exact oMul pins s σ H x y v u Q I rx ry ⟨O, _, d, ot, rs, e, q⟩
end Mir

set_option Elab.async false
set_option linter.all false
set_option maxRecDepth 100000
set_option maxHeartbeats 4000000
namespace Mir
open PySem PySem.Spec PyProof.Rows L2
/-! ### dicts with text keys: keys and values apart -/
def putKs (ks : List Str) (k : Str) : List Str := if k ∈ ks then ks else ks ++ [k]
def putXs {α : Type} (ks : List Str) (xs : List α) (k : Str) (x : α) : List α := if k ∈ ks then List.zipWith (fun j y => if j = k then x else y) ks xs else xs ++ [x]
theorem zip_any (k : Str) : ∀ (ks : List Str) (vs : List V), vs.length = ks.length → ((ks.map (Sum.inr : Str → Key)).zip vs).any (fun kv => decide (kv.1 = Sum.inr k)) = decide (k ∈ ks)
  | [], _, _ => by simp
  | j :: ks, [], h => by simp at h
  | j :: ks, v :: vs, h => by
    have ih := zip_any k ks vs (by simpa using h)
    rw [List.map_cons, List.zip_cons_cons, List.any_cons, ih]
    by_cases e : j = k
    · simp [e]
    · have e' : ¬ (Sum.inr j : Key) = Sum.inr k := fun z => e (Sum.inr.inj z)
      have e2 : ¬ k = j := fun z => e z.symm
      simp [e', e2]
theorem zip_rep (k : Str) (x : V) : ∀ (ks : List Str) (vs : List V), ((ks.map (Sum.inr : Str → Key)).zip vs).map (fun kv => if kv.1 = Sum.inr k then (kv.1, x) else kv) = (ks.map (Sum.inr : Str → Key)).zip (List.zipWith (fun j y => if j = k then x else y) ks vs)
  | [], _ => by simp
  | j :: ks, [] => by simp
  | j :: ks, v :: vs => by
    rw [List.map_cons, List.zip_cons_cons, List.map_cons, zip_rep k x ks vs, List.zipWith_cons_cons, List.zip_cons_cons]
    by_cases e : j = k
    · simp [e]
    · have e' : ¬ (Sum.inr j : Key) = Sum.inr k := fun z => e (Sum.inr.inj z)
      rw [if_neg e', if_neg e]
theorem put_zip (ks : List Str) (vs : List V) (k : Str) (x : V) (h : vs.length = ks.length) : putK ((ks.map (Sum.inr : Str → Key)).zip vs) (Sum.inr k) x = ((putKs ks k).map (Sum.inr : Str → Key)).zip (putXs ks vs k x) := by
  unfold putK putKs putXs
  rw [zip_any k ks vs h]
  by_cases e : k ∈ ks
  · rw [decide_eq_true e, if_pos rfl, if_pos e, if_pos e]
    exact zip_rep k x ks vs
  · rw [decide_eq_false e, if_neg Bool.false_ne_true, if_neg e, if_neg e, List.map_append, List.zip_append (by rw [List.length_map, h])]
    rfl
theorem putXs_len {α : Type} {ks : List Str} {xs : List α} {k : Str} {x : α} (h : xs.length = ks.length) : (putXs ks xs k x).length = (putKs ks k).length := by
  unfold putXs putKs
  split <;> simp [h]
theorem putKs_le (ks : List Str) (k : Str) : (putKs ks k).length ≤ ks.length + 1 := by
  unfold putKs
  split <;> simp
theorem RpAll.putX {K : PySem.W.Frag} {O : AS} {H : Hp} {v : V} {d : D} {k : Str} (rv : Rp K O H v d) : ∀ {ks : List Str} {vs : List V} {ds : List D}, RpAll K O H vs ds → RpAll K O H (putXs ks vs k v) (putXs ks ds k d) := fun {ks vs ds} r => by
  have go : ∀ {ks : List Str} {vs : List V} {ds : List D}, RpAll K O H vs ds → RpAll K O H (List.zipWith (fun j y => if j = k then v else y) ks vs) (List.zipWith (fun j y => if j = k then d else y) ks ds) := by
    intro ks
    induction ks with
    | nil => intro vs ds _; simp; exact .nil
    | cons j ks ih =>
      intro vs ds r
      cases r with
      | nil => simp; exact .nil
      | cons a b =>
        rw [List.zipWith_cons_cons, List.zipWith_cons_cons]
        refine .cons ?_ (ih b)
        by_cases e : j = k
        · rw [if_pos e, if_pos e]; exact rv
        · rw [if_neg e, if_neg e]; exact a
  unfold putXs
  by_cases e : k ∈ ks
  · rw [if_pos e, if_pos e]; exact go r
  · rw [if_neg e, if_neg e]; exact r.append (.cons rv .nil)
theorem val_some {ks : List Str} {vs : List V} (k : Str) (h : vs.length = ks.length) : (valV ((ks.map (Sum.inr : Str → Key)).zip vs) (Sum.inr k)).isSome = ks.contains k := by
  rw [← valV_any, zip_any k ks vs h]
  exact (List.contains_eq_mem k ks).symm
/-! ### something of one's own, laid and changed -/
section
variable {X : Cx} {G : Gx} {W : WX}
theorem Agr.putNew {O : AS} {σ : L2.St} {H : Hp} {ρ : List Sl} {f : FS} (A : Agr G O σ H ρ f) (i : Nat) {p : Addr} {o : HO} {t : Sl} (no : notTbl o) (np : H p = none) (w : t.own) (hs : StepP O H (fun a => O a ∨ a = p) (upd H p o) → ¬ G.O0 p → SlOk G.K G.O0 (fun a => O a ∨ a = p) (upd H p o) G.fa G.xa (some (some (.ref p))) t) :
    Agr G (fun a => O a ∨ a = p) (σ.set i (some (.ref p))) (upd H p o) (ρ.set i t) f ∧ StepP O H (fun a => O a ∨ a = p) (upd H p o) := by
  have sD : Same H (upd H p o) := same_upd np
  have nO : ¬ O p := A.ot.fresh np
  have up : StepP O H (fun a => O a ∨ a = p) (upd H p o) := fun b o n t e => ⟨sD _ _ e, fun z => z.elim n fun q => by rw [q, np] at e; cases e⟩
  have nH0 : ∀ o, notTbl o → G.H0 p ≠ some o := fun o t q => by
    by_cases hfa : some p = G.fa
    · exact nO (FeedOk.own A.feed hfa.symm)
    · have := A.grow p o hfa t q
      rw [np] at this; cases this
  have hl := A.len
  have nsl := A.notAt np
  refine ⟨⟨fun b o n t e => sD _ _ (A.grow b o n t e), fun a ha => .inl (A.o0 a ha), fun a ha => ?_, fun a ha => ?_, ?_, by simp [hl], fun j s es => ?_, fun j k xs ys a e1 e2 w1 w2 s1 s2 => ?_, A.tabs.ext sD⟩, up⟩
  · rcases ha with ha | rfl
    · exact A.onew a ha
    · exact .inr nH0
  · rcases ha with ha | rfl
    · exact A.ot.same sD a ha
    · exact ⟨_, upd_same, no⟩
  · have q := A.feed
    revert q
    cases hfa : G.fa with
    | none => intro _; trivial
    | some a =>
      intro q
      obtain ⟨oa, ec, lc⟩ := q
      exact ⟨.inl oa, sD _ _ ec, lc.step up⟩
  · by_cases hj : i = j
    · subst hj
      have hi : i < ρ.length := by
        have := (List.getElem?_eq_some_iff.mp es).1
        simpa using this
      rw [List.getElem?_set_self hi] at es
      cases es
      rw [List.getElem?_set_self (by omega)]
      exact hs up fun z => nO (A.o0 p z)
    · rw [List.getElem?_set_ne hj] at es
      have q := A.slots j s es
      rw [List.getElem?_set_ne hj]
      cases s with
      | no => trivial
      | d x => obtain ⟨v, e1, r⟩ := q; exact ⟨v, e1, Rp.step up _ _ r⟩
      | l xs => obtain ⟨a, ws, e1, oa, na, ea, r⟩ := q; exact ⟨a, ws, e1, .inl oa, na, sD _ _ ea, RpAll.step up _ _ r⟩
      | m ks xs => obtain ⟨a, ws, e1, oa, na, ea, r, hz⟩ := q; exact ⟨a, ws, e1, .inl oa, na, sD _ _ ea, RpAll.step up _ _ r, hz⟩
      | fd => exact q
      | x => exact q
  · by_cases hj : i = j
    · by_cases hk : i = k
      · omega
      · subst hj
        rw [List.getElem?_set_ne hk] at e2 s2
        have hi : i < σ.length := by
          have := (List.getElem?_eq_some_iff.mp s1).1
          simpa using this
        rw [List.getElem?_set_self hi] at s1
        cases s1
        exact absurd rfl (nsl k _ ys e2 w2 s2)
    · rw [List.getElem?_set_ne hj] at e1 s1
      by_cases hk : i = k
      · subst hk
        have hi : i < σ.length := by
          have := (List.getElem?_eq_some_iff.mp s2).1
          simpa using this
        rw [List.getElem?_set_self hi] at s2
        cases s2
        exact absurd rfl (nsl j _ xs e1 w1 s1)
      · rw [List.getElem?_set_ne hk] at e2 s2
        exact A.inj j k xs ys a e1 e2 w1 w2 s1 s2
theorem Agr.putOld {O : AS} {σ : L2.St} {H : Hp} {ρ : List Sl} {f : FS} (gok : GOk G) (A : Agr G O σ H ρ f) {i : Nat} {p : Addr} {o0 o : HO} {s0 t : Sl} (e : ρ[i]? = some s0) (w0 : s0.own) (w : t.own) (ep : σ[i]? = some (some (.ref p))) (oa : O p) (na : ¬ G.O0 p) (Ha : H p = some o0) (n0 : notTbl o0) (x0 : ∀ g, o0 ≠ .ext g) (no : notTbl o)
    (hs : StepO O H (upd H p o) → SlOk G.K G.O0 O (upd H p o) G.fa G.xa (some (some (.ref p))) t) : Agr G O σ (upd H p o) (ρ.set i t) f ∧ StepO O H (upd H p o) := by
  have up : StepO O H (upd H p o) := fun b o n t e => ⟨by rw [upd_ne (fun z => n (by rw [z]; exact oa))]; exact e, n⟩
  have nf : some p ≠ G.fa := fun z => na (gok.fo p z.symm)
  have hi : i < ρ.length := (List.getElem?_eq_some_iff.mp e).1
  refine ⟨⟨fun b o n t eb => ?_, A.o0, A.onew, fun b hb => ?_, ?_, by simp [A.len], fun j s es => ?_, fun j k ys zs a e1 e2 w1 w2 s1 s2 => ?_, tabs_upd A.tabs Ha n0 x0⟩, up⟩
  · by_cases hb : b = p
    · rw [hb] at eb
      rcases A.onew p oa with z | z
      · exact absurd z na
      · exact absurd eb (z o t)
    · rw [upd_ne hb]; exact A.grow b o n t eb
  · by_cases hb' : b = p
    · rw [hb']; exact ⟨_, upd_same, no⟩
    · rw [upd_ne hb']; exact A.ot b hb
  · have q := A.feed
    revert q
    cases hfa : G.fa with
    | none => intro _; trivial
    | some a =>
      intro q
      obtain ⟨oa', ec, lc⟩ := q
      exact ⟨oa', by rw [upd_ne (fun z => nf (by rw [← z, hfa]))]; exact ec, lc.step up⟩
  · by_cases hj : i = j
    · subst hj
      rw [List.getElem?_set_self hi] at es
      cases es
      rw [ep]
      exact hs up
    · rw [List.getElem?_set_ne hj] at es
      have q := A.slots j s es
      cases s with
      | no => trivial
      | d x => obtain ⟨v, e1, r⟩ := q; exact ⟨v, e1, Rp.step up _ _ r⟩
      | l xs' =>
        obtain ⟨b, ws, e1, ob, nb, eb, rb⟩ := q
        have hb : b ≠ p := fun z => hj (A.inj i j _ _ p e es w0 True.intro ep (by rw [e1, z]))
        exact ⟨b, ws, e1, ob, nb, by rw [upd_ne hb]; exact eb, RpAll.step up _ _ rb⟩
      | m ks xs' =>
        obtain ⟨b, ws, e1, ob, nb, eb, rb, hz⟩ := q
        have hb : b ≠ p := fun z => hj (A.inj i j _ _ p e es w0 True.intro ep (by rw [e1, z]))
        exact ⟨b, ws, e1, ob, nb, by rw [upd_ne hb]; exact eb, RpAll.step up _ _ rb, hz⟩
      | fd => exact q
      | x => exact q
  · have get : ∀ m (ws : Sl), (ρ.set i t)[m]? = some ws → ws.own → ∃ ws' : Sl, ρ[m]? = some ws' ∧ ws'.own := fun m ws em w => by
      by_cases hm : i = m
      · subst hm; exact ⟨_, e, w0⟩
      · rw [List.getElem?_set_ne hm] at em; exact ⟨ws, em, w⟩
    obtain ⟨_, h1, g1⟩ := get j _ e1 w1
    obtain ⟨_, h2, g2⟩ := get k _ e2 w2
    exact A.inj j k _ _ a h1 h2 g1 g2 s1 s2
/-! ### x = {}, x[k] = e, k in x -/
def sOwnM (i : Nat) : MS := fun ρ f => .nx (ρ.set i (.m [] [])) f
theorem psOwnM {i : Nat} {x : Str} {pos pos' p : Pos} (hN : X.N.Nodup) (hi : X.N[i]? = some x) (hx : Loc X.env.scope x) (hs : swapsWith (.Dict [] [] p) (some (.Name x pos')) pos.line X.env = pure false) (hf : X.fn x = true ∨ X.env.scope.names.lookup x = some .local) :
    PS X (.Assign [.Name x pos'] (.Dict [] [] p) pos) (tMS G W (sOwnM i)) := psOf (ps_set hN hi hx pe_dnewK hs hf) fun D σ H q => by
  obtain ⟨O, ρ, f, A, pp⟩ := q
  intro q hq
  obtain ⟨A', s'⟩ := A.putNew i (t := .m [] []) notTbl_dK hq True.intro fun up n0 => ⟨q, [], rfl, .inr rfl, n0, upd_same, .nil, rfl⟩
  exact pp _ _ _ A' s'
def sPutM (i : Nat) (mk mv : ME) : MS := fun ρ f => match ρ[i]? with
  | some (.m ks xs) => sBind (mv ρ f) fun d f1 => sBind (mk ρ f1) fun kd f2 => match kd with
    | .str k => if ks.length < lim then .nx (ρ.set i (.m (putKs ks k) (putXs ks xs k d))) f2 else .bad
    | _ => .bad
  | _ => .bad
theorem psPutM {i : Nat} {x : Str} {p pos' pos : Pos} {ek ev : Expr} {mk mv : ME} (gok : GOk G) (hu : X.A.units + 1 < cLine) (hv : PE X (.Name x p) (tVar i)) (hk : PE X ek (tM G W mk)) (he : PE X ev (tM G W mv)) (hs : swapsWith ev (some (.Subscript (.Name x p) ek pos')) pos.line X.env = pure false) :
    PS X (.Assign [.Subscript (.Name x p) ek pos'] ev pos) (tMS G W (sPutM i mk mv)) := psOf (ps_dput hu hv hk he hs) fun D σ H q => by
  obtain ⟨O, ρ, f, A, pp⟩ := q
  unfold sPutM at pp
  cases e1 : ρ[i]? with
  | none => rw [e1] at pp; exact pp.elim
  | some s =>
    rw [e1] at pp
    cases s with
    | no => exact pp.elim
    | d x => exact pp.elim
    | fd => exact pp.elim
    | l xs => exact pp.elim
    | x => exact pp.elim
    | m ks xs =>
      dsimp only at pp
      obtain ⟨a, us, ea, oa, na, Ha, ra, hz⟩ := A.slots i _ e1
      have nf : some a ≠ G.fa := fun z => na (gok.fo a z.symm)
      refine ⟨O, ρ, f, A, ?_⟩
      cases e2 : mv ρ f with
      | bad => rw [e2] at pp; exact pp.elim
      | exc x f1 => rw [e2] at pp; exact fun cls d H' A' s' xa => pp O σ ρ cls d H' A' (A.stepO s') xa
      | ok d f1 =>
        rw [e2] at pp
        dsimp only [sBind] at pp
        intro y H1 A1 o1 ry
        refine ⟨.ref a, ea, O, ρ, f1, A1, ?_⟩
        cases e3 : mk ρ f1 with
        | bad => rw [e3] at pp; exact pp.elim
        | exc x f2 => rw [e3] at pp; exact fun cls d H' A' s' xa => pp O σ ρ cls d H' A' ((A.stepO o1).trans (A1.stepO s')) xa
        | ok kd f2 =>
          rw [e3] at pp
          dsimp only [sBind] at pp
          intro y2 H2 A2 o2 ry2
          cases ry2 <;> first
            | exact pp.elim
            | skip
          rename_i k
          by_cases hl : ks.length < lim
          · dsimp only at pp
            rw [if_pos hl] at pp
            have o12 : OutP G.fa H H2 := o1.trans o2
            have Ha2 : H2 a = some (.dK ((ks.map Sum.inr).zip us)) := o12 a _ nf notTbl_dK Ha
            have ra2 := RpAll.step (A.stepO o12) _ _ ra
            have ry' := Rp.step (A1.stepO o2) _ _ ry
            obtain ⟨A3, s3⟩ := A2.putOld gok (o := .dK (((putKs ks k).map Sum.inr).zip (putXs ks us k y))) (t := .m (putKs ks k) (putXs ks xs k d)) e1 True.intro True.intro ea oa na Ha2 notTbl_dK (fun _ z => by cases z) notTbl_dK fun up => ⟨a, _, rfl, oa, na, upd_same, RpAll.step up _ _ (RpAll.putX ry' ra2), putXs_len hz⟩
            have dp := DPut.k (k := Sum.inr k) (v := y) Ha2 (by rw [List.length_zip, List.length_map, hz, Nat.min_self]; exact Nat.lt_of_lt_of_le hl lim_line)
            rw [put_zip ks us k y hz] at dp
            exact ⟨a, _, rfl, dp, pp _ _ _ A3 ((A.stepO o12).trans s3)⟩
          · dsimp only at pp
            rw [if_neg hl] at pp; exact pp.elim
def eInM (neg : Bool) (i : Nat) (mk : ME) : ME := fun ρ f => match ρ[i]? with
  | some (.m ks _) => (mk ρ f).bind fun kd f1 => match kd with
    | .str k => .ok (.bool (neg.xor (ks.contains k))) f1
    | _ => .bad
  | _ => .bad
theorem inM_read (gok : GOk G) {i : Nat} {mk : ME} {neg : Bool} {σ : L2.St} {H : Hp} {Q : VK} (q : tM G W (eInM neg i mk) σ H Q) :
    tM G W mk σ H fun y H1 => tVar i σ H1 fun x H2 => ∃ a o, x = .ref a ∧ DGet H2 a y o ∧ Q (.bl (neg.xor o.isSome)) H2 := by
  obtain ⟨O, ρ, f, A, pp⟩ := q
  unfold eInM at pp
  cases e1 : ρ[i]? with
  | none => rw [e1] at pp; exact pp.elim
  | some s =>
    rw [e1] at pp
    cases s with
    | no => exact pp.elim
    | d x => exact pp.elim
    | fd => exact pp.elim
    | l xs => exact pp.elim
    | x => exact pp.elim
    | m ks xs =>
      dsimp only at pp
      obtain ⟨a, us, ea, oa, na, Ha, ra, hz⟩ := A.slots i _ e1
      have nf : some a ≠ G.fa := fun z => na (gok.fo a z.symm)
      refine ⟨O, ρ, f, A, ?_⟩
      cases e2 : mk ρ f with
      | bad => rw [e2] at pp; exact pp.elim
      | exc x f1 => rw [e2] at pp; exact pp
      | ok kd f1 =>
        rw [e2] at pp
        dsimp only [R.bind_ok] at pp
        intro y H1 A1 o1 ry
        cases ry <;> first
          | exact pp.elim
          | skip
        rename_i k
        have Ha1 : H1 a = some (.dK ((ks.map Sum.inr).zip us)) := o1 a _ nf notTbl_dK Ha
        refine ⟨.ref a, ea, a, _, rfl, DGet.k (k := Sum.inr k) Ha1, ?_⟩
        rw [val_some k hz]
        exact pp _ H1 A1 o1 (.bl _)
section
variable {i : Nat} {x : Str} {p pos : Pos} {ek : Expr} {mk : ME}
theorem mInM (gok : GOk G) (hu : X.A.units + 1 < cLine) (hv : PE X (.Name x p) (tVar i)) (hk : PE X ek (tM G W mk)) : PE X (.Compare ek [.In] [.Name x p] pos) (tM G W (eInM false i mk)) :=
  peOf (pe_cmp (pc_din hu hk hv) rfl) fun _ _ _ q => (inM_read gok q).mono fun _ _ h => by
    obtain ⟨v, ev, a, o, ex, g, hq⟩ := h
    exact ⟨v, ev, a, o, ex, g, by simpa using hq⟩
theorem mNotInM (gok : GOk G) (hu : X.A.units + 1 < cLine) (hv : PE X (.Name x p) (tVar i)) (hk : PE X ek (tM G W mk)) : PE X (.Compare ek [.NotIn] [.Name x p] pos) (tM G W (eInM true i mk)) :=
  peOf (pe_cmp (pc_dnotin hu hk hv) rfl) fun _ _ _ q => (inM_read gok q).mono fun _ _ h => by
    obtain ⟨v, ev, a, o, ex, g, hq⟩ := h
    exact ⟨v, ev, a, o, ex, g, by simpa using hq⟩
theorem ptInM (gok : GOk G) (hu : X.A.units + 1 < cLine) (hv : PE X (.Name x p) (tVar i)) (hk : PE X ek (tM G W mk)) : PT X (.Compare ek [.In] [.Name x p] pos) (tMT G W (tB (eInM false i mk))) :=
  ptOf (pt_cmp (pc_din hu hk hv) rfl) fun _ _ _ q => (inM_read gok (tB_read q)).mono fun _ _ h => by
    obtain ⟨v, ev, a, o, ex, g, hq⟩ := h
    exact ⟨v, ev, a, o, ex, g, by simpa using hq⟩
theorem ptNotInM (gok : GOk G) (hu : X.A.units + 1 < cLine) (hv : PE X (.Name x p) (tVar i)) (hk : PE X ek (tM G W mk)) : PT X (.Compare ek [.NotIn] [.Name x p] pos) (tMT G W (tB (eInM true i mk))) :=
  ptOf (pt_cmp (pc_dnotin hu hk hv) rfl) fun _ _ _ q => (inM_read gok (tB_read q)).mono fun _ _ h => by
    obtain ⟨v, ev, a, o, ex, g, hq⟩ := h
    exact ⟨v, ev, a, o, ex, g, by simpa using hq⟩
end
end
/-! ### k in d, d a value -/
def keysS : List (D × D) → Option (List Str)
  | [] => some []
  | (.str k, _) :: r => (keysS r).map (k :: ·)
  | _ => none
theorem keysS_of : ∀ (ks : List Str) (ds : List D), ds.length = ks.length → keysS (dctD ks ds) = some ks
  | [], [], _ => rfl
  | [], _ :: _, h => by simp at h
  | _ :: _, [], h => by simp at h
  | k :: ks, d :: ds, h => by
    have ih := keysS_of ks ds (by simpa using h)
    show (keysS (dctD ks ds)).map (k :: ·) = some (k :: ks)
    rw [ih]; rfl
theorem Rp.dictInv {K : PySem.W.Frag} {O : AS} {H : Hp} {v : V} {kvs : List (D × D)} (h : Rp K O H v (.dict kvs)) : ∃ a ks xs ds, v = .ref a ∧ kvs = dctD ks ds ∧ DctO O H a ks xs ∧ xs.length = ks.length ∧ RpAll K O H xs ds := by
  generalize e : PyData.dict kvs = d at h
  cases h with
  | dct a l b => cases e; exact ⟨_, _, _, _, rfl, rfl, a, l, b⟩
  | _ => cases e
def gIn2 : List D → Option D
  | [.str k, .dict kvs] => (keysS kvs).map fun ks => .bool (ks.contains k)
  | ds => gIn ds
def gNotIn2 : List D → Option D
  | [.str k, .dict kvs] => (keysS kvs).map fun ks => .bool (!ks.contains k)
  | ds => gNotIn ds
theorem oIn2 {X : Cx} (hu : X.A.units + 64 < cLine) : OpD X (compareOp .In) gIn2 := by
  intro pins s σ H x y v u Q I rx ry h
  obtain ⟨O, ds, d, ot, rs, e, q⟩ := h
  unfold gIn2 at e
  split at e
  · obtain ⟨da, db, hh, ra, rb⟩ := r2 rs
    cases hh
    obtain ⟨a, ks, xs, es, rfl, rfl, da, hl, rr⟩ := rb.dictInv
    rw [keysS_of ks es (by rw [← rr.length, hl])] at e
    cases e
    cases ra
    obtain rfl : u = Value.ref a := ry
    refine d_in (by omega) I (DGet.k (k := Sum.inr _) da.2) rx fun s3 I3 => ⟨.bl _, H, I3, rfl, ?_⟩
    rw [val_some _ hl]
    exact q _ _ (Same.refl H) (.bl _)
  · exact oIn hu pins s σ H x y v u Q I rx ry ⟨O, _, d, ot, rs, e, q⟩
theorem oNotIn2 {X : Cx} (hu : X.A.units + 64 < cLine) : OpD X (compareOp .NotIn) gNotIn2 := by
  intro pins s σ H x y v u Q I rx ry h
  obtain ⟨O, ds, d, ot, rs, e, q⟩ := h
  unfold gNotIn2 at e
  split at e
  · obtain ⟨da, db, hh, ra, rb⟩ := r2 rs
    cases hh
    obtain ⟨a, ks, xs, es, rfl, rfl, da, hl, rr⟩ := rb.dictInv
    rw [keysS_of ks es (by rw [← rr.length, hl])] at e
    cases e
    cases ra
    obtain rfl : u = Value.ref a := ry
    refine d_notIn (by omega) I (DGet.k (k := Sum.inr _) da.2) rx fun s3 I3 => ⟨.bl _, H, I3, rfl, ?_⟩
    rw [val_some _ hl]
    exact q _ _ (Same.refl H) (.bl _)
  · exact oNotIn hu pins s σ H x y v u Q I rx ry ⟨O, _, d, ot, rs, e, q⟩
/-! ### {k: v for .. in ..} -/
def dcLoop (mg : MG) (mt : MB) (mk mv : ME) : List D → List Sl → FS → List Str → List D → R (List Str × List D)
  | [], _, f, ks, xs => .ok (ks, xs) f
  | d :: ds, ρ, f, ks, xs => match mg d ρ with
    | none => .bad
    | some ρ' => (noX (mt ρ' f)).bind fun c f1 => if c = true then (noX (mk ρ' f1)).bind fun y f2 => (noX (mv ρ' f2)).bind fun z f3 => match y with
        | .str k => dcLoop mg mt mk mv ds ρ f3 (putKs ks k) (putXs ks xs k z)
        | _ => .bad
      else dcLoop mg mt mk mv ds ρ f1 ks xs
def eDc (vs : List Nat) (mi : MA) (mg : MG) (mt : MB) (mk mv : ME) : ME := fun ρ f => (mi ρ f).bind fun ds f1 => if decide (ds.length ≤ lim) && okW ρ vs then (noX (dcLoop mg mt mk mv ds (wipeR ρ vs) f1 [] [])).bind fun p f2 => .ok (.dict (dctD p.1 p.2)) f2 else .bad
end Mir

set_option Elab.async false
set_option linter.all false
set_option maxRecDepth 100000
set_option maxHeartbeats 4000000
namespace Mir
open PySem PySem.Spec PyProof.Rows L2
theorem dc_read {G : Gx} (gok : GOk G) {W : WX} {σ : L2.St} {H : Hp} {Q : VK} {vs : List Nat} {mi : MA} {g : TG} {mg : MG} {mt : MB} {mk mv : ME} {tt : TT} (hg : TGOk G vs g mg) (ht : ∀ σ H Q, tMT G W0 mt σ H Q → tt σ H Q)
    (h : tM G W (eDc vs mi mg mt mk mv) σ H Q) : tDc (tMI G W mi) g tt (tM G W0 mk) (tM G W0 mv) vs σ H Q := by
  obtain ⟨O, ρ, f, A, p⟩ := h
  refine ⟨O, ρ, f, A, ?_⟩
  unfold eDc at p
  cases e : mi ρ f with
  | bad => rw [e] at p; exact p.elim
  | exc x f1 => rw [e] at p; exact p
  | ok ds f1 =>
    rw [e] at p
    dsimp only [R.bind_ok] at p
    have hc : (decide (ds.length ≤ lim) && okW ρ vs) = true := by
      cases q : (decide (ds.length ≤ lim) && okW ρ vs) with
      | true => rfl
      | false => rw [q, if_neg Bool.false_ne_true] at p; exact p.elim
    rw [if_pos hc] at p
    simp only [Bool.and_eq_true, decide_eq_true_eq] at hc
    obtain ⟨hlen, hw⟩ := hc
    intro J H1 A1 o1 wk D nD
    -- the ground of the loop: the new list is owned
    have sD : Same H1 (upd H1 D (.dK [])) := same_upd nD
    have nO : ¬ O D := A1.ot.fresh nD
    have up : StepP O H1 (fun a => O a ∨ a = D) (upd H1 D (.dK [])) := fun b o n t e => ⟨sD _ _ e, fun z => z.elim n fun q => by rw [q, nD] at e; cases e⟩
    have nH0 : ∀ o, notTbl o → G.H0 D ≠ some o := fun o t q => by
      by_cases hfa : some D = G.fa
      · exact nO (FeedOk.own A1.feed hfa.symm)
      · have := A1.grow D o hfa t q
        rw [nD] at this; cases this
    have AD : Agr G (fun a => O a ∨ a = D) (L2.wipe σ vs) (upd H1 D (.dK [])) (wipeR ρ vs) f1 := by
      have B := (A1.same sD).wipe vs
      have C := A1.wipe vs
      refine ⟨B.grow, fun a ha => .inl (B.o0 a ha), fun a ha => ?_, fun a ha => ?_, ?_, B.len, fun i s es => ?_, B.inj, B.tabs⟩
      · rcases ha with ha | rfl
        · exact B.onew a ha
        · exact .inr nH0
      · rcases ha with ha | rfl
        · exact B.ot a ha
        · exact ⟨_, upd_same, notTbl_dK⟩
      · have q := A1.feed
        revert q
        cases hfa : G.fa with
        | none => intro _; trivial
        | some a =>
          intro q
          obtain ⟨oa, ec, lc⟩ := q
          exact ⟨.inl oa, sD _ _ ec, lc.step up⟩
      · have q := C.slots i s es
        cases s with
        | no => trivial
        | d x => obtain ⟨v, e1, r⟩ := q; exact ⟨v, e1, Rp.step up _ _ r⟩
        | l xs => obtain ⟨a, ws, e1, oa, na, ea, r⟩ := q; exact ⟨a, ws, e1, .inl oa, na, sD _ _ ea, RpAll.step up _ _ r⟩
        | m ks xs => obtain ⟨a, ws, e1, oa, na, ea, r, hz⟩ := q; exact ⟨a, ws, e1, .inl oa, na, sD _ _ ea, RpAll.step up _ _ r, hz⟩
        | fd => exact q
        | x => exact q
    have hnl : ∀ (j : Nat) (xs : Sl), (wipeR ρ vs)[j]? = some xs → xs.own → (L2.wipe σ vs)[j]? ≠ some (some (V.ref D)) := fun j xs e1 w e2 => by
      by_cases hj : j ∈ vs
      · by_cases hl : j < σ.length
        · rw [wipe_in hj hl] at e2; cases e2
        · rw [List.getElem?_eq_none (by rw [wipe_length]; omega)] at e2; cases e2
      · rw [wipeR_get hj] at e1
        rw [wipe_get hj] at e2
        have qq := A1.slots j _ e1
        cases xs with
        | l xs =>
          obtain ⟨a, us, e3, _, _, ea, _⟩ := qq
          rw [e2] at e3
          cases e3
          rw [nD] at ea; cases ea
        | m ks xs =>
          obtain ⟨a, us, e3, _, _, ea, _⟩ := qq
          rw [e2] at e3
          cases e3
          rw [nD] at ea; cases ea
        | no => exact w
        | d x => exact w
        | fd => exact w
        | x => exact w
    -- what holds at turn i
    let Pv : Nat → Hp → Prop := fun i H' => ∃ ks acc ws f', Agr G (fun a => O a ∨ a = D) (L2.wipe σ vs) H' (wipeR ρ vs) f' ∧ (∀ b o, b ≠ D → some b ≠ G.fa → notTbl o → H1 b = some o → H' b = some o) ∧ H' D = some (.dK ((ks.map Sum.inr).zip ws)) ∧
      RpAll G.K (fun a => O a ∨ a = D) H' ws acc ∧ ws.length = ks.length ∧ ks.length ≤ i ∧ Post G W O σ H ρ (Rp G.K) ((noX (dcLoop mg mt mk mv (ds.drop i) (wipeR ρ vs) f' ks acc)).bind fun p f2 => .ok (.dict (dctD p.1 p.2)) f2) Q
    have stepP : ∀ {H'}, (∀ b o, b ≠ D → some b ≠ G.fa → notTbl o → H1 b = some o → H' b = some o) → StepP O H1 (fun a => O a ∨ a = D) H' := fun k b o n t e => by
      have hb : b ≠ D := fun z => by rw [z, nD] at e; cases e
      exact ⟨k b o hb (fun z => n (FeedOk.own A1.feed z.symm)) t e, fun z => z.elim n hb⟩
    refine ⟨fun i m H' => m = ds.length - i ∧ i ≤ ds.length ∧ Pv i H', ⟨ds.length, by simp, Nat.zero_le _, [], [], [], f1, AD, fun b o hb _ _ e => by rw [upd_ne hb]; exact e, upd_same, .nil, rfl, Nat.le_refl _, by rw [List.drop_zero]; exact p⟩, ?_⟩
    rintro i m H' ⟨rfl, hi, ks, acc, ws, f', A', k', eD, rw', hz, hwl, pp⟩
    by_cases hlt : i < ds.length
    · refine .inr ⟨wk.go i _ H' hlt (stepP k'), Pv (i + 1), fun H'' p' => ⟨ds.length - (i + 1), by omega, rfl, hlt, p'⟩, fun x H'' y => ?_⟩
      obtain ⟨sy, d, ed, rd⟩ := wk.yld i _ H' x H'' hlt (stepP k') A'.ot y
      have edrop : ds.drop i = d :: ds.drop (i + 1) := by
        have := List.drop_eq_getElem_cons hlt
        rw [this]
        congr 1
        exact Option.some.inj ((List.getElem?_eq_getElem hlt).symm.trans ed)
      rw [edrop] at pp
      unfold dcLoop at pp
      cases em : mg d (wipeR ρ vs) with
      | none => rw [em] at pp; exact pp.elim
      | some ρ' =>
        rw [em] at pp
        dsimp only at pp
        refine hg _ _ _ _ f' x d ρ' _ (A'.same sy) rd em fun σ2 A2 w2 => ⟨w2.trans wipe_wipe, ht _ _ _ ⟨_, ρ', f', A2, ?_⟩⟩
        have w2' := w2.trans wipe_wipe
        cases et : mt ρ' f' with
        | bad => rw [et] at pp; exact pp.elim
        | exc z f2 => rw [et] at pp; exact pp.elim
        | ok c f2 =>
          rw [et] at pp
          dsimp only [noX, R.bind_ok] at pp
          intro b H3 A3 o3 eb
          subst eb
          have back : ∀ {H4 : Hp} {f4 : FS} {σ4 : L2.St}, Agr G (fun a => O a ∨ a = D) σ4 H4 ρ' f4 → L2.wipe σ4 vs = L2.wipe σ vs → OutP G.fa H'' H4 → Agr G (fun a => O a ∨ a = D) (L2.wipe σ vs) H4 (wipeR ρ vs) f4 := fun {H4 f4 σ4} A4 w4 o4 => by
            have st : StepO (fun a => O a ∨ a = D) H' H4 := fun b o n t e => ⟨o4 b o (fun z => n (.inl (FeedOk.own A1.feed z.symm))) t (sy _ _ e), n⟩
            refine ⟨A4.grow, A4.o0, A4.onew, A4.ot, A4.feed, A'.len, fun j s es => ?_, A'.inj, A4.tabs⟩
            have q := A'.slots j s es
            cases s with
            | no => trivial
            | d x => obtain ⟨v, e1, r⟩ := q; exact ⟨v, e1, Rp.step st _ _ r⟩
            | l xs =>
              obtain ⟨a, ws, e1, oa, na, ea, r⟩ := q
              exact ⟨a, ws, e1, oa, na, o4 a _ (fun z => na (gok.fo a z.symm)) notTbl_lst (sy _ _ ea), RpAll.step st _ _ r⟩
            | m ks xs =>
              obtain ⟨a, ws, e1, oa, na, ea, r, hz⟩ := q
              exact ⟨a, ws, e1, oa, na, o4 a _ (fun z => na (gok.fo a z.symm)) notTbl_dK (sy _ _ ea), RpAll.step st _ _ r, hz⟩
            | fd => exact q
            | x => exact q
          have nDf : some D ≠ G.fa := fun z => nO (FeedOk.own A1.feed z.symm)
          have o3' : OutP G.fa H'' H3 := o3
          cases b with
          | false =>
            rw [if_neg Bool.false_ne_true] at pp ⊢
            have st : StepO (fun a => O a ∨ a = D) H' H3 := fun b o n t e => ⟨o3' b o (fun z => n (.inl (FeedOk.own A1.feed z.symm))) t (sy _ _ e), n⟩
            exact ⟨ks, acc, ws, f2, back A3 w2' o3', fun b o h1 h2 t e => o3' b o h2 t (sy _ _ (k' b o h1 h2 t e)), o3' D _ nDf notTbl_dK (sy _ _ eD), RpAll.step st _ _ rw', hz, Nat.le_succ_of_le hwl, pp⟩
          | true =>
            rw [if_pos rfl] at pp ⊢
            refine ⟨_, ρ', f2, A3, ?_⟩
            cases ee : mk ρ' f2 with
            | bad => rw [ee] at pp; exact pp.elim
            | exc z f3 => rw [ee] at pp; exact pp.elim
            | ok kd f3 =>
              rw [ee] at pp
              dsimp only [noX, R.bind_ok] at pp
              intro yk H4 A4 o4 rk
              refine ⟨_, ρ', f3, A4, ?_⟩
              cases ev : mv ρ' f3 with
              | bad => rw [ev] at pp; exact pp.elim
              | exc z f4 => rw [ev] at pp; exact pp.elim
              | ok yd f4 =>
                rw [ev] at pp
                dsimp only [noX, R.bind_ok] at pp
                intro y H5 A5 o5 ry
                cases rk <;> first
                  | exact pp.elim
                  | skip
                rename_i k
                dsimp only at pp
                have o34 := (o3'.trans o4).trans o5
                have eD4 : H5 D = some (.dK ((ks.map Sum.inr).zip ws)) := o34 D _ nDf notTbl_dK (sy _ _ eD)
                refine ⟨_, Sum.inr k, rfl, eD4, by
                  have : lim < sizeLine := by decide
                  rw [List.length_zip, List.length_map, hz, Nat.min_self]
                  omega, ?_⟩
                rw [put_zip ks ws k y hz]
                have B := back A5 w2' o34
                have st : StepO (fun a => O a ∨ a = D) H' H5 := fun b o n t e => ⟨o34 b o (fun z => n (.inl (FeedOk.own A1.feed z.symm))) t (sy _ _ e), n⟩
                have su : StepO (fun a => O a ∨ a = D) H5 (upd H5 D (.dK (((putKs ks k).map Sum.inr).zip (putXs ks ws k y)))) := fun b o n t e => ⟨by rw [upd_ne (fun z => n (.inr z))]; exact e, n⟩
                refine ⟨putKs ks k, putXs ks acc k yd, putXs ks ws k y, f4, ⟨fun b o h1 t e => ?_, B.o0, B.onew, fun a ha => ?_, ?_, B.len, fun j s es => ?_, B.inj, tabs_upd B.tabs eD4 notTbl_dK (fun _ z => by cases z)⟩, fun b o h1 h2 t e => ?_, upd_same, RpAll.putX (Rp.step su _ _ ry) (RpAll.step su _ _ (RpAll.step st _ _ rw')), putXs_len hz, by have := putKs_le ks k; omega, pp⟩
                · by_cases hb : b = D
                  · rw [hb] at e; exact absurd e (nH0 o t)
                  · rw [upd_ne hb]; exact B.grow b o h1 t e
                · by_cases hb : a = D
                  · rw [hb]; exact ⟨_, upd_same, notTbl_dK⟩
                  · rw [upd_ne hb]; exact B.ot a ha
                · have q := B.feed
                  revert q
                  cases hfa : G.fa with
                  | none => intro _; trivial
                  | some a =>
                    intro q
                    obtain ⟨oa, ec, lc⟩ := q
                    exact ⟨oa, by rw [upd_ne (fun z => nDf (by rw [← z, hfa]))]; exact ec, lc.step su⟩
                · have q := B.slots j s es
                  cases s with
                  | no => trivial
                  | d x => obtain ⟨v, e1, r⟩ := q; exact ⟨v, e1, Rp.step su _ _ r⟩
                  | l xs =>
                    obtain ⟨a, us, e1, oa, na, ea, r⟩ := q
                    have hb : a ≠ D := fun z => hnl j (.l xs) es True.intro (by rw [e1, z])
                    exact ⟨a, us, e1, oa, na, by rw [upd_ne hb]; exact ea, RpAll.step su _ _ r⟩
                  | m js xs =>
                    obtain ⟨a, us, e1, oa, na, ea, r, hz⟩ := q
                    have hb : a ≠ D := fun z => hnl j (.m js xs) es True.intro (by rw [e1, z])
                    exact ⟨a, us, e1, oa, na, by rw [upd_ne hb]; exact ea, RpAll.step su _ _ r, hz⟩
                  | fd => exact q
                  | x => exact q
                · rw [upd_ne h1]
                  exact o34 b o h2 t (sy _ _ (k' b o h1 h2 t e))
    · have ei : i = ds.length := by omega
      subst ei
      refine .inl ⟨wk.stop _ H' (stepP k'), ?_⟩
      rw [List.drop_length] at pp
      unfold dcLoop at pp
      dsimp only [noX, R.bind_ok] at pp
      have less : ∀ a, O a → O a ∨ a = D := fun a h => .inl h
      have st1 : StepO O H1 H' := fun b o n t e => ⟨k' b o (fun z => by rw [z, nD] at e; cases e) (fun z => n (FeedOk.own A1.feed z.symm)) t e, n⟩
      refine pp (.ref D) H' ⟨A'.grow, A1.o0, A1.onew, fun a ha => A'.ot a (.inl ha), ?_, A1.len, fun j s es => ?_, A1.inj, A'.tabs⟩ (fun b o n t e => ?_) (.dct ⟨nO, eD⟩ hz (RpAll.less less _ _ rw'))
      · have q := A'.feed
        revert q
        cases hfa : G.fa with
        | none => intro _; trivial
        | some a =>
          intro q
          obtain ⟨oa, ec, lc⟩ := q
          have fe := A1.feed
          rw [hfa] at fe
          exact ⟨fe.1, ec, fun z => lc.1 (.inl z), lc.2⟩
      · by_cases hj : j ∈ vs
        · have q := A1.slots j s es
          cases s with
          | no => trivial
          | d x => obtain ⟨v, e1, r⟩ := q; exact ⟨v, e1, Rp.step st1 _ _ r⟩
          | l xs =>
            exfalso
            have := List.all_eq_true.mp hw j hj
            rw [es] at this
            cases this
          | m ks xs =>
            exfalso
            have := List.all_eq_true.mp hw j hj
            rw [es] at this
            cases this
          | fd => exact q
          | x => exact q
        · have q := A'.slots j s (by rw [wipeR_get hj]; exact es)
          rw [wipe_get hj] at q
          cases s with
          | no => trivial
          | d x => obtain ⟨v, e1, r⟩ := q; exact ⟨v, e1, Rp.less less _ _ r⟩
          | l xs =>
            obtain ⟨a, us, e1, oa, na, ea, r⟩ := q
            have hb : a ≠ D := fun z => hnl j (.l xs) (by rw [wipeR_get hj]; exact es) True.intro (by rw [wipe_get hj, e1, z])
            exact ⟨a, us, e1, oa.elim id (fun z => absurd z hb), na, ea, RpAll.less less _ _ r⟩
          | m ks xs =>
            obtain ⟨a, us, e1, oa, na, ea, r, hz⟩ := q
            have hb : a ≠ D := fun z => hnl j (.m ks xs) (by rw [wipeR_get hj]; exact es) True.intro (by rw [wipe_get hj, e1, z])
            exact ⟨a, us, e1, oa.elim id (fun z => absurd z hb), na, ea, RpAll.less less _ _ r, hz⟩
          | fd => exact q
          | x => exact q
      · have e1 := o1 b o n t e
        exact k' b o (fun z => by rw [z, nD] at e1; cases e1) n t e1
section
variable {X : Cx} {G : Gx} {W : WX}
theorem mDc {kx vx tg iter : Expr} {ifs : List Expr} {scope : Scope} {own : List (Str × Nat)} {pos : Pos} {g : TG} {mg : MG} {tt : TT} {mi : MA} {mt : MB} {mk mv : ME} (gok : GOk G) (hc : X.calm = true) (hN : X.N.Nodup) (hi : PI X tg iter (tMI G W mi)) (ok : BlkOk X.N X.env.scope scope own)
    (hgo : TGOk G (own.map (·.2)) g mg) (htt : ∀ σ H Q, tMT G W0 mt σ H Q → tt σ H Q)
    (hg : ∀ (s : Shared) (H : Hp) (C : Addr) (cl : List (Str × Addr)) (fp : List Addr), PG (X.blk s H scope (compEnvC scope cl C X.env) fp) tg g) (ht : ∀ (s : Shared) (H : Hp) (C : Addr) (cl : List (Str × Addr)) (fp : List Addr), PTs (X.blk s H scope (compEnvC scope cl C X.env) fp) ifs tt)
    (hk : ∀ (s : Shared) (H : Hp) (C : Addr) (cl : List (Str × Addr)) (fp : List Addr), PE (X.blk s H scope (compEnvC scope cl C X.env) fp) kx (tM G W0 mk))
    (he : ∀ (s : Shared) (H : Hp) (C : Addr) (cl : List (Str × Addr)) (fp : List Addr), PE (X.blk s H scope (compEnvC scope cl C X.env) fp) vx (tM G W0 mv)) (hs : ∀ x, foldedSetIterable iter X.env x = pure x) :
    PE X (.DictComp kx vx [⟨tg, iter, ifs, 0⟩] scope pos) (tM G W (eDc (own.map (·.2)) mi mg mt mk mv)) :=
  peOf (pe_dc hc hN hi ok hg ht hk he hs) fun σ H Q q => dc_read gok hgo htt q
end
end Mir

set_option Elab.async false
set_option linter.all false
set_option maxRecDepth 100000
set_option maxHeartbeats 4000000
namespace Mir
open PySem PySem.Spec PyProof.Rows L2
/-! ### try: .. except C: return constant -/
/-- tab: which classes the clause takes -/
def sTry (tab : List Bool) (m : MS) (d : D) : MS := fun ρ f => match m ρ f with
  | .exc x f1 => match tab[x.cls]? with
    | some true => .ret d f1
    | some false => .exc x f1
    | none => .bad
  | r => r
theorem psTry {X : Cx} {G : Gx} {W : WX} {x : Str} {tab : List Bool} {m : MS} {v : V} {d : D} {body : List Stmt} {e : Expr} {np p3 pos' pos : Pos} (hs : X.stack = X.env :: X.outer) (hf : X.env.frame = some X.env.locals) (T : ExmK X.K X.mg G.xc x tab) (hg : Gl X x) (hd : (x == ("__debug__" : Str)) = false) (tk : Takes X W)
    (hb : ∀ (W' : WX) (pn : List (Addr × Obj)) (xe : Value → Shared → Prop), Takes (X.tr pn xe) W' → PSs (X.tr pn xe) body (tMS G W' m)) (hv : ∀ X' : Cx, PE X' e (fun _ H Q => Q v H)) (rv : ∀ (O : AS) (H : Hp), Rp G.K O H v d) :
    PS X (.Try body [.ExceptHandler (some (.Name x np)) none [.Return (some e) p3] pos'] [] [] pos) (tMS G W (sTry tab m d)) := by
  obtain ⟨c, hm, ht⟩ := T.ex
  refine psOf (ps_try_only (tb := fun W' => tMS G W' m) (ts := fun _ _ _ D _ H => D.rt v H) hs hf ⟨hg, hd, .inl hm⟩ tk (fun W' pn xe tk' _ => hb W' pn xe tk') (fun a oe cls d pn _ _ => pssOf (pss_one (ps_ret (hv _))) fun D σ H q => q)) fun D σ H q => ?_
  obtain ⟨O, ρ, f, A, p⟩ := q
  refine ⟨O, ρ, f, A, ?_⟩
  unfold sTry at p
  cases e1 : m ρ f with
  | nx ρ' f1 => rw [e1] at p; exact p
  | ret d' f1 => rw [e1] at p; exact p
  | brk ρ' f1 => rw [e1] at p; exact p
  | ct ρ' f1 => rw [e1] at p; exact p
  | bad => rw [e1] at p; exact p
  | exc x f1 =>
    rw [e1] at p
    dsimp only at p
    intro O' σ' ρ' cls dd H' A' s' xa
    cases et : tab[x.cls]? with
    | none => rw [et] at p; exact p.elim
    | some b =>
      rw [et] at p
      refine ⟨b, by rw [xa.1]; exact ht _ _ et, fun hb a _ => ?_, fun hb => ?_⟩
      · subst hb
        exact p O' σ' ρ' v H' A' s' (rv _ _)
      · subst hb
        exact p O' σ' ρ' cls dd H' A' s' xa
/-! ### x = {k: v for .. in ..} -/
theorem sw_trueD {kx vx : Expr} {cs : List Comprehension} {sc : Scope} {dpos xpos : Pos} {x : Str} {row : Nat} {en : Env} (h1 : en.scope.kind = .function) (h2 : en.scope.names.lookup x = some .local) (h3 : (xpos.line == dpos.line) = true)
    (h4 : (sc.names.any fun (n, k) => n == x && (k == .local || k == .cell)) = false) : swapsWith (.DictComp kx vx cs sc dpos) (some (.Name x xpos)) row en = pure true := by
  have a1 : en.kindOf x = some .local := h2
  have a2 : en.blockKind = .function := by unfold Env.blockKind; rw [h1]; rfl
  unfold swapsWith
  simp only [a1, a2, h3, h4, Expr.pos]
  rfl
section
variable {X : Cx} {G : Gx} {W : WX}
theorem psSetDc {i : Nat} {x : Str} {xp dp rp : Pos} {kx vx tg iter : Expr} {ifs : List Expr} {sc : Scope} {own : List (Str × Nat)} {g : TG} {mg : MG} {tt : TT} {mi : MA} {mt : MB} {mk mv : ME} (gok : GOk G) (hc : X.calm = true) (hN : X.N.Nodup) (hy : X.N[i]? = some x) (hyl : X.env.scope.names.lookup x = some .local)
    (hsw : swapsWith (.DictComp kx vx [⟨tg, iter, ifs, 0⟩] sc dp) (some (.Name x xp)) rp.line X.env = pure true) (hi : PI X tg iter (tMI G W mi)) (ok : BlkOk X.N X.env.scope sc own)
    (hgo : TGOk G (own.map (·.2)) g mg) (htt : ∀ σ H Q, tMT G W0 mt σ H Q → tt σ H Q)
    (hg : ∀ (s : Shared) (H : Hp) (C : Addr) (cl : List (Str × Addr)) (fp : List Addr), PG (X.blk s H sc (compEnvC sc cl C X.env) fp) tg g) (ht : ∀ (s : Shared) (H : Hp) (C : Addr) (cl : List (Str × Addr)) (fp : List Addr), PTs (X.blk s H sc (compEnvC sc cl C X.env) fp) ifs tt)
    (hk : ∀ (s : Shared) (H : Hp) (C : Addr) (cl : List (Str × Addr)) (fp : List Addr), PE (X.blk s H sc (compEnvC sc cl C X.env) fp) kx (tM G W0 mk))
    (he : ∀ (s : Shared) (H : Hp) (C : Addr) (cl : List (Str × Addr)) (fp : List Addr), PE (X.blk s H sc (compEnvC sc cl C X.env) fp) vx (tM G W0 mv)) (hs : ∀ z, foldedSetIterable iter X.env z = pure z) :
    PS X (.Assign [.Name x xp] (.DictComp kx vx [⟨tg, iter, ifs, 0⟩] sc dp) rp) (tMS G W (sSet i (eDc (own.map (·.2)) mi mg mt mk mv))) := ⟨fun pins s σ H D I q => by
  have h : tDc (tMI G W mi) g tt (tM G W0 mk) (tM G W0 mv) (own.map (·.2)) σ H (fun z H1 => gName i z σ H1 D.nx) := by
    refine dc_read (W := W) gok hgo htt ((sBind_read (rel := Rp G.K) (k := fun d ρ f1 => SR.nx (ρ.set i (.d d)) f1) q).mono fun z H1 h => ?_)
    obtain ⟨O, ρ, f, d, A, r, p⟩ := h
    exact p O _ H1 (A.setD i r) (.refl _ _)
  rw [exec_Assign_Name_used _ _ _ _ hsw]
  refine wpAny_bind (wpAny_standAt (wpAny_bind ?_))
  show wpAny _ X.A (do let _ ← comprehension (.DictComp kx vx [⟨tg, iter, ifs, 0⟩] sc dp) sc X.env (firstIterPos [⟨tg, iter, ifs, 0⟩] dp) newDict false (eval iter X.env) (some (assign (.Name x xp) X.env))) _ _ s
  refine wpAny_bind (thn (dc_core (Qf := fun _ t => SP X pins D .next t) hc hN I hi ok hg ht hk he hs h fun L C t m H1 I1 q1 hn f => ?_) fun _ t hq => wpAny_pure (wpAny_pure hq))
  show wpAny _ _ (assign (.Name x xp) X.env (.ref L)) _ _ _
  refine wpAny_assign_Name (store_ok2 (v := V.ref L) I1 hN hy (.inl hyl) rfl (fun t2 I2 ⟨a, sb, ha⟩ => ?_) (.inr hyl))
  obtain ⟨f0, f1, f2, f3, f4, f5⟩ := f
  have neC : C ≠ a := by
    rcases ha with z | z
    · rw [z]; exact f1
    · exact fun e => f4 x a z e.symm
  exact ⟨m, hn.sameBut sb neC, fun h3 sb3 => ⟨_, H1, I2.turned (t' := t2.toks) (fun b o hb e => (sb3.2 b hb).trans e) f0 f1 f3 f4 f5, q1⟩⟩⟩
end
end Mir

set_option Elab.async false
set_option linter.all false
set_option maxRecDepth 100000
set_option maxHeartbeats 4000000
namespace Mir
open PySem PySem.Spec PyProof.Rows L2
/-! ### str.upper -/
def gUpper2 : List D → Option D
  | [.str a] => if (Txt.upper a).length ≤ lim then some (.str (Txt.upper a)) else none
  | _ => none
theorem mtUpper {X : Cx} : MtD X "str.upper" gUpper2 := by
  intro pins s σ H x xs v us Q I rx rs' h
  obtain ⟨O, ds, d, ot, rs, e, q⟩ := h
  unfold gUpper2 at e
  split at e
  · rename_i a
    split at e
    · rename_i hk
      cases e
      cases rs with
      | cons a1 b1 =>
        cases b1
        cases a1
        cases rs'
        obtain ⟨t, rfl⟩ := rx
        have hf : PySem.Builtin.Str.tooLong (Txt.upper a).length = false := by
          unfold PySem.Builtin.Str.tooLong
          simp only [decide_eq_false_iff_not]
          have := Nat.le_trans hk lim_line
          omega
        exact PySem.SC.upper hf ⟨.str _, H, I.tok _, ⟨_, rfl⟩, q _ _ (Same.refl H) (.str _)⟩
    · cases e
  · cases e
/-! ### list(range(n)), tuple(range(n)) -/
def gRangeL : List D → Option D
  | [.int n] => if decide (0 ≤ n) && decide (n ≤ 1000) then some (.list (rangeD 0 n.toNat)) else none
  | _ => none
def gRangeT : List D → Option D
  | [.int n] => if decide (0 ≤ n) && decide (n ≤ 1000) then some (.tuple (rangeD 0 n.toNat)) else none
  | _ => none
theorem rp_range {K : PySem.W.Frag} {O : AS} {H : Hp} (n : Int) : RpAll K O H (rgV 0 n) (rangeD 0 n.toNat) := by
  unfold rgV rangeD
  rw [Int.sub_zero]
  induction List.range n.toNat with
  | nil => exact .nil
  | cons i is ih => rw [List.map_cons, List.map_cons]; exact .cons (.int _) ih
section
variable {X : Cx} {G : Gx} {W : WX} {a : Expr} {ma : ME} {p p2 pos pos2 : Pos}
theorem mLstRg (hK : G.K = X.K) (hc : X.calm = true) (hg : Gl X "list") (hm : X.mg "list" = none) (hg2 : Gl X "range") (hm2 : X.mg "range" = none) (ha : PE X a (tM G W ma)) (na : starEach [a] X.env = (false, eval a X.env) :: starEach [] X.env := by rfl)
    (nb : starEach [.Call (.Name "range" p2) [a] [] pos2] X.env = (false, eval (.Call (.Name "range" p2) [a] [] pos2) X.env) :: starEach [] X.env := by rfl) :
    PE X (.Call (.Name "list" p) [.Call (.Name "range" p2) [a] [] pos2] [] pos) (tM G W (eUn gRangeL ma)) := peOf (pe_listRg hc hg hm (prg_1 hg2 hm2 ha na) nb) fun σ H Q q => (un_read q).mono fun x H1 h => by
  obtain ⟨O, ds, d, ot, rs, e, qq⟩ := h
  obtain ⟨da, rfl, ra⟩ := r1 rs
  unfold gRangeL at e
  split at e
  · rename_i n hh
    cases hh
    split at e
    · rename_i hk
      cases e
      cases ra
      rw [Bool.and_eq_true, decide_eq_true_eq, decide_eq_true_eq] at hk
      exact ⟨_, rfl, RgOk.of_le (by omega) (by omega) (by omega) (by omega), fun q hq => qq _ _ (same_upd hq) (Rp.newLst (rp_range _) hq ot)⟩
    · cases e
  · cases e
theorem mTupRg (hK : G.K = X.K) (hc : X.calm = true) (hg : Gl X "tuple") (hm : X.mg "tuple" = none) (hg2 : Gl X "range") (hm2 : X.mg "range" = none) (ha : PE X a (tM G W ma)) (na : starEach [a] X.env = (false, eval a X.env) :: starEach [] X.env := by rfl)
    (nb : starEach [.Call (.Name "range" p2) [a] [] pos2] X.env = (false, eval (.Call (.Name "range" p2) [a] [] pos2) X.env) :: starEach [] X.env := by rfl) :
    PE X (.Call (.Name "tuple" p) [.Call (.Name "range" p2) [a] [] pos2] [] pos) (tM G W (eUn gRangeT ma)) := peOf (pe_tupRg hc hg hm (prg_1 hg2 hm2 ha na) nb) fun σ H Q q => (un_read q).mono fun x H1 h => by
  obtain ⟨O, ds, d, ot, rs, e, qq⟩ := h
  obtain ⟨da, rfl, ra⟩ := r1 rs
  unfold gRangeT at e
  split at e
  · rename_i n hh
    cases hh
    split at e
    · rename_i hk
      cases e
      cases ra
      rw [Bool.and_eq_true, decide_eq_true_eq, decide_eq_true_eq] at hk
      exact ⟨_, rfl, RgOk.of_le (by omega) (by omega) (by omega) (by omega), fun q hq => qq _ _ (same_upd hq) (Rp.newTup (rp_range _) hq ot)⟩
    · cases e
  · cases e
end
end Mir

set_option Elab.async false
set_option linter.all false
set_option maxRecDepth 100000
set_option maxHeartbeats 4000000
namespace Mir
open PySem PySem.Spec PyProof.Rows L2
/-! ### defs with keyword-only parameters that have defaults -/
structure DefKw (P : Program) (w : World) (K : PySem.W.Frag) (mg : Str → Option Value) (base : Heap) (xc : XC) (x : Str) (st : Stmt) (ps : List Str) (k : Nat) (kws : List (Str × V)) (mf : List D → FS → R D) : Prop where
  ex : ∃ f fd, mg x = some (.ref f) ∧ FunD K x x (defArgs st) (defBody st) (defScope st) [] kws f fd ∧ FnG P w K mg base (L2.CX P w) k f fd ps (spM K xc false mf)
section
variable {P : Program} {w : World} {K : PySem.W.Frag} {mg : Str → Option Value} {base : Heap} {x : Str} {st : Stmt} {f : Addr} {fd : FuncData}
theorem defKw {xc : XC} {N ps : List Str} {np k : Nat} {kws : List (Str × V)} {m : MS} (F : FunD K x x (defArgs st) (defBody st) (defScope st) [] kws f fd) (S : FnScope N ps (defScope st)) (hm : mg x = some (.ref f)) (hp : ps.length = np)
    (hbody : ∀ (G : Gx), G.K = K → G.xc = xc → GOk G → ∀ (cdv : Value), CodeIs K f x cdv → ∀ (A : Around) (outer : List Env) (s : Shared) (H : Hp) (E : XK), Room k (A.deeper (envOfC x (defScope st) s.heap.objs.size f cdv)) → A.guards = some [] →
      PSs (cxOf (L2.CX P w) P w K mg base N x (defScope st) f cdv A outer s H E) (defBody st) (tMS G (fun c d _ H' => E c d H') m)) :
    DefKw P w K mg base xc x st ps (k + 1) kws (mfun N.length np false m) := by
  obtain ⟨oc, od, dV, kV, doc, pm, an, cdv, ct, osl, efd, lk, hcd, _, _⟩ := F.ex
  subst efd
  refine ⟨f, PySem.W.fnOf x x (defArgs st) (defBody st) (defScope st) dV kV doc pm an cdv ct, hm, F, ?_⟩
  have hN : ps.length ≤ N.length := by have := congrArg List.length S.pre; rw [List.length_take] at this; omega
  have lenS : ∀ vs H Q E, spM K xc false (mfun N.length np false m) vs H Q E → vs.length = ps.length := fun vs H Q E h => by
    obtain ⟨O, fa, fc, fs, ds, tb, ot, fo, ar, h⟩ := h
    have hd : ds.length = np := by
      unfold mfun at h
      by_cases e : ds.length = np
      · exact e
      · rw [if_neg e] at h; exact h.elim
    rw [hp]
    unfold ArgsOk at ar
    rw [if_neg Bool.false_ne_true] at ar
    rw [ar.2.length, hd]
  refine fnG_of lk hcd S lenS fun A outer s H vs Q E hr hgd h => ?_
  have hl := lenS _ _ _ _ h
  obtain ⟨O, fa, fc, fs, ds, tb, ot, fo, ar, h⟩ := h
  have gok : GOk (⟨K, H, O, fa, fc, xc, none⟩ : Gx) := ⟨fun a e => FeedOk.own fo e⟩
  refine ⟨_, hbody ⟨K, H, O, fa, fc, xc, none⟩ rfl rfl gok cdv ⟨oc, od, _, osl, lk, rfl, hcd⟩ A outer s H E hr hgd, O, entry N.length false ds, fs, agr_entry (G := ⟨K, H, O, fa, fc, xc, none⟩) (ps := ps) (np := np) rfl tb ot fo ar (by omega), ?_⟩
  unfold mfun at h
  by_cases e : ds.length = np
  · rw [if_pos e] at h
    cases em : m (entry N.length false ds) fs with
    | nx ρ f' =>
      rw [em] at h
      exact fun O' σ' H' A' s' => h .non H' (fun b o n t e => A'.grow b o n t e) A'.tabs (FeedOk.less A'.feed A'.o0 fun a e => FeedOk.own fo e) .non
    | ret d f' =>
      rw [em] at h
      exact fun O' σ' ρ v H' A' s' r => h v H' (fun b o n t e => A'.grow b o n t e) A'.tabs (FeedOk.less A'.feed A'.o0 fun a e => FeedOk.own fo e) (Rp.less A'.o0 _ _ r)
    | exc z f' =>
      rw [em] at h
      exact fun O' σ' ρ' cls d H' A' s' xa => h cls d H' (fun b o n t e => A'.grow b o n t e) A'.tabs (FeedOk.less A'.feed A'.o0 fun a e => FeedOk.own fo e) (by
        obtain ⟨e1, dd, us, e2, e3, e4, r, no⟩ := xa
        exact ⟨e1, dd, us, e2, e3, e4, RpAll.less A'.o0 _ _ r, fun z => no (A'.o0 _ z)⟩)
    | brk ρ f' => rw [em] at h; exact h.elim
    | ct ρ f' => rw [em] at h; exact h.elim
    | bad => rw [em] at h; exact h.elim
  · rw [if_neg e] at h; exact h.elim
end
/-- values of the lacking ones -/
inductive DvR : List V → List D → Prop where
  | nil : DvR [] []
  | non {vs ds} : DvR vs ds → DvR (.non :: vs) (.none :: ds)
  | bl {vs ds} (b : Bool) : DvR vs ds → DvR (.bl b :: vs) (.bool b :: ds)
  | int {vs ds} (i : Int) : DvR vs ds → DvR (.int i :: vs) (.int i :: ds)
  | str {vs ds} (i : Str) : DvR vs ds → DvR (.str i :: vs) (.str i :: ds)
theorem DvR.rp {K : PySem.W.Frag} {O : AS} {H : Hp} : ∀ {vs : List V} {ds : List D}, DvR vs ds → RpAll K O H vs ds
  | _, _, .nil => .nil
  | _, _, .non h => .cons .non h.rp
  | _, _, .bl b h => .cons (.bl b) h.rp
  | _, _, .int b h => .cons (.int b) h.rp
  | _, _, .str b h => .cons (.str b) h.rp
/-- the call: n values by place, m by name, dd the lacking ones' defaults -/
def eCallD (n m : Nat) (is : List Nat) (dd : List D) (mf : List D → FS → R D) (ms mk : MA) : ME := fun ρ f => (ms ρ f).bind fun ds f1 => (mk ρ f1).bind fun es f2 => if ds.length = n ∧ es.length = m then (match mf (pick is (ds ++ (es ++ dd))) f2 with
  | .ok d _ => .ok d f2
  | .exc x _ => .exc x f2
  | .bad => .bad) else .bad
section
variable {X : Cx} {e : Expr} {es : List Expr} {pos : Pos} {G : Gx} {W : WX} {ms mk : MA}
theorem callD_read {n m : Nat} {is : List Nat} {dv : List V} {dd : List D} {mf : List D → FS → R D} {σ : L2.St} {H : Hp} {Q : VK} (gok : GOk G) (hd : DvR dv dd) (h : tM G W (eCallD n m is dd mf ms mk) σ H Q) :
    tMA G W ms σ H fun vs H1 => tMA G W mk σ H1 fun zs H2 => vs.length = n ∧ zs.length = m ∧ spM G.K G.xc false mf (pick is (vs ++ (zs ++ dv))) H2 Q (WE W σ) := by
  obtain ⟨O, ρ, f, A, p⟩ := h
  refine ⟨O, ρ, f, A, ?_⟩
  unfold eCallD at p
  cases e1 : ms ρ f with
  | bad => rw [e1] at p; exact p.elim
  | exc x f1 => rw [e1] at p; exact p
  | ok ds f1 =>
    rw [e1] at p
    dsimp only [R.bind_ok] at p
    intro vs H1 A1 s1 r1
    refine ⟨O, ρ, f1, A1, ?_⟩
    cases e2 : mk ρ f1 with
    | bad => rw [e2] at p; exact p.elim
    | exc x f2 => rw [e2] at p; exact p.later A s1
    | ok es f2 =>
      rw [e2] at p
      dsimp only [R.bind_ok] at p
      intro zs H2 A2 s2 r2
      by_cases hl : ds.length = n ∧ es.length = m
      · rw [if_pos hl] at p
        refine ⟨r1.length.trans hl.1, r2.length.trans hl.2, ?_⟩
        refine spM_of (ρ := ρ) (f1 := f2) gok A2 (RpAll.pick ((RpAll.step (A1.stepO s2) _ _ r1).append (r2.append hd.rp)) is) ?_
        exact (p.later A s1).later A1 s2
      · rw [if_neg hl] at p; exact p.elim
theorem vals_dv {vs : List V} {us : List Value} (h : Vals vs us) {ws : List V} {xs : List Value} (k : Vals ws xs) : Vals (vs ++ ws) (us ++ xs) := h.append k
/-- f(.., k = v, ..) -/
theorem mCallD {x : Str} {st : Stmt} {p : Pos} {ps ks : List Str} {k n : Nat} {is : List Nat} {kws0 : List (Str × V)} {es : List Expr} {kws : List Keyword} {mf : List D → FS → R D} {dd : List D} (lack : List (Str × V)) (D : DefKw X.prog X.w X.K X.mg X.base G.xc x st ps k kws0 mf) (gok : GOk G) (hK : G.K = X.K) (hr : Room k X.A) (hgd : X.A.guards = some []) (hg : Gl X x) (tk : Takes X W)
    (ha : PA X es (tMA G W ms)) (hkw : PK X kws (tMA G W mk)) (hd : DvR (lack.map (·.2)) dd) (hall : (backToKw pos (keywordEach kws X.env)).all (·.1.isSome) = true) (hks : (backToKw pos (keywordEach kws X.env)).filterMap (·.1) = ks) (hdb : (x == ("__debug__" : Str)) = false)
    (hk0 : kws0 ≠ []) (hlk : ∀ q ∈ lack, q ∈ kws0)
    (hb : ∀ (D : Addr) (doc pm : Value) (an : Option Addr) (cdv ct : Value) (us mv ws : List Value), us.length = n → mv.length = lack.length → ws.length = ks.length →
      KwChain D ((lack.map (·.1)).zip mv) (bindArgs (PySem.W.fnOf x x (defArgs st) (defBody st) (defScope st) .none (.ref D) doc pm an cdv ct) ⟨us, ks.zip ws⟩) (ps.zip (pick is (us ++ (ws ++ mv)))))
    (hsh : (∃ e es', es = e :: es' ∧ starEach (e :: es') X.env = (false, eval e X.env) :: starEach es' X.env) ∨ (es = [] ∧ ms = aNil))
    (hpl : ((backTo pos (starEach es X.env)).any (·.1) || (backToKw pos (keywordEach kws X.env)).any (·.1.isNone)) = false) :
    PE X (.Call (.Name x p) es kws pos) (tM G W (eCallD n ks.length is dd mf ms mk)) := by
  obtain ⟨f, fd, hm, FD, F⟩ := D.ex
  have hk := FD.kp
  obtain ⟨mv, B⟩ := FunD.kbinds0 (ps := ps) FD n ks lack (fun {α} us mv ws => pick is (us ++ (ws ++ mv))) hk0 hlk (fun r1 r2 r3 => vals_pick (r1.append (r3.append r2)) is) hb
  refine ⟨fun pins s σ H Q I h => ?_⟩
  have q := callD_read gok hd h
  refine wpAny_Call_Name_kw (ld_glob I hg hm ?_ hdb)
  have fin : ∀ {us ws : List Value} {vs zs : List V} {H2 : Hp} {s2 : Shared}, Inv X pins σ H2 s2 → Vals vs us → Vals zs ws → vs.length = n → zs.length = ks.length → spM G.K G.xc false mf (pick is (vs ++ (zs ++ lack.map (·.2)))) H2 Q (WE W σ) →
      wpAny (model X.prog X.w) X.A (call (.ref f) us (ks.zip ws)) (EP X pins σ Q) X.xe s2 := fun {us ws vs zs H2 s2} I2 rv rz l1 l2 q2 => by
    rw [hK] at q2
    refine wpAny_call (codeAny_mono (F.run X.A X.stack s2 H2 ⟨us, ks.zip ws⟩ (pick is (us ++ (ws ++ mv))) (pick is (vs ++ (zs ++ lack.map (·.2)))) Q (WE W σ) hr hgd I2.env0 (B.to s2 us ws I2.kIn (rv.length.symm.trans l1) (rz.length.symm.trans l2)) (B.rel rv rz) q2) fun r s' hq => ?_)
    cases r with
    | error e => exact passAt tk σ pins H2 s2 e s' I2 hq
    | ok fl =>
      cases fl with
      | ret u => exact I2.after hq
      | next => exact False.elim hq
      | brk => exact False.elim hq
      | cont => exact False.elim hq
  rcases hsh with ⟨e, es', rfl, he⟩ | ⟨rfl, rfl⟩
  · refine PySem.W.callWith_KW (h₀ := X.base) I.ok.mod.kin hk hall (thn (ha.run pos pins s σ H _ I q) fun us s1 ⟨vs, H1, I1, r, q1⟩ => ?_) hpl he
    refine thn (hkw.run pos pins s1 σ H1 _ I1 q1) fun ws s2 ⟨zs, H2, I2, rz, l1, l2, q2⟩ => ⟨I2.kIn, ?_⟩
    rw [hks]
    exact fin I2 r rz l1 l2 q2
  · obtain ⟨O, ρ, f1, A, pp⟩ := q
    have q := pp [] H A (.refl _ _) .nil
    refine PySem.W.callWith_KW0 (h₀ := X.base) I.ok.mod.kin hk hall (thn (hkw.run pos pins s σ H _ I q) fun ws s2 ⟨zs, H2, I2, rz, l1, l2, q2⟩ => ⟨I2.kIn, ?_⟩) hpl
    rw [hks]
    exact fin I2 .nil rz l1 l2 q2
end
/-! ### methods without arguments -/
section
variable {X : Cx} {o : Expr} {G : Gx} {W : WX} {mo : ME}
theorem mMeth0 {T id : String} {g : List D → Option D} {name : Str} {apos cpos : Pos} (hK : G.K = X.K) (pa : PlainAttrs T) (slot : Slot T name id) (hty : typeOf (.builtin id) = pure (.type "method_descriptor")) (hm : MtD X id g) (ho : PE X o (tM G W mo))
    (hbase : attributeBase o name X.env (eval o X.env) = eval o X.env) (hline : (apos.endLine == cpos.line) = true) :
    PE X (.Call (.Attribute o name apos) [] [] cpos) (tM G W (eMt T g mo aNil)) :=
  peOf (pe_bm0 pa slot hty hm ho hbase hline) fun σ H Q q => by
    refine (meth_read q).mono fun x H1 h1 => ?_
    rw [← hK]
    refine ⟨h1.1, ?_⟩
    obtain ⟨O, ρ, f, A, p⟩ := h1.2
    exact p [] H1 A (.refl _ _) .nil
end
/-! ### at the head -/
def defOfK (x : Str) (st : Stmt) (kwd : List (Str × He.Dv)) : He.DefD := ⟨(x, none), x, x, defArgs st, defBody st, defScope st, [], kwd⟩
section
variable {fa : List He.Fa} {fn : List He.DefD} {tf : List He.Defn} {dt : List (Str × D)} {xs : ClsL} {subs : List (Str × List Bool)} {subT : List (String × List Bool)} {e : Str} {trs : List (Str × List Bool)} {w : World} {h : Heap} {K : PySem.W.Frag} {mg : Str → Option Value}
theorem defEK (X : K.In h) (G : h.Ns mainGlobals mg) (c : SaysE fa fn tf dt xs subs subT e trs w h K) {x : Str} {st : Stmt} {kwd : List (Str × He.Dv)} (i : Nat) (hi : fn[i]? = some (defOfK x st kwd)) (j : Nat) (hj : fa[j]? = some (.glo x)) :
    ∃ f fd, f = He.ga K x ∧ mg x = some (.ref f) ∧ FunD K x x (defArgs st) (defBody st) (defScope st) [] (kwd.map fun q => (q.1, q.2.v K)) f fd := by
  obtain ⟨fd, F⟩ := c.d.def_ i hi
  exact ⟨_, fd, rfl, He.glo_ok X G (c.d.fact j hj), F⟩
end
end Mir

set_option Elab.async false
set_option linter.all false
set_option maxRecDepth 100000
set_option maxHeartbeats 4000000
namespace Mir
open PySem PySem.Spec PyProof.Rows L2
/-! ### tables of the module: dicts with text keys -/
structure GTab (K : PySem.W.Frag) (w : World) (mg : Str → Option Value) (x : Str) (kvs : List (Str × D)) : Prop where
  ex : ∃ a es n, mg x = some (.ref a) ∧ KDict K w a es n ∧ ∀ q ∈ kvs, ∃ u v, PySem.W.nsIn K a q.1 = some (some u) ∧ RelV v u ∧ ∀ O H, Rp K O H v q.2
/-- NAME[e] -/
def eGd (kvs : List (Str × D)) (m : ME) : ME := fun ρ f => (m ρ f).bind fun k f1 => match k with
  | .str z => ofO (kvs.lookup z) f1
  | _ => .bad
theorem lookup_mem {kvs : List (Str × D)} {z : Str} {d : D} (h : kvs.lookup z = some d) : (z, d) ∈ kvs := by
  induction kvs with
  | nil => cases h
  | cons q kvs ih =>
    obtain ⟨k, e⟩ := q
    rw [List.lookup_cons] at h
    cases q : z == k with
    | true =>
      rw [q] at h
      cases h
      rw [eq_of_beq q]
      exact List.mem_cons_self
    | false =>
      rw [q] at h
      exact List.mem_cons_of_mem _ (ih h)
section
variable {X : Cx} {G : Gx} {W : WX}
theorem mGd {x : Str} {kvs : List (Str × D)} {i : Expr} {p pos : Pos} {mi : ME} (hK : G.K = X.K) (hg : Gl X x) (T : GTab X.K X.w X.mg x kvs) (hi : PE X i (tM G W mi)) (hs : PlainIx i) (hdb : (x == ("__debug__" : Str)) = false) : PE X (.Subscript (.Name x p) i pos) (tM G W (eGd kvs mi)) := by
  obtain ⟨a, es, n, hm, D, hv⟩ := T.ex
  refine peOf (pe_ix ix_kdict (pe_glob (v := .ref a) hg hm rfl hdb) hi hs) fun σ H Q q => ?_
  obtain ⟨O, ρ, f, A, pp⟩ := q
  refine ⟨O, ρ, f, A, ?_⟩
  unfold eGd at pp
  cases e : mi ρ f with
  | bad => rw [e] at pp; exact pp.elim
  | exc x f1 => rw [e] at pp; exact pp
  | ok k f1 =>
    rw [e] at pp
    dsimp only [R.bind_ok] at pp
    intro v H1 A1 o1 r
    cases r <;> first
      | exact pp.elim
      | skip
    rename_i z
    dsimp only at pp
    cases el : kvs.lookup z with
    | none => rw [el] at pp; exact pp.elim
    | some d =>
      rw [el] at pp
      obtain ⟨u, w0, e1, e2, e3⟩ := hv _ (lookup_mem el)
      refine ⟨a, z, w0, rfl, rfl, ⟨es, n, u, D.at_, D.lit, e1, e2⟩, ?_⟩
      exact pp w0 H1 A1 o1 (by rw [hK]; exact e3 _ _)
end
/-! ### at the head -/
def tabB (K : PySem.W.Frag) (t : Str × List (Str × D)) : Bool := t.2.all fun q => match PySem.W.nsIn K (He.ga K t.1) q.1 with
  | some (some u) => isData K q.2 u
  | _ => false
theorem tabB_ok {K : PySem.W.Frag} {t : Str × List (Str × D)} (h : tabB K t = true) {q : Str × D} (hq : q ∈ t.2) : ∃ u v, PySem.W.nsIn K (He.ga K t.1) q.1 = some (some u) ∧ RelV v u ∧ ∀ O H, Rp K O H v q.2 := by
  have h2 := List.all_eq_true.mp h q hq
  cases e : PySem.W.nsIn K (He.ga K t.1) q.1 with
  | none => rw [e] at h2; cases h2
  | some r =>
    rw [e] at h2
    cases r with
    | none => cases h2
    | some u =>
      obtain ⟨v, r, rp⟩ := isData_ok _ _ h2
      exact ⟨u, v, rfl, r, rp⟩
abbrev TabL : Type := List (Str × List (Str × D))
def tabsOf (ts : TabL) : List He.Tab := ts.map fun t => (fun K => He.ga K t.1, t.2.map (·.1))
def exAllT (ts : TabL) (ex : PySem.W.Frag → Bool) (K : PySem.W.Frag) : Bool := ts.all (tabB K) && ex K
section
variable {fa : List He.Fa} {fn : List He.DefD} {ts : TabL} {tf : List He.Defn} {dt : List (Str × D)} {xs : ClsL} {subs : List (Str × List Bool)} {subT : List (String × List Bool)} {e : Str} {trs : List (Str × List Bool)} {w : World} {h : Heap} {K : PySem.W.Frag} {mg : Str → Option Value}
abbrev SaysF (fa : List He.Fa) (fn : List He.DefD) (ts : TabL) (tf : List He.Defn) (dt : List (Str × D)) (xs : ClsL) (subs : List (Str × List Bool)) (subT : List (String × List Bool)) (e : Str) (trs : List (Str × List Bool)) (w : World) (h : Heap) (K : PySem.W.Frag) : Prop := He.SaysX fa fn (tabsOf ts) tf (exAllT ts (exAll dt xs subs subT e tf trs)) w h K
theorem SaysF.d (c : SaysF fa fn ts tf dt xs subs subT e trs w h K) : He.SaysD fa fn K := congrArg (fun z : He.AlT => z.1) c.t
theorem SaysF.ex (c : SaysF fa fn ts tf dt xs subs subT e trs w h K) : dt.all (datK K) = true ∧ excsB K xs = true ∧ (subs.all (fun q => subB K xs (.ref (He.ga K q.1)) q.2)) = true ∧ (subT.all (fun q => subB K xs (.type q.1) q.2)) = true ∧ exmB K xs e = true ∧ (tabsK K tf).Nodup ∧ (trs.all fun q => exmTB K xs q.1 q.2) = true := by
  have m := c.more
  unfold exAllT exAll at m
  simp only [Bool.and_eq_true, decide_eq_true_eq] at m
  exact m.2
theorem SaysF.tb (c : SaysF fa fn ts tf dt xs subs subT e trs w h K) : ts.all (tabB K) = true := by
  have m := c.more
  unfold exAllT at m
  rw [Bool.and_eq_true] at m
  exact m.1
theorem gloF (X : K.In h) (G : h.Ns mainGlobals mg) (c : SaysF fa fn ts tf dt xs subs subT e trs w h K) {x : Str} (j : Nat) (hj : fa[j]? = some (.glo x)) : mg x = some (.ref (He.ga K x)) := He.glo_ok X G (c.d.fact j hj)
theorem freeF (X : K.In h) (G : h.Ns mainGlobals mg) (c : SaysF fa fn ts tf dt xs subs subT e trs w h K) {x : Str} (j : Nat) (hj : fa[j]? = some (.free x)) : mg x = none := He.free_ok X G (c.d.fact j hj)
theorem defF (X : K.In h) (G : h.Ns mainGlobals mg) (c : SaysF fa fn ts tf dt xs subs subT e trs w h K) {x : Str} {st : Stmt} (i : Nat) (hi : fn[i]? = some (defOf x st)) (j : Nat) (hj : fa[j]? = some (.glo x)) :
    ∃ f fd, f = He.ga K x ∧ mg x = some (.ref f) ∧ FunD K x x (defArgs st) (defBody st) (defScope st) [] [] f fd := by
  obtain ⟨fd, F⟩ := c.d.def_ i hi
  exact ⟨_, fd, rfl, He.glo_ok X G (c.d.fact j hj), F⟩
theorem defFK (X : K.In h) (G : h.Ns mainGlobals mg) (c : SaysF fa fn ts tf dt xs subs subT e trs w h K) {x : Str} {st : Stmt} {kwd : List (Str × He.Dv)} (i : Nat) (hi : fn[i]? = some (defOfK x st kwd)) (j : Nat) (hj : fa[j]? = some (.glo x)) :
    ∃ f fd, f = He.ga K x ∧ mg x = some (.ref f) ∧ FunD K x x (defArgs st) (defBody st) (defScope st) [] (kwd.map fun q => (q.1, q.2.v K)) f fd := by
  obtain ⟨fd, F⟩ := c.d.def_ i hi
  exact ⟨_, fd, rfl, He.glo_ok X G (c.d.fact j hj), F⟩
theorem dataF (X : K.In h) (G : h.Ns mainGlobals mg) (c : SaysF fa fn ts tf dt xs subs subT e trs w h K) {x : Str} {d : D} (j : Nat) (hj : dt[j]? = some (x, d)) : GData K mg x d :=
  gdata_of X G (p := (x, d)) (List.all_eq_true.mp c.ex.1 _ (List.mem_of_getElem? hj))
theorem excFx (X : K.In h) (G : h.Ns mainGlobals mg) (c : SaysF fa fn ts tf dt xs subs subT e trs w h K) {x : Str} {names : List Str} {st : Stmt} (tb : List (Addr × Str)) (k : Nat) (hk : xs[k]? = some (x, names)) (i : Nat) (hi : fn[i]? = some (initOf x st)) (j : Nat) (hj : fa[j]? = some (.glo x)) : ExcF K mg (xcL K xs tb) x k names st := by
  obtain ⟨fd, F⟩ := c.d.def_ i hi
  exact excF_of c.ex.2.1 hk (gloF X G c j hj) F
theorem isF (X : K.In h) (G : h.Ns mainGlobals mg) (c : SaysF fa fn ts tf dt xs subs subT e trs w h K) {y : Str} {tab : List Bool} (tb : List (Addr × Str)) (k : Nat) (hk : subs[k]? = some (y, tab)) (j : Nat) (hj : fa[j]? = some (.glo y)) : IsK K mg (xcL K xs tb) y tab :=
  isK_own (List.all_eq_true.mp c.ex.2.2.1 _ (List.mem_of_getElem? hk)) (gloF X G c j hj)
theorem isTF (X : K.In h) (G : h.Ns mainGlobals mg) (c : SaysF fa fn ts tf dt xs subs subT e trs w h K) {y : Str} {T : String} {tab : List Bool} (tb : List (Addr × Str)) (k : Nat) (hk : subT[k]? = some (T, tab)) (j : Nat) (hj : fa[j]? = some (.free y)) (hb : bootBuiltins y = some (.type T)) : IsK K mg (xcL K xs tb) y tab :=
  isK_blt (List.all_eq_true.mp c.ex.2.2.2.1 _ (List.mem_of_getElem? hk)) (freeF X G c j hj) hb
theorem exmF (X : K.In h) (G : h.Ns mainGlobals mg) (c : SaysF fa fn ts tf dt xs subs subT e trs w h K) {y : Str} {tab : List Bool} (tb : List (Addr × Str)) (k : Nat) (hk : trs[k]? = some (y, tab)) (j : Nat) (hj : fa[j]? = some (.glo y)) : ExmK K mg (xcL K xs tb) y tab :=
  exmT_ok (List.all_eq_true.mp c.ex.2.2.2.2.2.2 _ (List.mem_of_getElem? hk)) (gloF X G c j hj)
theorem tabF (X : K.In h) (G : h.Ns mainGlobals mg) (c : SaysF fa fn ts tf dt xs subs subT e trs w h K) {x : Str} {kvs : List (Str × D)} (k : Nat) (hk : ts[k]? = some (x, kvs)) (j : Nat) (hj : fa[j]? = some (.glo x)) : GTab K w mg x kvs := by
  have ht : He.SaysT fa fn (tabsOf ts) w K := c.t
  obtain ⟨es, n, D⟩ := ht.tab k (t := (fun K => He.ga K x, kvs.map (·.1))) (by unfold tabsOf; rw [List.getElem?_map, hk]; rfl)
  exact ⟨He.ga K x, es, n, gloF X G c j hj, D, fun q hq => tabB_ok (t := (x, kvs)) (List.all_eq_true.mp c.tb _ (List.mem_of_getElem? hk)) hq⟩
end
/-! ### d[k], d a value -/
def lookD : List (D × D) → Str → Option D
  | (.str j, d) :: r, k => if j = k then some d else lookD r k
  | _, _ => none
def gIx2 : List D → Option D
  | [.dict kvs, .str k] => lookD kvs k
  | _ => none
theorem look_zip {K : PySem.W.Frag} {O : AS} {H : Hp} {k : Str} {d : D} : ∀ {ks : List Str} {xs : List V} {ds : List D}, RpAll K O H xs ds → xs.length = ks.length → lookD (dctD ks ds) k = some d → ∃ v, valV ((ks.map (Sum.inr : Str → Key)).zip xs) (Sum.inr k) = some v ∧ Rp K O H v d
  | [], _, _, _, _, h => by cases h
  | j :: ks, _, _, .nil, h, _ => by simp at h
  | j :: ks, x :: xs, e :: ds, .cons a b, h, hl => by
    have hl : (if j = k then some e else lookD (dctD ks ds) k) = some d := hl
    unfold valV
    rw [List.map_cons, List.zip_cons_cons, List.find?_cons]
    by_cases q : j = k
    · rw [if_pos q] at hl
      cases hl
      rw [decide_eq_true (show (Sum.inr j : Key) = Sum.inr k by rw [q])]
      exact ⟨x, rfl, a⟩
    · rw [if_neg q] at hl
      rw [decide_eq_false (show ¬ (Sum.inr j : Key) = Sum.inr k from fun z => q (Sum.inr.inj z))]
      exact look_zip b (by simpa using h) hl
section
variable {X : Cx} {G : Gx} {W : WX} {o i : Expr} {mo mi : ME} {pos : Pos}
theorem mIx2 (hu : X.A.units + 1 < cLine) (hK : G.K = X.K) (ho : PE X o (tM G W mo)) (hi : PE X i (tM G W mi)) (hs : NoSl i) : PE X (.Subscript o i pos) (tM G W (eBin gIx2 mo mi)) :=
  peOf (pe_dget hu ho hi hs) fun σ H Q q => (bin_read q).mono fun x H1 h => h.mono fun y H2 h => by
    obtain ⟨O, ds, d, ot, rs, e, qq⟩ := h
    obtain ⟨da, db, rfl, ra, rb⟩ := r2 rs
    unfold gIx2 at e
    split at e
    · rename_i kvs k hh
      cases hh
      cases rb
      obtain ⟨a, ks, xs, ds, rfl, rfl, dc, hl, rp⟩ := ra.dictInv
      obtain ⟨v, e1, e2⟩ := look_zip rp hl e
      refine ⟨a, v, rfl, ?_, qq v H2 (Same.refl H2) e2⟩
      rw [← e1]
      exact DGet.k (k := Sum.inr k) dc.2
    · cases e
end
/-! ### list(d), d a value -/
def gListD : List D → Option D
  | [.dict kvs] => (keysS kvs).map fun ks => .list (ks.map .str)
  | ds => gList ds
theorem zip_keys : ∀ (ks : List Str) (xs : List V), xs.length = ks.length → (((ks.map (Sum.inr : Str → Key)).zip xs).map fun kv => kV kv.1) = ks.map V.str
  | [], _, _ => by simp
  | k :: ks, [], h => by simp at h
  | k :: ks, x :: xs, h => by
    rw [List.map_cons, List.zip_cons_cons, List.map_cons, zip_keys ks xs (by simpa using h), List.map_cons]
    rfl
theorem cListD {X : Cx} (hc : X.calm = true) : CallD X (.type "list") gListD := by
  intro pins s σ H xs us Q I r h
  obtain ⟨O, ds, d, ot, rs, e, q⟩ := h
  unfold gListD at e
  split at e
  · rename_i kvs
    cases hk : keysS kvs with
    | none => rw [hk] at e; cases e
    | some ks0 =>
      rw [hk] at e
      cases e
      cases rs with
      | cons a1 b1 =>
        cases b1
        obtain ⟨a, ks, ys, ds, rfl, rfl, dc, hl, rp⟩ := a1.dictInv
        rw [keysS_of ks ds (by rw [← rp.length, hl])] at hk
        cases hk
        refine call_list_dK hc pins s σ H [.ref a] us Q I r ⟨a, _, rfl, dc.2, fun p hp => ?_⟩
        rw [zip_keys ks0 ys hl]
        refine q _ _ (same_upd hp) ?_
        exact Rp.newLst (rp_strs ks0) hp ot
  · exact cList pins s σ H xs us Q I r ⟨O, ds, d, ot, rs, e, q⟩
/-! ### dicts of one's own: written with constants, changed two at a time, given away -/
def vOf : D → Option V
  | .none => some .non
  | .bool b => some (.bl b)
  | .int i => some (.int i)
  | .str x => some (.str x)
  | _ => none
theorem vOf_rp {K : PySem.W.Frag} {O : AS} {H : Hp} {d : D} {v : V} (h : vOf d = some v) : Rp K O H v d := by
  cases d <;> cases h
  · exact .non
  · exact .bl _
  · exact .int _
  · exact .str _
def vsOf : List D → Option (List V)
  | [] => some []
  | d :: ds => (vOf d).bind fun v => (vsOf ds).map (v :: ·)
theorem vsOf_rp {K : PySem.W.Frag} {O : AS} {H : Hp} : ∀ {ds : List D} {vs : List V}, vsOf ds = some vs → RpAll K O H vs ds
  | [], _, h => by cases h; exact .nil
  | d :: ds, vs, h => by
    unfold vsOf at h
    cases e : vOf d with
    | none => rw [e] at h; cases h
    | some v =>
      rw [e, Option.bind_some] at h
      cases e2 : vsOf ds with
      | none => rw [e2] at h; cases h
      | some ws =>
        rw [e2] at h
        cases h
        exact .cons (vOf_rp e) (vsOf_rp e2)
def sOwnC (i : Nat) (ks : List Str) (ds : List D) : MS := fun ρ f => .nx (ρ.set i (.m ks ds)) f
theorem merge_new : ∀ (more kvs : List (Key × V)), (∀ q ∈ more, ∀ r ∈ kvs, r.1 ≠ q.1) → (more.map (·.1)).Nodup → mergeK kvs more = kvs ++ more
  | [], kvs, _, _ => by rw [List.append_nil]; rfl
  | q :: more, kvs, h, nd => by
    have e : putK kvs q.1 q.2 = kvs ++ [q] := by
      unfold putK
      rw [if_neg]
      intro z
      obtain ⟨r, hr, e⟩ := List.any_eq_true.mp z
      exact h q List.mem_cons_self r hr (of_decide_eq_true e)
    show mergeK (putK kvs q.1 q.2) more = _
    rw [List.map_cons, List.nodup_cons] at nd
    rw [e, merge_new more (kvs ++ [q]) (fun p hp r hr => ?_) nd.2, List.append_assoc]
    · rfl
    · rcases List.mem_append.mp hr with hr | hr
      · exact h p (List.mem_cons_of_mem _ hp) r hr
      · rw [List.mem_singleton.mp hr]
        exact fun z => nd.1 (z ▸ List.mem_map.mpr ⟨p, hp, rfl⟩)
theorem tPairs_const {σ : L2.St} {H : Hp} : ∀ (ks : List Str) (vs : List V) {Q : List (V × V) → Hp → Prop}, Q ((ks.map V.str).zip vs) H → tPairs ((ks.zip vs).map fun q => (tC (.str q.1), tC q.2)) σ H Q
  | [], _, Q, h => h
  | k :: ks, [], Q, h => h
  | k :: ks, v :: vs, Q, h => tPairs_const ks vs (Q := fun ps H3 => Q ((V.str k, v) :: ps) H3) h
theorem zip_str : ∀ (ks : List Str) (vs : List V), ((ks.map V.str).zip vs) = (((ks.map (Sum.inr : Str → Key)).zip vs).map fun kv => (kV kv.1, kv.2))
  | [], _ => by simp
  | k :: ks, [] => by simp
  | k :: ks, v :: vs => by
    rw [List.map_cons, List.map_cons, List.zip_cons_cons, List.zip_cons_cons, List.map_cons, zip_str ks vs]
    rfl
section
variable {X : Cx} {G : Gx} {W : WX}
theorem psOwnC {i : Nat} {x : Str} {pos pos' p : Pos} {keys : List (Option Expr)} {values : List Expr} {ks : List Str} {ds : List D} {vs : List V} (hN : X.N.Nodup) (hi : X.N[i]? = some x) (hx : Loc X.env.scope x) (hd : vsOf ds = some vs) (hl : vs.length = ks.length) (nd : ks.Nodup) (h15 : ks.length ≤ 15)
    (hp : PPs X p keys values ((ks.zip vs).map fun q => (tC (.str q.1), tC q.2))) (hall : keys.all (·.isSome) = true) (hkl : keys.length = values.length) (h0 : keys ≠ []) (hk15 : keys.length ≤ 15)
    (hs : swapsWith (.Dict keys values p) (some (.Name x pos')) pos.line X.env = pure false) (hf : X.fn x = true ∨ X.env.scope.names.lookup x = some .local) :
    PS X (.Assign [.Name x pos'] (.Dict keys values p) pos) (tMS G W (sOwnC i ks ds)) := psOf (ps_set hN hi hx (pe_disp hp hall hkl h0 hk15) hs hf) fun D σ H q => by
  obtain ⟨O, ρ, f, A, pp⟩ := q
  intro q hq
  refine tPairs_const ks vs ⟨upd_same .., (ks.map Sum.inr).zip vs, zip_str ks vs, by rw [List.length_zip, List.length_map]; omega, ?_⟩
  have e : mergeK [] ((ks.map (Sum.inr : Str → Key)).zip vs) = (ks.map Sum.inr).zip vs := by
    rw [merge_new _ [] (fun q _ r hr => nomatch hr)]
    · rfl
    · rw [List.map_fst_zip (by rw [List.length_map]; omega)]
      exact List.pairwise_map.mpr (List.Pairwise.imp (fun ne e => ne (Sum.inr.inj e)) nd)
  rw [e]
  have e2 : upd (upd H q (.dK [])) q (.dK ((ks.map (Sum.inr : Str → Key)).zip vs)) = upd H q (.dK ((ks.map Sum.inr).zip vs)) := by
    funext b
    unfold upd
    split <;> rfl
  rw [e2]
  obtain ⟨A', s'⟩ := A.putNew i (t := .m ks ds) notTbl_dK hq True.intro fun up n0 => ⟨q, vs, rfl, .inr rfl, n0, upd_same, vsOf_rp hd, hl⟩
  exact pp _ _ _ A' s'
/-- one store into a dict of one's own -/
def putS (i : Nat) (k : Str) (d : D) (ρ : List Sl) : Option (List Sl) := match ρ[i]? with
  | some (.m ks xs) => if ks.length < lim then some (ρ.set i (.m (putKs ks k) (putXs ks xs k d))) else none
  | _ => none
theorem put_step {O : AS} {σ : L2.St} {H : Hp} {ρ ρ' : List Sl} {f : FS} {i : Nat} {k : Str} {v : V} {d : D} (gok : GOk G) (A : Agr G O σ H ρ f) (r : Rp G.K O H v d) (h : putS i k d ρ = some ρ') : ∃ a H', σ[i]? = some (some (.ref a)) ∧ DPut H a (.str k) v H' ∧ Agr G O σ H' ρ' f ∧ StepO O H H' := by
  unfold putS at h
  cases e1 : ρ[i]? with
  | none => rw [e1] at h; cases h
  | some s =>
    rw [e1] at h
    cases s with
    | no => cases h
    | d x => cases h
    | fd => cases h
    | l xs => cases h
    | x => cases h
    | m ks xs =>
      dsimp only at h
      by_cases hl : ks.length < lim
      · rw [if_pos hl] at h
        cases h
        obtain ⟨a, us, ea, oa, na, Ha, ra, hz⟩ := A.slots i _ e1
        obtain ⟨A3, s3⟩ := A.putOld gok (o := .dK (((putKs ks k).map Sum.inr).zip (putXs ks us k v))) (t := .m (putKs ks k) (putXs ks xs k d)) e1 True.intro True.intro ea oa na Ha notTbl_dK (fun _ z => by cases z) notTbl_dK fun up => ⟨a, _, rfl, oa, na, upd_same, RpAll.step up _ _ (RpAll.putX r ra), putXs_len hz⟩
        have dp := DPut.k (k := Sum.inr k) (v := v) Ha (by rw [List.length_zip, List.length_map, hz, Nat.min_self]; exact Nat.lt_of_lt_of_le hl lim_line)
        rw [put_zip ks us k v hz] at dp
        exact ⟨a, _, ea, dp, A3, s3⟩
      · rw [if_neg hl] at h; cases h
def sPut2 (i : Nat) (k1 k2 : Str) (ms : MA) : MS := fun ρ f => sBind (ms ρ f) fun ds f1 => match ds with
  | [d1, d2] => (match (putS i k1 d1 ρ).bind (putS i k2 d2) with
    | some ρ' => .nx ρ' f1
    | none => .bad)
  | _ => .bad
/-- x[k], x[l] = (a, b) -/
theorem psPut2 {i : Nat} {x k1 k2 : Str} {a b : Expr} {ms : MA} {j1 j2 : Nat} {p1 p2 q1 q2 c1 c2 pt pt2 pos : Pos} {kt kt2} (gok : GOk G) (hK : G.K = X.K) (hc : X.calm = true) (hu : X.A.units + 1 < cLine) (h1 : PE X (.Name x p1) (tVar i)) (h2 : PE X (.Name x p2) (tVar i)) (ha : PA X [a, b] (tMA G W ms))
    (hw : swappedStores [.Tuple [.Subscript (.Name x p1) (.Constant (.str k1) j1 c1) q1, .Subscript (.Name x p2) (.Constant (.str k2) j2 c2) q2] kt pt] (.Tuple [a, b] kt2 pt2) X.env = pure none)
    (hs : swapsWithSole [.Tuple [.Subscript (.Name x p1) (.Constant (.str k1) j1 c1) q1, .Subscript (.Name x p2) (.Constant (.str k2) j2 c2) q2] kt pt] (.Tuple [a, b] kt2 pt2) pos.line X.env = pure false)
    (hm : (assignEach [.Tuple [.Subscript (.Name x p1) (.Constant (.str k1) j1 c1) q1, .Subscript (.Name x p2) (.Constant (.str k2) j2 c2) q2] kt pt] X.env).map (·.2) = [assign (.Tuple [.Subscript (.Name x p1) (.Constant (.str k1) j1 c1) q1, .Subscript (.Name x p2) (.Constant (.str k2) j2 c2) q2] kt pt) X.env])
    (hn : (assignEach [.Subscript (.Name x p1) (.Constant (.str k1) j1 c1) q1, .Subscript (.Name x p2) (.Constant (.str k2) j2 c2) q2] X.env).length = 2)
    (hst : (assignEach [.Subscript (.Name x p1) (.Constant (.str k1) j1 c1) q1, .Subscript (.Name x p2) (.Constant (.str k2) j2 c2) q2] X.env).findIdx? (·.1) = none) :
    PS X (.Assign [.Tuple [.Subscript (.Name x p1) (.Constant (.str k1) j1 c1) q1, .Subscript (.Name x p2) (.Constant (.str k2) j2 c2) q2] kt pt] (.Tuple [a, b] kt2 pt2) pos) (tMS G W (sPut2 i k1 k2 ms)) :=
  psOf (ps_asg (mTup ha) (pg_tup hc (pgs_cons (pg_sub h1 pe_str (set_dict hu)) (pgs_cons (pg_sub h2 pe_str (set_dict hu)) pgs_nil)) hn hst) hs hw hm) fun D σ H q => by
    obtain ⟨O, ρ, f, A, pp⟩ := q
    refine ⟨O, ρ, f, A, ?_⟩
    unfold sPut2 at pp
    unfold eTup
    cases e : ms ρ f with
    | bad => rw [e] at pp; exact pp.elim
    | exc z f1 => rw [e] at pp; exact fun cls d H' A' s' xa => pp O σ ρ cls d H' A' (A.stepO s') xa
    | ok ds f1 =>
      rw [e] at pp
      dsimp only [sBind] at pp
      dsimp only [R.bind_ok]
      match ds, pp with
      | [d1, d2], pp =>
        dsimp only at pp
        rw [if_pos (by show 2 ≤ lim; decide)]
        intro v H1 A1 o1 r
        cases r with
        | tup ta tb =>
          rename_i p0 xs
          cases tb with
          | cons r1 t1 =>
            cases t1 with
            | cons r2 t2 =>
              cases t2
              refine ⟨p0, _, rfl, by rw [← hK]; exact ta.sq, rfl, ?_⟩
              cases e1 : putS i k1 d1 ρ with
              | none => rw [e1] at pp; exact pp.elim
              | some ρ1 =>
                rw [e1] at pp
                cases e2 : putS i k2 d2 ρ1 with
                | none => rw [Option.bind_some, e2] at pp; exact pp.elim
                | some ρ2 =>
                  rw [Option.bind_some, e2] at pp
                  obtain ⟨a1, H2, s1, p1, A2, st2⟩ := put_step gok A1 r1 e1
                  obtain ⟨a2, H3, s2, p2, A3, st3⟩ := put_step gok A2 (Rp.step st2 _ _ r2) e2
                  refine ⟨_, _, rfl, .ref a1, s1, ?_⟩
                  refine ⟨a1, H2, rfl, p1, ?_⟩
                  refine ⟨_, _, rfl, .ref a2, s2, ?_⟩
                  refine ⟨a2, H3, rfl, p2, rfl, ?_⟩
                  exact pp O σ H3 A3 (((A.stepO o1).trans st2).trans st3)
      | [], pp => exact pp.elim
      | [_], pp => exact pp.elim
      | _ :: _ :: _ :: _, pp => exact pp.elim
/-! a dict of one's own given away -/
def frzM (i : Nat) (ρ : List Sl) : List Sl := match ρ[i]? with
  | some (.m ks xs) => ρ.set i (.d (.dict (dctD ks xs)))
  | _ => ρ
theorem Agr.frzM {O : AS} {σ : L2.St} {H : Hp} {ρ : List Sl} {f : FS} (gok : GOk G) (A : Agr G O σ H ρ f) (i : Nat) : ∃ O', (∀ a, O' a → O a) ∧ Agr G O' σ H (Mir.frzM i ρ) f := by
  unfold Mir.frzM
  cases e : ρ[i]? with
  | none => exact ⟨O, fun _ h => h, A⟩
  | some s =>
    cases s with
    | no => exact ⟨O, fun _ h => h, A⟩
    | d x => exact ⟨O, fun _ h => h, A⟩
    | fd => exact ⟨O, fun _ h => h, A⟩
    | l xs => exact ⟨O, fun _ h => h, A⟩
    | x => exact ⟨O, fun _ h => h, A⟩
    | m ks0 xs0 =>
      obtain ⟨p, us, ep, oa, na, Ha, ra, hz0⟩ := A.slots i _ e
      have less : ∀ a, (O a ∧ a ≠ p) → O a := fun a h => h.1
      have hi : i < ρ.length := (List.getElem?_eq_some_iff.mp e).1
      refine ⟨fun a => O a ∧ a ≠ p, less, A.grow, fun a h => ⟨A.o0 a h, fun z => na (z ▸ h)⟩, fun a h => A.onew a h.1, fun a h => A.ot a h.1, ?_, by simp [A.len], fun j s es => ?_, fun j k ys zs a e1 e2 w1 w2 s1 s2 => ?_, A.tabs⟩
      · have q := A.feed
        revert q
        cases hfa : G.fa with
        | none => intro _; trivial
        | some a =>
          intro q
          obtain ⟨oa', ec, lc⟩ := q
          exact ⟨⟨oa', fun z => na (gok.fo p (by rw [hfa, z]))⟩, ec, fun z => lc.1 z.1, lc.2⟩
      · by_cases hj : i = j
        · subst hj
          rw [List.getElem?_set_self hi] at es
          cases es
          exact ⟨.ref p, ep, .dct ⟨fun z => z.2 rfl, Ha⟩ hz0 (RpAll.less less _ _ ra)⟩
        · rw [List.getElem?_set_ne hj] at es
          have q := A.slots j s es
          cases s with
          | no => trivial
          | d x => obtain ⟨v, e1, r⟩ := q; exact ⟨v, e1, Rp.less less _ _ r⟩
          | l xs' =>
            obtain ⟨b, ws, e1, ob, nb, eb, rb⟩ := q
            exact ⟨b, ws, e1, ⟨ob, fun z => hj (A.inj i j _ _ p e es True.intro True.intro ep (by rw [e1, z]))⟩, nb, eb, RpAll.less less _ _ rb⟩
          | m ks xs' =>
            obtain ⟨b, ws, e1, ob, nb, eb, rb, hz⟩ := q
            exact ⟨b, ws, e1, ⟨ob, fun z => hj (A.inj i j _ _ p e es True.intro True.intro ep (by rw [e1, z]))⟩, nb, eb, RpAll.less less _ _ rb, hz⟩
          | fd => exact q
          | x => exact q
      · have get : ∀ m (ws : Sl), (ρ.set i (.d (.dict (dctD ks0 xs0))))[m]? = some ws → ws.own → ρ[m]? = some ws := fun m ws em w => by
          by_cases hm : i = m
          · subst hm
            rw [List.getElem?_set_self hi] at em; cases em; exact w.elim
          · rw [List.getElem?_set_ne hm] at em; exact em
        exact A.inj j k _ _ a (get j _ e1 w1) (get k _ e2 w2) w1 w2 s1 s2
def sFrzM (i : Nat) (m : MS) : MS := fun ρ f => m (frzM i ρ) f
theorem psFrzM (gok : GOk G) (i : Nat) {st : Stmt} {m : MS} (h : PS X st (tMS G W m)) : PS X st (tMS G W (sFrzM i m)) := psOf h fun D σ H q => by
  obtain ⟨O, ρ, f, A, pp⟩ := q
  obtain ⟨O', less, A'⟩ := A.frzM gok i
  exact ⟨O', _, f, A', PostS.later pp fun b o n t e => ⟨e, fun z => n (less b z)⟩⟩
end
end Mir

set_option Elab.async false
set_option linter.all false
set_option maxRecDepth 100000
set_option maxHeartbeats 4000000
namespace Mir
open PySem PySem.Spec PyProof.Rows L2
/-! ### zip(a tuple, a list) -/
def ItzM (K : PySem.W.Frag) (a b : Addr) : It :=
  ⟨fun i H => ∃ (xs ys : List V) (x y : V), SqT K H a xs ∧ SqL K H b ys ∧ xs[i]? = some x ∧ ys[i]? = some y,
    fun i H v H' => ∃ T x y, v = .ref T ∧ H T = none ∧ H' = upd H T (.tup [x, y]) ∧ (∀ xs, SqT K H a xs → xs[i]? = some x) ∧ ∀ ys, SqL K H b ys → ys[i]? = some y,
    fun i H => ∃ xs ys : List V, SqT K H a xs ∧ SqL K H b ys ∧ i = min xs.length ys.length⟩
theorem turn_zipM {P : Program} {w : World} {K : PySem.W.Frag} {elts : List Expr} {kk : Nat} {tpos : Pos} {a b z TI TO i1 i2 : Addr} (D : ZipSep2 z TI TO i1 i2 [i1, a] [i2, b]) (na : a ≠ i1) (nb : b ≠ i2) :
    Turn P w K (.Tuple elts kk tpos) (ItzM K a b) [z, TI, TO, i1, i2] z (fun i h => IsZip h z TI TO .none ∧ IsTupOf2 h TI (.ref i1) (.ref i2) ∧ (∃ x y, IsTupOf2 h TO x y) ∧ h.IsTupleIter i1 a i ∧ h.IsListIter i2 b i) where
  mem := by simp
  obj := fun i h st c hc => by
    obtain ⟨hz, hTI, ⟨x, y, hTO⟩, ⟨o1, e1, _, d1⟩, ⟨o2, e2, _, d2⟩⟩ := st
    have e' : c = z ∨ c = TI ∨ c = TO ∨ c = i1 ∨ c = i2 := by simpa using hc
    rcases e' with q | q | q | q | q
    · rw [q]; exact ⟨_, hz, fun v q => nomatch q⟩
    · rw [q]; exact ⟨_, hTI, fun v q => nomatch q⟩
    · rw [q]; exact ⟨_, hTO, fun v q => nomatch q⟩
    · rw [q]; exact ⟨o1, e1, fun v q => by rw [d1] at q; cases q⟩
    · rw [q]; exact ⟨o2, e2, fun v q => by rw [d2] at q; cases q⟩
  keep := fun i h h' st k => by
    obtain ⟨hz, hTI, ⟨x, y, hTO⟩, h1, h2⟩ := st
    exact ⟨k z (by simp) _ hz, k TI (by simp) _ hTI, ⟨x, y, k TO (by simp) _ hTO⟩, h1.at fun o q => k i1 (by simp) o q, h2.at fun o q => k i2 (by simp) o q⟩
  item := by
    intro X hP hw hK hc i pins s σ H E I hf st hg
    subst hP hw hK
    obtain ⟨hz, hTI, ⟨x0, y0, hTO⟩, h1, h2⟩ := st
    obtain ⟨xs, ys, x, y, hqx, hqy, hx, hy⟩ := hg
    obtain ⟨its, rv, p, _⟩ := I.tuple hqx
    obtain ⟨its2, rv2, p2, _⟩ := I.list hqy
    obtain ⟨u, hu, ru⟩ := rv.get hx
    obtain ⟨u2, hu2, ru2⟩ := rv2.get hy
    have hzl : z < s.heap.objs.size := Heap.lt_size hz
    have p : s.heap.IsTuple a its.toArray := p
    refine wpAny_pyNext_zipD2_item D (Draws.tuple (A := X.A.in1) (I.ok.hd hc) i1 a na its.toArray) (Draws.list (A := X.A.in1) (I.ok.hd hc) i2 b nb its2.toArray) hz hTI hTO ⟨h1, p⟩ ⟨h2, p2.isList⟩ (by have := (List.getElem?_eq_some_iff.mp hu).1; simpa using this) (by have := (List.getElem?_eq_some_iff.mp hu2).1; simpa using this) fun x1 x2 h' tk q1 q2 z' TO' st1 st2 hT hsz hk => ?_
    have ex : x1 = u := by
      have z : its[i]? = some x1 := by simpa using q1
      rw [hu] at z
      exact (Option.some.inj z).symm
    have ey : x2 = u2 := by
      have z : its2[i]? = some x2 := by simpa using q2
      rw [hu2] at z
      exact (Option.some.inj z).symm
    subst ex ey
    refine ⟨_, rfl, wpAny_letOwnedTupleGo_zip (s := { s with heap := h', toks := tk }) z' fun h'' z'' sb => ?_⟩
    have hT2 : h''.get? s.heap.objs.size = some { cls := .type "tuple", data := .seq #[x1, x2] } := (sb.2 _ (Nat.ne_of_gt hzl)).trans hT
    have new : ObjOk X.prog X.w (upd H s.heap.objs.size (.tup [x, y])) h'' s.heap.objs.size (.tup [x, y]) :=
      ⟨by show 2 ≤ sizeLine; decide, [x1, x2], .cons ru (.cons ru2 .nil), ⟨_, hT2, rfl, _, rfl⟩⟩
    have I1 : Inv X pins σ (upd H s.heap.objs.size (.tup [x, y])) { s with heap := h'', toks := tk } :=
      I.turnedNew (ch := [z, TI, TO, i1, i2]) (fun c o hb q => (sb.2 c (fun q' => hb (by simp [q']))).trans (hk c o (fun q' => hb (by simp [q'])) (fun q' => hb (by simp [q'])) (fun q' => hb (by simp [q'])) (fun q' => hb (by simp [q'])) q)) hf (Nat.le_refl _) new
    refine ⟨.ref s.heap.objs.size, _, I1, rfl, ⟨_, x, y, rfl, I.hok.fresh (Nat.le_refl _), rfl, fun l hl => by rw [I.tuple_inj hl hqx]; exact hx, fun l hl => by rw [I.list_inj hl hqy]; exact hy⟩, ⟨z'', ?_, ⟨x1, x2, ?_⟩, ?_, ?_⟩, fun c hcm => ?_⟩
    · exact (sb.2 _ D.TIz).trans (hk _ _ D.TIz D.TITO D.TIi1 D.TIi2 hTI)
    · exact (sb.2 _ D.TOz).trans TO'
    · exact st1.1.at fun o q => (sb.2 _ (Ne.symm D.zi1)).trans q
    · exact st2.1.at fun o q => (sb.2 _ (Ne.symm D.zi2)).trans q
    · have hlt : c < s.heap.objs.size := by
        have e' : c = z ∨ c = TI ∨ c = TO ∨ c = i1 ∨ c = i2 := by simpa using hcm
        rcases e' with q | q | q | q | q
        · rw [q]; exact hzl
        · rw [q]; exact Heap.lt_size hTI
        · rw [q]; exact Heap.lt_size hTO
        · rw [q]; obtain ⟨_, e1, _⟩ := h1; exact Heap.lt_size e1
        · rw [q]; obtain ⟨_, e2, _⟩ := h2; exact Heap.lt_size e2
      rw [upd_ne (Nat.ne_of_lt hlt)]
      exact (hf c hcm).1
  done := by
    intro X hP hw hK hc i pins s σ H E I hf st hg
    subst hP hw hK
    obtain ⟨hz, hTI, ⟨x0, y0, hTO⟩, h1, h2⟩ := st
    obtain ⟨xs, ys, hqx, hqy, hend⟩ := hg
    obtain ⟨its, rv, p, _⟩ := I.tuple hqx
    obtain ⟨its2, rv2, p2, _⟩ := I.list hqy
    have l1 := rv.length
    have l2 := rv2.length
    have p : s.heap.IsTuple a its.toArray := p
    refine wpAny_pyNext_zipD2_end (i := i) D (Draws.tuple (A := X.A.in1) (I.ok.hd hc) i1 a na its.toArray) (Draws.list (A := X.A.in1) (I.ok.hd hc) i2 b nb its2.toArray) hz hTI hTO ⟨h1, p⟩ ⟨h2, p2.isList⟩ (by simp; omega) (by simp; omega) (by simp; omega) fun h' tk hk => ⟨rfl, I.turnedL (t' := tk) (ch := [z, TI, TO, i1, i2]) (fun c o hb q =>
      hk c o (fun q' => hb (by simp [q'])) (fun q' => hb (by simp [q'])) (fun q' => hb (by simp [q'])) (fun q' => hb (by simp [q'])) q) hf⟩
  self := fun A i s Q E st h => wpAny_pyIter_zip st.1 h
def iZipM (K : PySem.W.Frag) (ta : TA) : TI := fun σ H R => ta σ H fun vs H1 => ∃ a b xs ys, vs = [.ref a, .ref b] ∧ SqT K H1 a xs ∧ SqL K H1 b ys ∧ R (ItzM K a b) H1
theorem pi_zipM {X : Cx} {e e2 : Expr} {ta : TA} {p pos tpos : Pos} {elts : List Expr} {kk : Nat} (hg : Gl X "zip") (hm : X.mg "zip" = none) (ha : PA X [e, e2] ta)
    (hs : starEach [e, e2] X.env = (false, eval e X.env) :: starEach [e2] X.env := by rfl) (hpl : (backTo pos (starEach [e2] X.env)).any (·.1) = false := by rfl) :
    PI X (.Tuple elts kk tpos) (.Call (.Name "zip" p) [e, e2] [] pos) (iZipM X.K ta) := by
  refine ⟨fun pins s σ H R I h => ?_⟩
  refine Call_ (ld_blt I hg hm PyProof.Rows.boot_zip (PyProof.Rows.callWith_type1 (thn (ha.run pos pins s σ H _ I h) fun us s1 ⟨vs, H1, I1, r1, q1⟩ => ?_) hs hpl))
  obtain ⟨a, b, xs, ys, ex, hqx, hqy, q⟩ := q1
  subst ex
  cases r1 with
  | cons r rr =>
    cases rr with
    | cons r' rr =>
      cases rr
      cases r
      cases r'
      have fresh5 : ∀ c, c ∈ [s1.heap.objs.size + 4, s1.heap.objs.size + 2, s1.heap.objs.size + 3, s1.heap.objs.size, s1.heap.objs.size + 1] → FpOk X pins H1 c := fun c hcm => by
        have e' : c = s1.heap.objs.size + 4 ∨ c = s1.heap.objs.size + 2 ∨ c = s1.heap.objs.size + 3 ∨ c = s1.heap.objs.size ∨ c = s1.heap.objs.size + 1 := by simpa using hcm
        have hle : s1.heap.objs.size ≤ c := by
          rcases e' with z | z | z | z | z
          · rw [z]; exact Nat.le_add_right _ _
          · rw [z]; exact Nat.le_add_right _ _
          · rw [z]; exact Nat.le_add_right _ _
          · rw [z]; exact Nat.le_refl _
          · rw [z]; exact Nat.le_add_right _ _
        exact I1.fpOk hle (I1.hok.fresh hle)
      obtain ⟨its, rv, p1, _⟩ := I1.tuple hqx
      obtain ⟨its2, rv2, p2, _⟩ := I1.list hqy
      obtain ⟨o1, ho1, _⟩ := id p1
      have la : a < s1.heap.objs.size := Heap.lt_size ho1
      have lb : b < s1.heap.objs.size := p2.lt
      refine zip_begins2 (begins_tuple a its.toArray) (begins_list b its2.toArray) (show s1.heap.IsTuple a its.toArray from p1) p2.isList fun h' hz hTI hTO h1 h2 hsz hk => wpAny_pyIter_zip hz ?_
      have I2 : Inv X pins σ H1 { s1 with heap := h' } := I1.kept (t' := s1.toks) hk
      exact ⟨s1.heap.objs.size + 4, [s1.heap.objs.size + 4, s1.heap.objs.size + 2, s1.heap.objs.size + 3, s1.heap.objs.size, s1.heap.objs.size + 1], _, _, H1, rfl, I2, turn_zipM (zip_sep2 (fun c hc => by rw [List.mem_singleton.mp hc]; exact la) (fun c hc => by rw [List.mem_singleton.mp hc]; exact lb)) (Nat.ne_of_lt la) (Nat.ne_of_lt (Nat.lt_succ_of_lt lb)), ⟨hz, hTI, ⟨_, _, hTO⟩, ⟨_, h1, rfl, rfl⟩, ⟨_, h2, rfl, rfl⟩⟩, fresh5, q⟩
theorem walkD_zipM {K : PySem.W.Frag} {O : AS} {H : Hp} {a b : Addr} {vs ws : List V} {ds es : List D} (l : TupO K O H a vs) (r : RpAll K O H vs ds) (l2 : LstO K O H b ws) (r2 : RpAll K O H ws es) : WalkD K (ItzM K a b) (zipD ds es) O H where
  go := fun i O' H' hi s => by
    have hi' : i < ds.length ∧ i < es.length := by simpa [zipD, Nat.lt_min] using hi
    have h1 : i < vs.length := by rw [r.length]; exact hi'.1
    have h2 : i < ws.length := by rw [r2.length]; exact hi'.2
    exact ⟨vs, ws, vs[i], ws[i], (l.step s).sq, (l2.step s).sq, by simp [h1], by simp [h2]⟩
  stop := fun O' H' s => ⟨vs, ws, (l.step s).sq, (l2.step s).sq, by rw [r.length, r2.length]; simp only [zipD, List.length_map, List.length_zip]⟩
  yld := fun i O' H' x H'' hi s ot y => by
    obtain ⟨T, p, q, rfl, hT, rfl, h1, h2⟩ := y
    obtain ⟨d, e, rd⟩ := (RpAll.step s _ _ r).getV (h1 vs (l.step s).sq)
    obtain ⟨d2, e2, rd2⟩ := (RpAll.step s _ _ r2).getV (h2 ws (l2.step s).sq)
    exact ⟨same_upd hT, .tuple [d, d2], zipD_get e e2, Rp.newTup (.cons rd (.cons rd2 .nil)) hT ot⟩
def zipTL : List D → Option (List D)
  | [.tuple xs, .list ys] => some (zipD xs ys)
  | _ => none
theorem mZipM {X : Cx} {G : Gx} {W : WX} {a b : Expr} {ms : MA} {p pos tpos : Pos} {elts : List Expr} {kk : Nat} (hK : G.K = X.K) (hg : Gl X "zip") (hm : X.mg "zip" = none) (ha : PA X [a, b] (tMA G W ms)) (hs : starEach [a, b] X.env = (false, eval a X.env) :: starEach [b] X.env)
    (hpl : (backTo pos (starEach [b] X.env)).any (·.1) = false) :
    PI X (.Tuple elts kk tpos) (.Call (.Name "zip" p) [a, b] [] pos) (tMI G W (iArgs zipTL ms)) :=
  piOf (pi_zipM hg hm ha hs hpl) fun σ H R q => (tMA_bind (g := fun ds _ f1 => ofO (zipTL ds) f1) q).mono fun vs H1 h => by
    obtain ⟨O, ρ, f, ds, A, r, p⟩ := h
    unfold zipTL at p
    split at p
    · cases r with
      | cons a b =>
        cases b with
        | cons a2 b2 =>
          cases b2
          cases a with
          | tup l rs =>
            cases a2 with
            | lst l2 rs2 => exact ⟨_, _, _, _, rfl, by rw [← hK]; exact l.sq, by rw [← hK]; exact l2.sq, by rw [← hK]; exact p _ H1 A (.refl _ _) (walkD_zipM l rs l2 rs2)⟩
    · exact p.elim
/-! ### three names at once -/
def sPar3 (i j l : Nat) (ms : MA) : MS := fun ρ f => sBind (ms ρ f) fun ds f1 => match ds with
  | [d, e, g] => .nx (((ρ.set i (.d d)).set j (.d e)).set l (.d g)) f1
  | _ => .bad
theorem psPar3 {X : Cx} {G : Gx} {W : WX} {i j l : Nat} {x y z : Str} {a b c : Expr} {ms : MA} {px py pz pt pos : Pos} {kt k2 pt2} (hc : X.calm = true) (hN : X.N.Nodup) (hi : X.N[i]? = some x) (hj : X.N[j]? = some y) (hl : X.N[l]? = some z) (hij : i ≠ j) (hil : i ≠ l) (hjl : j ≠ l)
    (hx : X.env.scope.names.lookup x = some .local) (hy : X.env.scope.names.lookup y = some .local) (hz : X.env.scope.names.lookup z = some .local) (ha : PA X [a, b, c] (tMA G W ms))
    (hw : swappedStores [.Tuple [.Name x px, .Name y py, .Name z pz] kt pt] (.Tuple [a, b, c] k2 pt2) X.env = pure (some [x, y, z]))
    (hs : swapsWithSole [.Tuple [.Name x px, .Name y py, .Name z pz] kt pt] (.Tuple [a, b, c] k2 pt2) pos.line X.env = pure false) :
    PS X (.Assign [.Tuple [.Name x px, .Name y py, .Name z pz] kt pt] (.Tuple [a, b, c] k2 pt2) pos) (tMS G W (sPar3 i j l ms)) := psOf (ps_par3 hc hN hi hj hl hij hil hjl hx hy hz ha hw hs) fun D σ H q => by
  refine (sBind_read (rel := RpAll G.K) (k := fun ds ρ f1 => match ds with | [d, e, g] => SR.nx (((ρ.set i (.d d)).set j (.d e)).set l (.d g)) f1 | _ => SR.bad) q).mono fun vs H1 h => ?_
  obtain ⟨O, ρ, f, ds, A, r, p⟩ := h
  cases r with
  | nil => exact p.elim
  | cons r1 r =>
    cases r with
    | nil => exact p.elim
    | cons r2 r =>
      cases r with
      | nil => exact p.elim
      | cons r3 r =>
        cases r with
        | nil => exact ⟨_, _, _, rfl, p O _ H1 (((A.setD i r1).setD j r2).setD l r3) (.refl _ _)⟩
        | cons _ _ => exact p.elim
/-! ### the head with tables: a display asks the world one question -/
def wf (b : Bool) (dr : PySem.Source → Nat → Nat) (P : PySem.Params) : World := ⟨dr, { P with followText := fun x => if x = "special-get-raises" then b else P.followText x }⟩
theorem wf_eq {w : World} {b : Bool} (h : w.params.followText "special-get-raises" = b) : w = wf b w.draws w.params := by
  obtain ⟨dr, P⟩ := w
  unfold wf
  congr 1
  obtain ⟨⟩ := P
  congr 1
  funext x
  split
  · rename_i e
    rw [e]
    exact h
  · rfl
theorem of_wf {Pr : World → Prop} (ht : ∀ dr P, Pr (wf true dr P)) (hf : ∀ dr P, Pr (wf false dr P)) (w : World) : Pr w := by
  cases hb : w.params.followText "special-get-raises" with
  | true => rw [wf_eq hb]; exact ht _ _
  | false => rw [wf_eq hb]; exact hf _ _
end Mir

set_option Elab.async false
set_option linter.all false
set_option maxRecDepth 100000
set_option maxHeartbeats 4000000
namespace Mir
open PySem PySem.Spec PyProof.Rows L2
/-! ### x[e], x a list of one's own: what it holds, whatever it is -/
def eOwnIx (i : Nat) (m : ME) : ME := fun ρ f => match ρ[i]? with
  | some (.l xs) => (match m ρ f with
    | .ok (.int k) f1 => ofO (atI xs k) f1
    | _ => .bad)
  | _ => .bad
section
variable {X : Cx} {G : Gx} {W : WX} {b : Expr} {mb : ME} {p pos : Pos} {x : Str}
theorem mOwnIx (gok : GOk G) (hK : G.K = X.K) (i : Nat) (hv : PE X (.Name x p) (tVar i)) (hb : PE X b (tM G W mb)) (hs : PlainIx b) : PE X (.Subscript (.Name x p) b pos) (tM G W (eOwnIx i mb)) :=
  peOf (pe_ix ix_list hv hb hs) fun σ H Q q => by
    obtain ⟨O, ρ, f, A, pp⟩ := q
    unfold eOwnIx at pp
    cases e1 : ρ[i]? with
    | none => rw [e1] at pp; exact pp.elim
    | some s =>
      rw [e1] at pp
      cases s with
      | no => exact pp.elim
      | d x => exact pp.elim
      | fd => exact pp.elim
      | m ks xs => exact pp.elim
      | x => exact pp.elim
      | l xs =>
        dsimp only at pp
        obtain ⟨a, us, ea, oa, na, Ha, ra⟩ := A.slots i _ e1
        have nf : some a ≠ G.fa := fun z => na (gok.fo a z.symm)
        refine ⟨.ref a, ea, O, ρ, f, A, ?_⟩
        cases e2 : mb ρ f with
        | bad => rw [e2] at pp; exact pp.elim
        | exc x f1 => rw [e2] at pp; exact pp.elim
        | ok d f1 =>
          rw [e2] at pp
          cases d with
          | int k =>
            dsimp only at pp
            cases e3 : atI xs k with
            | none => rw [e3] at pp; exact pp.elim
            | some d' =>
              rw [e3] at pp
              intro y H1 A1 o1 ry
              cases ry
              have Ha1 : H1 a = some (.lst us) := o1 a _ nf notTbl_lst Ha
              have ra1 := RpAll.step (A.stepO o1) _ _ ra
              obtain ⟨w, h1, h2⟩ := atI_map ra1 e3
              rw [← hK]
              exact ⟨a, us, k, w, rfl, rfl, .inl (.inl Ha1), h1, pp w H1 A1 o1 h2⟩
          | _ => exact pp.elim
end
/-! ### a tuple times a number -/
def gMul3 : List D → Option D
  | [.tuple xs, .int k] => if !xs.isEmpty && decide (2 ≤ k) && decide (k ≤ 1000) && decide (xs.length ≤ 1000) then some (.tuple (List.replicate k.toNat xs).flatten) else none
  | ds => gMul2 ds
theorem oMul3 {X : Cx} : OpD X (binaryOp .Mult) gMul3 := by
  intro pins s σ H x y v u Q I rx ry h
  obtain ⟨O, ds, d, ot, rs, e, q⟩ := h
  unfold gMul3 at e
  split at e
  · rename_i xs k
    split at e
    · rename_i hk
      cases e
      simp only [Bool.and_eq_true, decide_eq_true_eq, Bool.not_eq_true'] at hk
      obtain ⟨⟨⟨hne, h2⟩, h3⟩, h4⟩ := hk
      obtain ⟨da, db, hh, ra, rb⟩ := r2 rs
      cases hh
      cases rb
      cases ra with
      | tup a1 b1 =>
        refine op_repT pins s σ H _ _ v u Q I rx ry ⟨_, _, _, rfl, rfl, a1.sq, ?_, h2, h3, by rw [b1.length]; exact h4, fun p hp => q _ _ (same_upd hp) (Rp.newTup (rp_flat b1 _) hp ot)⟩
        intro e
        rw [e] at b1
        cases b1
        simp at hne
    · cases e
  · exact oMul2 pins s σ H x y v u Q I rx ry ⟨O, _, d, ot, rs, e, q⟩
end Mir

set_option Elab.async false
set_option linter.all false
set_option maxRecDepth 100000
set_option maxHeartbeats 4000000
namespace Mir
open PySem PySem.Spec PyProof.Rows L2
/-! ### the head's run, told piece by piece: each piece is one run of the kernel -/
theorem map_and {α β γ : Type} {o : Option α} {f : α → β} {g : α → γ} {b : β} {c : γ} (h1 : o.map f = some b) (h2 : o.map g = some c) : o.map (fun s => (f s, g s)) = some (b, c) := by
  cases o with
  | none => cases h1
  | some x =>
    injection h1 with h1
    injection h2 with h2
    rw [Option.map_some, h1, h2]
theorem map_and3 {α β γ δ : Type} {o : Option α} {f : α → β} {g : α → γ} {h : α → δ} {b : β} {c : γ} {d : δ} (h1 : o.map (fun s => (f s, g s)) = some (b, c)) (h2 : o.map h = some d) : o.map (fun s => (f s, g s, h s)) = some (b, c, d) := by
  cases o with
  | none => cases h1
  | some x =>
    injection h1 with h1
    injection h1 with h1 h3
    injection h2 with h2
    rw [Option.map_some, h1, h2, h3]
end Mir

set_option Elab.async false
set_option linter.all false
set_option maxRecDepth 100000
set_option maxHeartbeats 4000000
namespace Mir
open PySem PySem.Spec PyProof.Rows L2
/-! ### an exception that leaves a list comprehension -/
abbrev blkX (X : Cx) (s : Shared) (H : Hp) (scope : Scope) (cenv : Env) (fp : List Addr) (xe : Value → Shared → Prop) : Cx := { X.blk s H scope cenv fp with xe := xe }
section
variable {X : Cx} {s0 s : Shared} {H0 H : Hp} {scope : Scope} {ce : Env} {fp : List Addr} {xe : Value → Shared → Prop} {pins : List (Addr × Obj)} {σ : L2.St}
theorem blk_okX (ok : (X.blk s0 H0 scope ce fp).Ok) : (blkX X s0 H0 scope ce fp xe).Ok := ⟨ok.mod, ok.kind, ok.glob, ok.blt, ok.above, ok.inj, ok.has, ok.cab, ok.hd, ok.frames, ok.stk, ok.exf, ok.bs, ok.bsz, ok.noex, ok.exfs, ok.funs, ok.frf⟩
theorem blk_okB (ok : (blkX X s0 H0 scope ce fp xe).Ok) : (X.blk s0 H0 scope ce fp).Ok := ⟨ok.mod, ok.kind, ok.glob, ok.blt, ok.above, ok.inj, ok.has, ok.cab, ok.hd, ok.frames, ok.stk, ok.exf, ok.bs, ok.bsz, ok.noex, ok.exfs, ok.funs, ok.frf⟩
theorem blk_invX (I : Inv (X.blk s0 H0 scope ce fp) pins σ H s) : Inv (blkX X s0 H0 scope ce fp xe) pins σ H s := ⟨blk_okX I.ok, I.os, I.bare, I.base, I.loc, I.cell, I.free, I.freeC, I.pin, I.hok, I.len⟩
theorem blk_invB (I : Inv (blkX X s0 H0 scope ce fp xe) pins σ H s) : Inv (X.blk s0 H0 scope ce fp) pins σ H s := ⟨blk_okB I.ok, I.os, I.bare, I.base, I.loc, I.cell, I.free, I.freeC, I.pin, I.hok, I.len⟩
end
theorem funFrames_base {h B B2 : Heap} (k : ∀ L, B.get? L = none → B2.get? L = none) : ∀ {l : List Env}, h.FunFrames B l → h.FunFrames B2 l
  | [], _ => trivial
  | _ :: _, ⟨hk, ⟨L, o, hf, hb, ho, hd⟩, hr⟩ => ⟨hk, ⟨L, o, hf, k L hb, ho, hd⟩, funFrames_base k hr⟩
theorem rawInt_ne {a b : Addr} (h : a ≠ b) : (rawInt a == rawInt b) = false := by
  simp [rawInt]
  exact fun q => h (Int.ofNat.inj q)
section
variable {M : Model} {A : Around} {E : Value → Shared → Prop} {s : Shared} {Z : Obj → Prop} {base : Heap} {env : Env} {outer : List Env} {L e : Addr}
theorem looks_anyZ {fl : Value} {Q : Unit → Shared → Prop} (hne : (fl == rawInt L) = false) (hZ : HandSPX.Steady Z) (hfr : A.frames = some (env :: outer)) (hf : env.frame = some L) (hkb : base.StaysIn s.heap) (hen : base.get? e = none) (hl : s.heap.FunFrames base (env :: outer)) (ht : HandSPX.TracedZ s.heap base e Z fl)
    (hQ : ∀ h', HandSPX.HeldZ base (env :: outer) e Z L h' → s.heap.UpToSlots h' → Q () { s with heap := h' }) : wpAny M A (noteFrame (.ref e) env) Q E s := by
  obtain ⟨oe, vs, T, oT, ts, he, hz, hd, h1, hnT, hTe, hT, hdT, h3⟩ := ht
  unfold noteFrame
  simp only [hf]
  refine wpAny_bind (wpAny_field he hd h1 ?_)
  rw [if_pos (show (Value.ref T != Value.none) = true from by simp)]
  refine wpAny_bind (wpAny_field hT hdT h3 ?_)
  rw [if_neg (show ¬ ((fl == rawInt L) = true) from by rw [hne]; exact Bool.false_ne_true)]
  refine wpAny_bind (wpAny_setField hT hdT (Array.getElem?_eq_some_iff.mp h3).1 ?_)
  have other : ∀ b, b ≠ T → (s.heap.update T (Obj.mapFields (·.setIfInBounds 3 Value.none))).get? b = s.heap.get? b := fun b hb => Heap.get?_update_other _ _ (Ne.symm hb)
  have noRecord : ∀ b o, s.heap.get? b = some o → (∀ vs, o.data ≠ .fields vs) → b ≠ T := fun b o hb hnf q => by
    rw [q, hT] at hb; injection hb with hb; subst hb; exact hnf ts hdT
  refine HandSPX.wpAny_entryZ hZ hfr (hl.of_keeps fun b o hb hnf => ⟨o, (other b (noRecord b o hb hnf)).trans hb, rfl⟩) hf ((other e (Ne.symm hTe)).trans he)
    (fun b o hbo => (other b fun q => by rw [q, hnT] at hbo; cases hbo).trans (hkb b o hbo)) hen hd (Array.getElem?_eq_some_iff.mp h1).1 hz fun h' hN => ?_
  obtain ⟨x1, x2, x3, x4⟩ := hN
  exact hQ h' ⟨x1, hen, x2, x3⟩ fun b o hb hnf => x4 b o ((other b (noRecord b o hb hnf)).trans hb) hnf
theorem sky_note {L' : Addr} {Q : Unit → Shared → Prop} (hZ : HandSPX.Steady Z) (hfr : A.frames = some (env :: outer)) (hf : env.frame = some L) (x : Sky base (env :: outer) e Z L' s.heap)
    (hQ : ∀ h', HandSPX.HeldZ base (env :: outer) e Z L h' → s.heap.UpToSlots h' → Q () { s with heap := h' }) : wpAny M A (noteFrame (.ref e) env) Q E s := by
  rcases x with ⟨hB, hn, hl, oe, vs, he, hz, hd, h1⟩ | fl | hh
  · exact HandSPX.look_newZ hZ hfr hl hf he hB hn hd h1 hz hQ
  · exact HandSPX.looks_onZ hZ hfr hf fl hQ
  · by_cases q : L' = L
    · subst q
      exact HandSPX.againZ hf hh.2.2.2 (hQ s.heap hh (Heap.UpToSlots.refl _))
    · exact looks_anyZ (rawInt_ne q) hZ hfr hf hh.1 hh.2.1 hh.2.2.1 hh.2.2.2 hQ
end
section
variable {X : Cx} {W : WX} {pins : List (Addr × Obj)} {σ : L2.St} {H3 : Hp} {s3 : Shared} {scope : Scope} {ce : Env} {fp : List Addr}
theorem takes_blk (hs : X.stack = X.env :: X.outer) (hf : X.env.frame = some X.env.locals) (tk : Takes X W) (I3 : Inv X pins σ H3 s3) (f3 : ∀ b ∈ fp, FpOk X pins H3 b) (hcf : ce.frame = X.env.frame) (hC : s3.heap.objs.size ≤ ce.locals) :
    Takes (blkX X s3 H3 scope ce fp (notedBy (model X.prog X.w) X.A ce (CompFails (model X.prog X.w) X.A X.xe ce))) (fun cls d _ H' => W cls d σ H') := by
  rintro u s' ⟨a, B, sI, pins', σ', H', cls, d, rfl, I', nb, up, sky, na, os, ag, w⟩
  show wpAny _ X.A (noteFrame (.ref a) ce) _ _ s'
  rw [noteFrame_env _ hcf]
  have hfr : X.A.frames = some (X.env :: X.outer) := by rw [← hs]; exact I'.ok.frames
  have sky : Sky B X.stack a (Zc cls d) ce.locals s'.heap := sky
  rw [hs] at sky
  refine sky_note Zc.steady hfr hf sky fun h1 hh up1 => ?_
  obtain ⟨m, hn, _⟩ := I'.loc
  have hn : sI.heap.Ns ce.locals m := hn
  have hn1 : h1.Ns ce.locals m := (hn.upToSlots up).upToSlots up1
  refine ⟨m, hn1, fun h2 m2 hn2 hs2 => ?_⟩
  have hn2' := hn2
  obtain ⟨oC, es, ep, hoC, hdC, rC⟩ := hn2'
  obtain ⟨oI, esI, epI, hoI, hdI, _⟩ := hn
  have I7 : Inv X pins σ H' sI := I3.call' (ch := fp) I'.os I'.base I'.hok I'.bare fun b hb => ⟨(f3 b hb).2.2.2.1, (f3 b hb).2.1, (f3 b hb).2.2.2.2.1, (f3 b hb).2.2.2.2.2⟩
  have fC : FpOk X pins H' ce.locals := I3.fpOk hC I'.free
  have hCnf : ce.locals ∉ frs X.stack := fun hb => by
    rcases List.mem_cons.mp (I3.stkSub _ hb) with z | z
    · exact fC.2.1 z
    · exact fC.2.2.1 z
  have hBC : B.get? ce.locals = some oI := nb _ _ hoI hCnf
  have hfreed : oC.isFreed = false := (Heap.get?_some_iff.mp hoC).2
  have B2C : (B.update ce.locals (fun _ => oC)).get? ce.locals = some oC := Heap.get?_update_self _ hBC hfreed
  have B2o : ∀ b, b ≠ ce.locals → (B.update ce.locals (fun _ => oC)).get? b = B.get? b := fun b hb => Heap.get?_update_other _ _ (Ne.symm hb)
  have S2C : (sI.heap.update ce.locals (fun _ => oC)).get? ce.locals = some oC := Heap.get?_update_self _ hoI hfreed
  have S2o : ∀ b, b ≠ ce.locals → (sI.heap.update ce.locals (fun _ => oC)).get? b = sI.heap.get? b := fun b hb => Heap.get?_update_other _ _ (Ne.symm hb)
  have I8 : Inv X pins σ H' { sI with heap := sI.heap.update ce.locals (fun _ => oC), toks := sI.toks } := I7.turned (t' := sI.toks) (fun b o hb e => (S2o b hb).trans e) fC.1 fC.2.1 fC.2.2.2.1 fC.2.2.2.2.1 fC.2.2.2.2.2
  obtain ⟨k1, k2, k3, oe, vs, T, oT, ts, he, hz, hd, h1', hnT, hTe, hT, hdT, h3'⟩ := hh
  have aC : a ≠ ce.locals := fun z => by rw [z, hBC] at k2; cases k2
  have TC : T ≠ ce.locals := fun z => by rw [z, hBC] at hnT; cases hnT
  have held2 : HandSPX.HeldZ (B.update ce.locals (fun _ => oC)) (X.env :: X.outer) a (Zc cls d) X.env.locals h2 := by
    refine ⟨fun b o e => ?_, (B2o _ aC).trans k2, funFrames_base (fun L hL => ?_) (Heap.FunFrames.sameBut hs2 hn2 k3), oe, vs, T, oT, ts, (hs2.2 a aC).trans he, hz, hd, h1', (B2o T TC).trans hnT, hTe, (hs2.2 T TC).trans hT, hdT, h3'⟩
    · by_cases q : b = ce.locals
      · rw [q, B2C] at e
        rw [q, ← e]
        exact hoC
      · rw [B2o b q] at e
        exact (hs2.2 b q).trans (k1 b o e)
    · by_cases q : L = ce.locals
      · rw [q, hBC] at hL; cases hL
      · exact (B2o L q).trans hL
  unfold PySem.passOn
  refine wpAny_bind (wpAny_field (s := { s' with heap := h2 }) ((hs2.2 a aC).trans he) hd h1' ?_)
  rw [if_neg (show ¬ ((Value.ref T == Value.none) = true) from by simp)]
  rw [hcf, hf]
  refine wpAny_bind (HandSPX.setFlight_onZ (s := { s' with heap := h2 }) held2 fun h3 hh3 up3 => ?_)
  refine wpAny_throw ?_
  refine tk _ _ ⟨a, B.update ce.locals (fun _ => oC), { sI with heap := sI.heap.update ce.locals (fun _ => oC), toks := sI.toks }, pins, σ, H', cls, d, rfl, I8, fun b o e hb => ?_, Heap.UpToSlots.trans (fun b o e hnf => ?_) up3, .inr (.inr (by rw [hs]; exact hh3)), na, os, ag, w⟩
  · by_cases q : b = ce.locals
    · have e : (sI.heap.update ce.locals (fun _ => oC)).get? b = some o := e
      rw [q, S2C] at e
      rw [q, ← e]
      exact B2C
    · have e : (sI.heap.update ce.locals (fun _ => oC)).get? b = some o := e
      rw [S2o b q] at e
      exact (B2o b q).trans (nb b o e hb)
  · by_cases q : b = ce.locals
    · have e : (sI.heap.update ce.locals (fun _ => oC)).get? b = some o := e
      rw [q, S2C] at e
      cases e
      exact ⟨oC.slots, by rw [q]; exact hoC⟩
    · have e : (sI.heap.update ce.locals (fun _ => oC)).get? b = some o := e
      rw [S2o b q] at e
      obtain ⟨sl, e1⟩ := up b o e hnf
      obtain ⟨sl2, e2⟩ := up1 b _ e1 hnf
      exact ⟨sl2, (hs2.2 b q).trans e2⟩
end
/-- the element may raise: te by what is wanted of an exception -/
def tLcX (W : WX) (wi : TI) (g : TG) (tt : TT) (te : WX → TE) (vs : List Nat) : TE := fun σ H Q => tLc wi g tt (te (fun cls d _ H' => W cls d σ H')) vs σ H Q
section
variable {X : Cx} {W : WX}
theorem pe_lcX {elt tg iter : Expr} {ifs : List Expr} {scope : Scope} {own : List (Str × Nat)} {pos : Pos} {wi : TI} {g : TG} {tt : TT} {te : WX → TE} (hs : X.stack = X.env :: X.outer) (hf : X.env.frame = some X.env.locals) (tk : Takes X W) (hc : X.calm = true) (hN : X.N.Nodup) (hi : PI X tg iter wi) (ok : BlkOk X.N X.env.scope scope own)
    (hg : ∀ (s : Shared) (H : Hp) (C : Addr) (cl : List (Str × Addr)) (fp : List Addr), PG (X.blk s H scope (compEnvC scope cl C X.env) fp) tg g) (ht : ∀ (s : Shared) (H : Hp) (C : Addr) (cl : List (Str × Addr)) (fp : List Addr), PTs (X.blk s H scope (compEnvC scope cl C X.env) fp) ifs tt)
    (he : ∀ (s : Shared) (H : Hp) (C : Addr) (cl : List (Str × Addr)) (fp : List Addr) (xe : Value → Shared → Prop) (W' : WX), Takes (blkX X s H scope (compEnvC scope cl C X.env) fp xe) W' → PE (blkX X s H scope (compEnvC scope cl C X.env) fp xe) elt (te W')) (hsx : ∀ x, foldedSetIterable iter X.env x = pure x) :
    PE X (.ListComp elt [⟨tg, iter, ifs, 0⟩] scope pos) (tLcX W wi g tt te (own.map (·.2))) := by
  refine ⟨fun pins s σ H Q I h => ?_⟩
  rw [eval_ListComp]
  have hfree : ∀ y ∈ scope.names, y.2 = .free → ∃ c, X.env.cells.lookup y.1 = some c := fun y hy e => by
    rcases ok.free y hy e with k | k
    · exact I.ok.has _ (.inl k)
    · exact I.ok.has _ (.inr k)
  refine comprehension_at (use := none) rfl hsx (closure_ok hfree) ok.kind (fun y hy e => by rw [ok.uniq y hy, e])
    (thn (hi.run pins s σ H _ I h) fun xv s1 hx => thn hx fun itv s2 h2 => ?_)
  obtain ⟨it, fp, tn, J, H2, e, I2, T, st2, f2, q⟩ := h2
  subst e
  refine wpAny_newObj_type (newEnv_comp ?_) (by show 0 ≤ sizeLine; decide)
  generalize hD : s2.heap.objs.size = D
  have hDn : H2 D = none := I2.hok.fresh (Nat.le_of_eq hD)
  obtain ⟨W0, ⟨m0, w0⟩, turn⟩ := q D hDn
  generalize hs3 : ({ s2 with heap := s2.heap.push { cls := .type "list", data := .seq ([] : List Value).toArray } } : Shared) = s3
  have I3 : Inv X pins σ (upd H2 D (.lst [])) s3 := by
    rw [← hs3]
    refine I2.laid (t' := s2.toks) (fun b o e => Heap.get?_push_of_some _ e) (Nat.le_of_eq hD) ⟨Nat.zero_le _, [], 0, .nil, ?_⟩
    rw [← hD]
    exact Heap.get?_push_size _ rfl
  have h3 : s3.heap = s2.heap.push { cls := .type "list", data := .seq ([] : List Value).toArray } := by rw [← hs3]
  have sz : ∀ b ∈ fp, b < s2.heap.objs.size := fun b hb => by
    obtain ⟨o, e, _⟩ := T.obj _ _ st2 b hb
    exact Heap.lt_size e
  have f3 : ∀ b ∈ fp, FpOk X pins (upd H2 D (.lst [])) b ∧ b < s3.heap.objs.size := fun b hb => by
    have hlt := sz b hb
    refine ⟨⟨?_, (f2 b hb).2⟩, by rw [h3, Heap.size_push]; exact Nat.lt_succ_of_lt hlt⟩
    rw [upd_ne (by rw [← hD]; exact Nat.ne_of_lt hlt)]
    exact (f2 b hb).1
  have st3 : tn 0 s3.heap := T.keep _ _ _ st2 fun b _ o e => by rw [h3]; exact Heap.get?_push_of_some _ e
  have I4 := block_start I3 ok hN f3
  have pg := hg s3 (upd H2 D (.lst [])) s3.heap.objs.size (cellsFrom (s3.heap.objs.size + 1) scope.names (cloFrom X.env.cells scope.names [])) fp
  have pt := ht s3 (upd H2 D (.lst [])) s3.heap.objs.size (cellsFrom (s3.heap.objs.size + 1) scope.names (cloFrom X.env.cells scope.names [])) fp
  have pe := he s3 (upd H2 D (.lst [])) s3.heap.objs.size (cellsFrom (s3.heap.objs.size + 1) scope.names (cloFrom X.env.cells scope.names [])) fp
  have tkb := takes_blk (ce := compEnvC scope (cellsFrom (s3.heap.objs.size + 1) scope.names (cloFrom X.env.cells scope.names [])) s3.heap.objs.size X.env) (scope := scope) hs hf tk I3 (fun b hb => (f3 b hb).1) rfl (Nat.le_refl _)
  show codeAny _ _ (.compStart (.ListComp elt [⟨tg, iter, ifs, 0⟩] scope pos) 0 (.ref it) (.ref D) (compEnvC scope (cellsFrom (s3.heap.objs.size + 1) scope.names (cloFrom X.env.cells scope.names [])) s3.heap.objs.size X.env)) (compEnds (model X.prog X.w) X.A X.xe none (EP X pins σ Q) (.ref D) (compEnvC scope (cellsFrom (s3.heap.objs.size + 1) scope.names (cloFrom X.env.cells scope.names [])) s3.heap.objs.size X.env)) { s3 with heap := pushCells (s3.heap.push { cls := .type "dict", data := .dict #[] }) scope.names }
  have nfp : ∀ b ∈ fp, (upd H2 D (.lst [])) b = none := fun b hb => (f3 b hb).1.1
  generalize hce : compEnvC scope (cellsFrom (s3.heap.objs.size + 1) scope.names (cloFrom X.env.cells scope.names [])) s3.heap.objs.size X.env = ce at I4 pg pt pe tkb ⊢
  have cL : ce.locals = s3.heap.objs.size := by subst hce; rfl
  generalize hH3 : upd H2 D (.lst []) = H3 at I3 I4 pg pt pe tkb w0 nfp f3
  generalize hs4 : ({ s3 with heap := pushCells (s3.heap.push { cls := .type "dict", data := .dict #[] }) scope.names } : Shared) = s4 at I4 ⊢
  have st4 : tn 0 s4.heap := T.keep _ _ _ st3 fun b _ o e => by rw [← hs4]; exact pushCells_keeps _ _ _ _ (Heap.get?_push_of_some _ e)
  have stat : ∀ {σ' : L2.St} {H' : Hp} {s' : Shared}, Inv (X.blk s3 H3 scope ce fp) [] σ' H' s' → (∀ b ∈ fp, H' b = none) → ∀ b ∈ fp, FpOk (X.blk s3 H3 scope ce fp) [] H' b := fun {σ' H' s'} I' hn b hb =>
    ⟨hn b hb, (I'.ok.exf b hb).1, I'.ok.exfs b hb, .inl hb, fun x c e => (I'.ok.exf b hb).2 x c e, fun p hp => absurd (show p ∈ ([] : List (Addr × Obj)) ++ [] from hp) (by simp)⟩
  have loop : codeAny (model X.prog X.w) X.A (.compLoop (.ListComp elt [⟨tg, iter, ifs, 0⟩] scope pos) 0 (.ref it) (.ref D) ce) (compEnds (model X.prog X.w) X.A X.xe none (EP X pins σ Q) (.ref D) ce) s4 := by
    refine compLoop_any (fun n s' => ∃ i H', Inv (X.blk s3 H3 scope ce fp) [] (L2.wipe σ (own.map (·.2))) H' s' ∧ tn i s'.heap ∧ (∀ b ∈ fp, H' b = none) ∧ W0 i n H') ?_ m0 ⟨0, H3, I4, st4, nfp, w0⟩
    rintro n s5 ⟨i, H5, I5, st5, n5, w5⟩
    rcases turn i n H5 w5 with ⟨stop, qq⟩ | ⟨go, Nx, hNx, step⟩
    · have td := T.done (X.blk s3 H3 scope ce fp) rfl rfl rfl hc i [] s5 _ H5 (fun _ _ => False) I5 (stat I5 n5) st5 stop
      refine thnF td fun r s6 ⟨hr, I6⟩ => ?_
      subst hr
      have I7 : Inv X pins σ H5 s6 := I3.call' (ch := fp) I6.os I6.base I6.hok I6.bare fun b hb => ⟨(f3 b hb).1.2.2.2.1, (f3 b hb).1.2.1, (f3 b hb).1.2.2.2.2.1, (f3 b hb).1.2.2.2.2.2⟩
      have nC : H5 s3.heap.objs.size = none := by
        have z : H5 ce.locals = none := I6.free
        rw [cL] at z
        exact z
      obtain ⟨m, hn, _⟩ := I6.loc
      have hn : s6.heap.Ns ce.locals m := hn
      refine ⟨m, hn, fun h'' sb => ?_⟩
      rw [cL] at sb
      obtain ⟨g0, g1, g2, g3, g4, g5⟩ := I3.fpOk (Nat.le_refl _) nC
      exact ⟨.ref D, H5, I7.turned (t' := s6.toks) (fun b o hb e => (sb.2 b hb).trans e) g0 g1 g3 g4 g5, rfl, qq⟩
    · have ti := T.item (X.blk s3 H3 scope ce fp) rfl rfl rfl hc i [] s5 _ H5 (fun _ _ => False) I5 (stat I5 n5) st5 go
      refine thnF ti fun r s6 ⟨u, hr, h6⟩ => ?_
      subst hr
      refine thnF h6 fun _ s7 ⟨x, H7, I7, r7, y7, st7, n7⟩ => ?_
      have I7' := I7.pinned (stat I7 n7) (T.obj _ _ st7)
      refine thnF (pg.run _ s7 _ H7 x u _ I7' r7 (step x H7 y7)) fun _ s8 ⟨σ8, H8, I8, hw8, q8⟩ => ?_
      refine thnF (pt.run _ s8 σ8 H8 _ I8 q8) fun b s9 ⟨H9, I9, q9⟩ => ?_
      have fin : ∀ {s' : Shared} {H' : Hp}, Inv (X.blk s3 H3 scope ce fp) ([] ++ pinsAt fp s7.heap) σ8 H' s' → Nx H' → ∃ m, m < n ∧ ∃ i H', Inv (X.blk s3 H3 scope ce fp) [] (L2.wipe σ (own.map (·.2))) H' s' ∧ tn i s'.heap ∧ (∀ b ∈ fp, H' b = none) ∧ W0 i m H' := fun {s' H'} I' nx => by
        obtain ⟨m', hm, w'⟩ := hNx H' nx
        have pin' : ∀ b ∈ fp, ∀ o, s7.heap.get? b = some o → s'.heap.get? b = some o ∧ H' b = none := fun b hb o e =>
          let z := I'.pin (b, o) (List.mem_append_right _ (List.mem_append_right _ (mem_pinsAt hb e)))
          ⟨z.1, z.2.1⟩
        have hl : (L2.wipe σ (own.map (·.2))).length = σ8.length := by rw [← hw8, L2.wipe_length]
        refine ⟨m', hm, i + 1, H', (I'.unpinned (pins := [])).weak hl (fun j v e => ?_), T.keep _ _ _ st7 fun b hb o e => (pin' b hb o e).1, fun b hb => ?_, w'⟩
        · rw [← hw8] at e
          exact (L2.wipe_some e).1
        · obtain ⟨o, e, _⟩ := T.obj _ _ st7 b hb
          exact (pin' b hb o e).2
      cases b with
      | false =>
        simp only [Bool.false_eq_true, if_false] at q9 ⊢
        exact fin I9 q9
      | true =>
        simp only [if_true] at q9 ⊢
        have run := (pe _ _ tkb).run _ s9 σ8 H9 _ (blk_invX I9) q9
        refine wpAny_mono run (fun z s10 ⟨yv, H10, I10, r10, acc, hD10, hz10, nx⟩ => ?_) fun _ _ z => z
        exact app_ok (X := X.blk s3 H3 scope ce fp) (blk_invB I10) hD10 hz10 r10 fun s11 I11 => fin I11 nx
  exact codeAny_compStart_list loop (T.self X.A 0 _ _ _ st4 loop)
end
end Mir

set_option Elab.async false
set_option linter.all false
set_option maxRecDepth 100000
set_option maxHeartbeats 4000000
namespace Mir
open PySem PySem.Spec PyProof.Rows L2
/-! ### what stands behind the head: all of the heap's first N objects, no walk -/
def rngK (N : Nat) (g : Addr → Option Obj) : PySem.W.Frag := He.frT g (List.range N)
def obsN (N : Nat) (fa : List He.Fa) (fn : List He.DefD) (ts : List He.Tab) (tf : List He.Defn) (ex : PySem.W.Frag → Bool) (g : Addr → Option Obj) : He.AlX := (He.obsT fa fn ts (rngK N g), ex (rngK N g) && He.tabsB g tf (rngK N g))
theorem saysN {N : Nat} {fa : List He.Fa} {fn : List He.DefD} {ts : List He.Tab} {tf : List He.Defn} {ex : PySem.W.Frag → Bool} {w : World} {h : Heap} (e : obsN N fa fn ts tf ex h.get? = He.valX fn ts w) : He.SaysX fa fn ts tf ex w h (rngK N h.get?) := by
  have b := Bool.and_eq_true_iff.mp (congrArg Prod.snd e)
  have tabs : ∀ p ∈ tf, PySem.W.codeHdIn (rngK N h.get?) (He.cT (rngK N h.get?) p).1 (He.cT (rngK N h.get?) p).2 = true ∧ ∃ o, h.get? (He.cT (rngK N h.get?) p).2 = some o ∧ He.emptyTab o = true := fun p hp => by
    have q := Bool.and_eq_true_iff.mp (List.all_eq_true.mp b.2 p hp)
    have q2 := q.2
    refine ⟨q.1, ?_⟩
    cases z : h.get? (He.cT (rngK N h.get?) p).2 with
    | none => rw [z] at q2; exact Bool.noConfusion q2
    | some o => rw [z] at q2; exact ⟨o, rfl, q2⟩
  refine ⟨congrArg Prod.fst e, b.1, fun p hp => (tabs p hp).1, fun p hp => ?_, fun p hp => ?_⟩
  · obtain ⟨_, o, h1, h2⟩ := tabs p hp
    exact He.frT_none h1 h2
  · obtain ⟨_, o, h1, h2⟩ := tabs p hp
    rw [h1, He.emptyTab_eq h2]
def hookN (N : Nat) (fa : List He.Fa) (fn : List He.DefD) (ts : List He.Tab) (tf : List He.Defn) (ex : PySem.W.Frag → Bool) : PySem.W.Hook := { He.hookX 0 fa fn ts tf ex with
  obs := fun s => obsN N fa fn ts tf ex s.heap.get?
  of := fun _ _ e => ⟨_, He.frT_in, saysN e⟩ }
theorem obsN_eq {N : Nat} {fa : List He.Fa} {fn : List He.DefD} {ts : List He.Tab} {tf : List He.Defn} {ex : PySem.W.Frag → Bool} {g : Addr → Option Obj} {s : Shared} (h : ∀ a, g a = s.heap.get? a) : obsN N fa fn ts tf ex g = (hookN N fa fn ts tf ex).obs s := by
  rw [show g = s.heap.get? from funext h]
  rfl
end Mir

set_option Elab.async false
set_option linter.all false
set_option maxRecDepth 100000
set_option maxHeartbeats 4000000
namespace Mir
open PySem PySem.Spec PyProof.Rows L2
/-! ### the mirror of a comprehension that may raise -/
def compLoopX (mg : MG) (mt : MB) (me : ME) : List D → List Sl → FS → List D → R (List D)
  | [], _, f, acc => .ok acc f
  | d :: ds, ρ, f, acc => match mg d ρ with
    | none => .bad
    | some ρ' => (noX (mt ρ' f)).bind fun c f1 => if c = true then (me ρ' f1).bind fun y f2 => compLoopX mg mt me ds ρ f2 (acc ++ [y]) else compLoopX mg mt me ds ρ f1 acc
def eCompX (vs : List Nat) (mi : MA) (mg : MG) (mt : MB) (me : ME) : ME := fun ρ f => (mi ρ f).bind fun ds f1 => if decide (ds.length ≤ lim) && okW ρ vs then (compLoopX mg mt me ds (wipeR ρ vs) f1 []).bind fun ys f2 => .ok (.list ys) f2 else .bad
theorem comp_readX {G : Gx} (gok : GOk G) {W : WX} {σ : L2.St} {H : Hp} {Q : VK} {vs : List Nat} {mi : MA} {g : TG} {mg : MG} {mt : MB} {me : ME} {tt : TT} (hg : TGOk G vs g mg) (ht : ∀ σ H Q, tMT G W0 mt σ H Q → tt σ H Q)
    (h : tM G W (eCompX vs mi mg mt me) σ H Q) : tLcX W (tMI G W mi) g tt (fun W' => tM G W' me) vs σ H Q := by
  obtain ⟨O, ρ, f, A, p⟩ := h
  refine ⟨O, ρ, f, A, ?_⟩
  unfold eCompX at p
  cases e : mi ρ f with
  | bad => rw [e] at p; exact p.elim
  | exc x f1 => rw [e] at p; exact p
  | ok ds f1 =>
    rw [e] at p
    dsimp only [R.bind_ok] at p
    have hc : (decide (ds.length ≤ lim) && okW ρ vs) = true := by
      cases q : (decide (ds.length ≤ lim) && okW ρ vs) with
      | true => rfl
      | false => rw [q, if_neg Bool.false_ne_true] at p; exact p.elim
    rw [if_pos hc] at p
    simp only [Bool.and_eq_true, decide_eq_true_eq] at hc
    obtain ⟨hlen, hw⟩ := hc
    intro J H1 A1 o1 wk D nD
    have sD : Same H1 (upd H1 D (.lst [])) := same_upd nD
    have nO : ¬ O D := A1.ot.fresh nD
    have up : StepP O H1 (fun a => O a ∨ a = D) (upd H1 D (.lst [])) := fun b o n t e => ⟨sD _ _ e, fun z => z.elim n fun q => by rw [q, nD] at e; cases e⟩
    have nH0 : ∀ o, notTbl o → G.H0 D ≠ some o := fun o t q => by
      by_cases hfa : some D = G.fa
      · exact nO (FeedOk.own A1.feed hfa.symm)
      · have := A1.grow D o hfa t q
        rw [nD] at this; cases this
    have AD : Agr G (fun a => O a ∨ a = D) (L2.wipe σ vs) (upd H1 D (.lst [])) (wipeR ρ vs) f1 := by
      have B := (A1.same sD).wipe vs
      have C := A1.wipe vs
      refine ⟨B.grow, fun a ha => .inl (B.o0 a ha), fun a ha => ?_, fun a ha => ?_, ?_, B.len, fun i s es => ?_, B.inj, B.tabs⟩
      · rcases ha with ha | rfl
        · exact B.onew a ha
        · exact .inr nH0
      · rcases ha with ha | rfl
        · exact B.ot a ha
        · exact ⟨_, upd_same, notTbl_lst⟩
      · have q := A1.feed
        revert q
        cases hfa : G.fa with
        | none => intro _; trivial
        | some a =>
          intro q
          obtain ⟨oa, ec, lc⟩ := q
          exact ⟨.inl oa, sD _ _ ec, lc.step up⟩
      · have q := C.slots i s es
        cases s with
        | no => trivial
        | d x => obtain ⟨v, e1, r⟩ := q; exact ⟨v, e1, Rp.step up _ _ r⟩
        | l xs => obtain ⟨a, ws, e1, oa, na, ea, r⟩ := q; exact ⟨a, ws, e1, .inl oa, na, sD _ _ ea, RpAll.step up _ _ r⟩
        | m ks xs => obtain ⟨a, ws, e1, oa, na, ea, r, hz⟩ := q; exact ⟨a, ws, e1, .inl oa, na, sD _ _ ea, RpAll.step up _ _ r, hz⟩
        | fd => exact q
        | x => exact q
    have hnl : ∀ (j : Nat) (xs : Sl), (wipeR ρ vs)[j]? = some xs → xs.own → (L2.wipe σ vs)[j]? ≠ some (some (V.ref D)) := fun j xs e1 w e2 => by
      by_cases hj : j ∈ vs
      · by_cases hl : j < σ.length
        · rw [wipe_in hj hl] at e2; cases e2
        · rw [List.getElem?_eq_none (by rw [L2.wipe_length]; omega)] at e2; cases e2
      · rw [wipeR_get hj] at e1
        rw [wipe_get hj] at e2
        have qq := A1.slots j _ e1
        cases xs with
        | l xs =>
          obtain ⟨a, us, e3, _, _, ea, _⟩ := qq
          rw [e2] at e3
          cases e3
          rw [nD] at ea; cases ea
        | m ks xs =>
          obtain ⟨a, us, e3, _, _, ea, _⟩ := qq
          rw [e2] at e3
          cases e3
          rw [nD] at ea; cases ea
        | no => exact w
        | d x => exact w
        | fd => exact w
        | x => exact w
    have less : ∀ a, O a → O a ∨ a = D := fun a h => .inl h
    -- back at the def's own names
    have home : ∀ {H' : Hp} {f' : FS}, Agr G (fun a => O a ∨ a = D) (L2.wipe σ vs) H' (wipeR ρ vs) f' → (∀ b o, b ≠ D → some b ≠ G.fa → notTbl o → H1 b = some o → H' b = some o) → Agr G O σ H' ρ f' := fun {H' f'} A' k' => by
      have st1 : StepO O H1 H' := fun b o n t e => ⟨k' b o (fun z => by rw [z, nD] at e; cases e) (fun z => n (FeedOk.own A1.feed z.symm)) t e, n⟩
      refine ⟨A'.grow, A1.o0, A1.onew, fun a ha => A'.ot a (.inl ha), ?_, A1.len, fun j s es => ?_, A1.inj, A'.tabs⟩
      · have q := A'.feed
        revert q
        cases hfa : G.fa with
        | none => intro _; trivial
        | some a =>
          intro q
          obtain ⟨oa, ec, lc⟩ := q
          have fe := A1.feed
          rw [hfa] at fe
          exact ⟨fe.1, ec, fun z => lc.1 (.inl z), lc.2⟩
      · by_cases hj : j ∈ vs
        · have q := A1.slots j s es
          cases s with
          | no => trivial
          | d x => obtain ⟨v, e1, r⟩ := q; exact ⟨v, e1, Rp.step st1 _ _ r⟩
          | l xs =>
            exfalso
            have := List.all_eq_true.mp hw j hj
            rw [es] at this
            cases this
          | m ks xs =>
            exfalso
            have := List.all_eq_true.mp hw j hj
            rw [es] at this
            cases this
          | fd => exact q
          | x => exact q
        · have q := A'.slots j s (by rw [wipeR_get hj]; exact es)
          rw [wipe_get hj] at q
          cases s with
          | no => trivial
          | d x => obtain ⟨v, e1, r⟩ := q; exact ⟨v, e1, Rp.less less _ _ r⟩
          | l xs =>
            obtain ⟨a, us, e1, oa, na, ea, r⟩ := q
            have hb : a ≠ D := fun z => hnl j (.l xs) (by rw [wipeR_get hj]; exact es) True.intro (by rw [wipe_get hj, e1, z])
            exact ⟨a, us, e1, oa.elim id (fun z => absurd z hb), na, ea, RpAll.less less _ _ r⟩
          | m ks xs =>
            obtain ⟨a, us, e1, oa, na, ea, r, hz⟩ := q
            have hb : a ≠ D := fun z => hnl j (.m ks xs) (by rw [wipeR_get hj]; exact es) True.intro (by rw [wipe_get hj, e1, z])
            exact ⟨a, us, e1, oa.elim id (fun z => absurd z hb), na, ea, RpAll.less less _ _ r, hz⟩
          | fd => exact q
          | x => exact q
    have outK : ∀ {H' : Hp}, (∀ b o, b ≠ D → some b ≠ G.fa → notTbl o → H1 b = some o → H' b = some o) → OutP G.fa H H' := fun {H'} k' b o n t e => by
      have e1 := o1 b o n t e
      exact k' b o (fun z => by rw [z, nD] at e1; cases e1) n t e1
    let Pv : Nat → Hp → Prop := fun i H' => ∃ acc ws f', Agr G (fun a => O a ∨ a = D) (L2.wipe σ vs) H' (wipeR ρ vs) f' ∧ (∀ b o, b ≠ D → some b ≠ G.fa → notTbl o → H1 b = some o → H' b = some o) ∧ H' D = some (.lst ws) ∧
      RpAll G.K (fun a => O a ∨ a = D) H' ws acc ∧ ws.length ≤ i ∧ Post G W O σ H ρ (Rp G.K) ((compLoopX mg mt me (ds.drop i) (wipeR ρ vs) f' acc).bind fun ys f2 => .ok (.list ys) f2) Q
    have stepP : ∀ {H'}, (∀ b o, b ≠ D → some b ≠ G.fa → notTbl o → H1 b = some o → H' b = some o) → StepP O H1 (fun a => O a ∨ a = D) H' := fun k b o n t e => by
      have hb : b ≠ D := fun z => by rw [z, nD] at e; cases e
      exact ⟨k b o hb (fun z => n (FeedOk.own A1.feed z.symm)) t e, fun z => z.elim n hb⟩
    refine ⟨fun i m H' => m = ds.length - i ∧ i ≤ ds.length ∧ Pv i H', ⟨ds.length, by simp, Nat.zero_le _, [], [], f1, AD, fun b o hb _ _ e => by rw [upd_ne hb]; exact e, upd_same, .nil, Nat.le_refl _, by rw [List.drop_zero]; exact p⟩, ?_⟩
    rintro i m H' ⟨rfl, hi, acc, ws, f', A', k', eD, rw', hwl, pp⟩
    by_cases hlt : i < ds.length
    · refine .inr ⟨wk.go i _ H' hlt (stepP k'), Pv (i + 1), fun H'' p' => ⟨ds.length - (i + 1), by omega, rfl, hlt, p'⟩, fun x H'' y => ?_⟩
      obtain ⟨sy, d, ed, rd⟩ := wk.yld i _ H' x H'' hlt (stepP k') A'.ot y
      have edrop : ds.drop i = d :: ds.drop (i + 1) := by
        have := List.drop_eq_getElem_cons hlt
        rw [this]
        congr 1
        exact Option.some.inj ((List.getElem?_eq_getElem hlt).symm.trans ed)
      rw [edrop] at pp
      unfold compLoopX at pp
      cases em : mg d (wipeR ρ vs) with
      | none => rw [em] at pp; exact pp.elim
      | some ρ' =>
        rw [em] at pp
        dsimp only at pp
        refine hg _ _ _ _ f' x d ρ' _ (A'.same sy) rd em fun σ2 A2 w2 => ⟨w2.trans wipe_wipe, ht _ _ _ ⟨_, ρ', f', A2, ?_⟩⟩
        have w2' := w2.trans wipe_wipe
        cases et : mt ρ' f' with
        | bad => rw [et] at pp; exact pp.elim
        | exc z f2 => rw [et] at pp; exact pp.elim
        | ok c f2 =>
          rw [et] at pp
          dsimp only [noX, R.bind_ok] at pp
          intro b H3 A3 o3 eb
          subst eb
          have back : ∀ {H4 : Hp} {f4 : FS} {σ4 : L2.St}, Agr G (fun a => O a ∨ a = D) σ4 H4 ρ' f4 → L2.wipe σ4 vs = L2.wipe σ vs → OutP G.fa H'' H4 → Agr G (fun a => O a ∨ a = D) (L2.wipe σ vs) H4 (wipeR ρ vs) f4 := fun {H4 f4 σ4} A4 w4 o4 => by
            have st : StepO (fun a => O a ∨ a = D) H' H4 := fun b o n t e => ⟨o4 b o (fun z => n (.inl (FeedOk.own A1.feed z.symm))) t (sy _ _ e), n⟩
            refine ⟨A4.grow, A4.o0, A4.onew, A4.ot, A4.feed, A'.len, fun j s es => ?_, A'.inj, A4.tabs⟩
            have q := A'.slots j s es
            cases s with
            | no => trivial
            | d x => obtain ⟨v, e1, r⟩ := q; exact ⟨v, e1, Rp.step st _ _ r⟩
            | l xs =>
              obtain ⟨a, ws, e1, oa, na, ea, r⟩ := q
              exact ⟨a, ws, e1, oa, na, o4 a _ (fun z => na (gok.fo a z.symm)) notTbl_lst (sy _ _ ea), RpAll.step st _ _ r⟩
            | m ks xs =>
              obtain ⟨a, ws, e1, oa, na, ea, r, hz⟩ := q
              exact ⟨a, ws, e1, oa, na, o4 a _ (fun z => na (gok.fo a z.symm)) notTbl_dK (sy _ _ ea), RpAll.step st _ _ r, hz⟩
            | fd => exact q
            | x => exact q
          have nDf : some D ≠ G.fa := fun z => nO (FeedOk.own A1.feed z.symm)
          have o3' : OutP G.fa H'' H3 := o3
          cases b with
          | false =>
            rw [if_neg Bool.false_ne_true] at pp ⊢
            have st : StepO (fun a => O a ∨ a = D) H' H3 := fun b o n t e => ⟨o3' b o (fun z => n (.inl (FeedOk.own A1.feed z.symm))) t (sy _ _ e), n⟩
            exact ⟨acc, ws, f2, back A3 w2' o3', fun b o h1 h2 t e => o3' b o h2 t (sy _ _ (k' b o h1 h2 t e)), o3' D _ nDf notTbl_lst (sy _ _ eD), RpAll.step st _ _ rw', Nat.le_succ_of_le hwl, pp⟩
          | true =>
            rw [if_pos rfl] at pp ⊢
            refine ⟨_, ρ', f2, A3, ?_⟩
            cases ee : me ρ' f2 with
            | bad => rw [ee] at pp; exact pp.elim
            | exc z f3 =>
              rw [ee] at pp
              intro cls dd H4 A4 o4 xa
              have o34 : OutP G.fa H'' H4 := o3'.trans o4
              have k4 : ∀ b o, b ≠ D → some b ≠ G.fa → notTbl o → H1 b = some o → H4 b = some o := fun b o h1 h2 t e => o34 b o h2 t (sy _ _ (k' b o h1 h2 t e))
              obtain ⟨x1, dd', us, x2, x3, x4, x5, x6⟩ := xa
              exact pp cls dd H4 (home (back A4 w2' o34) k4) (outK k4) ⟨x1, dd', us, x2, x3, x4, RpAll.less less _ _ x5, fun z => x6 (.inl z)⟩
            | ok yd f3 =>
              rw [ee] at pp
              dsimp only [R.bind_ok] at pp
              intro y H4 A4 o4 ry
              have o34 := o3'.trans o4
              have eD4 : H4 D = some (.lst ws) := o34 D _ nDf notTbl_lst (sy _ _ eD)
              refine ⟨ws, eD4, by have : lim < sizeLine := by decide
                                  omega, ?_⟩
              have B := back A4 w2' o34
              have st : StepO (fun a => O a ∨ a = D) H' H4 := fun b o n t e => ⟨o34 b o (fun z => n (.inl (FeedOk.own A1.feed z.symm))) t (sy _ _ e), n⟩
              have su : StepO (fun a => O a ∨ a = D) H4 (upd H4 D (.lst (ws ++ [y]))) := fun b o n t e => ⟨by rw [upd_ne (fun z => n (.inr z))]; exact e, n⟩
              refine ⟨acc ++ [yd], ws ++ [y], f3, ⟨fun b o h1 t e => ?_, B.o0, B.onew, fun a ha => ?_, ?_, B.len, fun j s es => ?_, B.inj, tabs_upd B.tabs eD4 notTbl_lst (fun _ z => by cases z)⟩, fun b o h1 h2 t e => ?_, upd_same, (RpAll.step su _ _ (RpAll.step st _ _ rw')).append (.cons (Rp.step su _ _ ry) .nil), by simp; omega, pp⟩
              · by_cases hb : b = D
                · rw [hb] at e; exact absurd e (nH0 o t)
                · rw [upd_ne hb]; exact B.grow b o h1 t e
              · by_cases hb : a = D
                · rw [hb]; exact ⟨_, upd_same, notTbl_lst⟩
                · rw [upd_ne hb]; exact B.ot a ha
              · have q := B.feed
                revert q
                cases hfa : G.fa with
                | none => intro _; trivial
                | some a =>
                  intro q
                  obtain ⟨oa, ec, lc⟩ := q
                  exact ⟨oa, by rw [upd_ne (fun z => nDf (by rw [← z, hfa]))]; exact ec, lc.step su⟩
              · have q := B.slots j s es
                cases s with
                | no => trivial
                | d x => obtain ⟨v, e1, r⟩ := q; exact ⟨v, e1, Rp.step su _ _ r⟩
                | l xs =>
                  obtain ⟨a, us, e1, oa, na, ea, r⟩ := q
                  have hb : a ≠ D := fun z => hnl j _ es True.intro (by rw [e1, z])
                  exact ⟨a, us, e1, oa, na, by rw [upd_ne hb]; exact ea, RpAll.step su _ _ r⟩
                | m ks xs =>
                  obtain ⟨a, us, e1, oa, na, ea, r, hz⟩ := q
                  have hb : a ≠ D := fun z => hnl j _ es True.intro (by rw [e1, z])
                  exact ⟨a, us, e1, oa, na, by rw [upd_ne hb]; exact ea, RpAll.step su _ _ r, hz⟩
                | fd => exact q
                | x => exact q
              · rw [upd_ne h1]
                exact o34 b o h2 t (sy _ _ (k' b o h1 h2 t e))
    · have ei : i = ds.length := by omega
      subst ei
      refine .inl ⟨wk.stop _ H' (stepP k'), ?_⟩
      rw [List.drop_length] at pp
      unfold compLoopX at pp
      dsimp only [R.bind_ok] at pp
      exact pp (.ref D) H' (home A' k') (outK k') (.lst ⟨nO, eD⟩ (RpAll.less less _ _ rw'))
section
variable {X : Cx} {G : Gx} {W : WX}
theorem mCompX {elt tg iter : Expr} {ifs : List Expr} {scope : Scope} {own : List (Str × Nat)} {pos : Pos} {g : TG} {mg : MG} {tt : TT} {mi : MA} {mt : MB} {me : ME} (gok : GOk G) (hs : X.stack = X.env :: X.outer) (hf : X.env.frame = some X.env.locals) (tk : Takes X W) (hc : X.calm = true) (hN : X.N.Nodup) (hi : PI X tg iter (tMI G W mi)) (ok : BlkOk X.N X.env.scope scope own)
    (hgo : TGOk G (own.map (·.2)) g mg) (htt : ∀ σ H Q, tMT G W0 mt σ H Q → tt σ H Q)
    (hg : ∀ (s : Shared) (H : Hp) (C : Addr) (cl : List (Str × Addr)) (fp : List Addr), PG (X.blk s H scope (compEnvC scope cl C X.env) fp) tg g) (ht : ∀ (s : Shared) (H : Hp) (C : Addr) (cl : List (Str × Addr)) (fp : List Addr), PTs (X.blk s H scope (compEnvC scope cl C X.env) fp) ifs tt)
    (he : ∀ (s : Shared) (H : Hp) (C : Addr) (cl : List (Str × Addr)) (fp : List Addr) (xe : Value → Shared → Prop) (W' : WX), Takes (blkX X s H scope (compEnvC scope cl C X.env) fp xe) W' → PE (blkX X s H scope (compEnvC scope cl C X.env) fp xe) elt (tM G W' me)) (hsx : ∀ x, foldedSetIterable iter X.env x = pure x) :
    PE X (.ListComp elt [⟨tg, iter, ifs, 0⟩] scope pos) (tM G W (eCompX (own.map (·.2)) mi mg mt me)) :=
  peOf (pe_lcX hs hf tk hc hN hi ok hg ht he hsx) fun σ H Q q => comp_readX gok hgo htt q
/-! ### x, y = (e, s.split(c)), y a list of one's own -/
def sParSplit (i j : Nat) (m1 mo : ME) (c : Str) : MS := fun ρ f => sBind (m1 ρ f) fun d f1 => sBind (mo ρ f1) fun z f2 => match z with
  | .str s => if (c.length == 0) = false ∧ s.length + 2 ≤ lim then .nx ((ρ.set i (.d d)).set j (.l ((Txt.split s c).map .str))) f2 else .bad
  | _ => .bad
theorem psParSplit {i j : Nat} {x y c : Str} {a o : Expr} {m1 mo : ME} {px py pt p1 apos cpos pos : Pos} {kt k2 pt2 kk} (hc : X.calm = true) (hN : X.N.Nodup) (hi : X.N[i]? = some x) (hj : X.N[j]? = some y) (hij : i ≠ j)
    (hx : X.env.scope.names.lookup x = some .local) (hy : X.env.scope.names.lookup y = some .local) (ha : PE X a (tM G W m1)) (ho : PE X o (tM G W mo))
    (h1 : starEach [a, .Call (.Attribute o "split" apos) [.Constant (.str c) kk p1] [] cpos] X.env = (false, eval a X.env) :: starEach [.Call (.Attribute o "split" apos) [.Constant (.str c) kk p1] [] cpos] X.env)
    (h2 : starEach [.Call (.Attribute o "split" apos) [.Constant (.str c) kk p1] [] cpos] X.env = (false, eval (.Call (.Attribute o "split" apos) [.Constant (.str c) kk p1] [] cpos) X.env) :: starEach [] X.env)
    (hs3 : starEach [.Constant (.str c) kk p1] X.env = [(false, eval (.Constant (.str c) kk p1) X.env)])
    (hb : attributeBase o "split" X.env (eval o X.env) = eval o X.env) (hl : (apos.endLine == cpos.line) = true)
    (hw : swappedStores [.Tuple [.Name x px, .Name y py] kt pt] (.Tuple [a, .Call (.Attribute o "split" apos) [.Constant (.str c) kk p1] [] cpos] k2 pt2) X.env = pure (some [x, y]))
    (hs : swapsWithSole [.Tuple [.Name x px, .Name y py] kt pt] (.Tuple [a, .Call (.Attribute o "split" apos) [.Constant (.str c) kk p1] [] cpos] k2 pt2) pos.line X.env = pure false) :
    PS X (.Assign [.Tuple [.Name x px, .Name y py] kt pt] (.Tuple [a, .Call (.Attribute o "split" apos) [.Constant (.str c) kk p1] [] cpos] k2 pt2) pos) (tMS G W (sParSplit i j m1 mo c)) :=
  psOf (ps_par hc hN hi hj hij hx hy (pa_cons ha (pa_cons (pe_m1 F.slot_str_split F.type_str_split mt_split ho pe_str hs3 hb hl) pa_nil h2) h1) hw hs) fun D σ H q => by
  refine (sBind_read (rel := Rp G.K) (k := fun d ρ f1 => sBind (mo ρ f1) fun z f2 => match z with
    | .str s => if (c.length == 0) = false ∧ s.length + 2 ≤ lim then SR.nx ((ρ.set i (.d d)).set j (.l ((Txt.split s c).map .str))) f2 else SR.bad
    | _ => SR.bad) q).mono fun v1 H1 h => ?_
  obtain ⟨O, ρ, f, d, A, r, p⟩ := h
  refine ⟨O, ρ, f, A, ?_⟩
  cases e2 : mo ρ f with
  | bad => rw [e2] at p; exact p.elim
  | exc x f2 => rw [e2] at p; exact fun cls dd H' A' s' xa => p O σ ρ cls dd H' A' (A.stepO s') xa
  | ok z f2 =>
    rw [e2] at p
    dsimp only [sBind] at p
    intro v2 H2 A2 o2 r2
    cases r2 with
    | str s =>
      dsimp only at p
      by_cases hk : (c.length == 0) = false ∧ s.length + 2 ≤ lim
      · rw [if_pos hk] at p
        refine ⟨⟨s, rfl⟩, s, c, rfl, rfl, hk.1, Nat.le_trans hk.2 lim_line, fun q nq => ?_⟩
        have r1 := Rp.step (A.stepO o2) _ _ r
        have A3 := A2.setD i r1
        obtain ⟨A4, up⟩ := A3.setL j (p := q) (rp_strs (K := G.K) (O := O) (H := H2) (Txt.split s c)) nq
        exact ⟨_, _, rfl, p _ _ _ A4 ((A.stepO o2).trans up)⟩
      · rw [if_neg hk] at p; exact p.elim
    | _ => exact p.elim
/-! ### xs[k] = e -/
def sSetIx (i : Nat) (mk me : ME) : MS := fun ρ f => match ρ[i]? with
  | some (.l xs) => sBind (me ρ f) fun d f1 => sBind (mk ρ f1) fun k f2 => match k with
    | .int n => match ixN xs.length n with
      | some j => .nx (ρ.set i (.l (xs.set j d))) f2
      | none => .bad
    | _ => .bad
  | _ => .bad
theorem psSetIx {i : Nat} {x : Str} {p p2 pos : Pos} {b e : Expr} {mk me : ME} (gok : GOk G) (hv : PE X (.Name x p) (tVar i)) (hb : PE X b (tM G W mk)) (he : PE X e (tM G W me))
    (hk : ∀ v, assign (.Subscript (.Name x p) b p2) X.env v = (do
      let ov ← holding [v] (eval (.Name x p) X.env)
      let iv ← holding [v, ov] (eval b X.env)
      standAt p2
      holding [v, ov, iv] (setItem ov iv v)
      release [v, ov, iv] []))
    (hs : swapsWithSole [.Subscript (.Name x p) b p2] e pos.line X.env = pure false) (hw : swappedStores [.Subscript (.Name x p) b p2] e X.env = pure none)
    (h1 : (assignEach [.Subscript (.Name x p) b p2] X.env).map (·.2) = [assign (.Subscript (.Name x p) b p2) X.env]) :
    PS X (.Assign [.Subscript (.Name x p) b p2] e pos) (tMS G W (sSetIx i mk me)) := psOf (ps_asg he (pg_sub hv hb set_list hk) hs hw h1) fun D σ H q => by
  obtain ⟨O, ρ, f, A, pp⟩ := q
  unfold sSetIx at pp
  cases e1 : ρ[i]? with
  | none => rw [e1] at pp; exact pp.elim
  | some s =>
    rw [e1] at pp
    cases s with
    | no => exact pp.elim
    | d x => exact pp.elim
    | fd => exact pp.elim
    | m ks xs => exact pp.elim
    | x => exact pp.elim
    | l xs =>
      dsimp only at pp
      obtain ⟨a, us, ea, oa, na, Ha, ra⟩ := A.slots i _ e1
      have nf : some a ≠ G.fa := fun z => na (gok.fo a z.symm)
      refine ⟨O, ρ, f, A, ?_⟩
      cases e2 : me ρ f with
      | bad => rw [e2] at pp; exact pp.elim
      | exc x f1 => rw [e2] at pp; exact fun cls d H' A' s' xa => pp O σ ρ cls d H' A' (A.stepO s') xa
      | ok d f1 =>
        rw [e2] at pp
        dsimp only [sBind] at pp
        intro v H1 A1 o1 rv
        refine ⟨.ref a, ea, O, ρ, f1, A1, ?_⟩
        cases e3 : mk ρ f1 with
        | bad => rw [e3] at pp; exact pp.elim
        | exc x f2 => rw [e3] at pp; exact fun cls d H' A' s' xa => pp O σ ρ cls d H' A' ((A.stepO o1).trans (A1.stepO s')) xa
        | ok k f2 =>
          rw [e3] at pp
          dsimp only [sBind] at pp
          intro w H2 A2 o2 rk
          cases rk with
          | int n =>
            dsimp only at pp
            cases e4 : ixN xs.length n with
            | none => rw [e4] at pp; exact pp.elim
            | some j =>
              rw [e4] at pp
              have Ha2 : H2 a = some (.lst us) := o2 a _ nf notTbl_lst (o1 a _ nf notTbl_lst Ha)
              have st := (A.stepO o1).trans (A1.stepO o2)
              have r2 := RpAll.set j (Rp.step (A1.stepO o2) _ _ rv) (RpAll.step st _ _ ra)
              obtain ⟨A3, s3⟩ := A2.setApp gok e1 ea r2
              exact ⟨a, us, n, j, rfl, rfl, Ha2, by rw [ra.length]; exact e4, pp _ _ _ A3 (st.trans s3)⟩
          | _ => exact pp.elim
end
end Mir

set_option Elab.async false
set_option linter.all false
set_option maxRecDepth 100000
set_option maxHeartbeats 0
namespace Mir
open PySem PySem.Spec PyProof.Rows L2
def top (i : Nat) : Stmt := PySem.Challenge.pw_keptends_k26_whole_texts_read.main.body.getD i (.Pass ⟨0, 0, 0, 0⟩)
def c_BIRTHS : D := .tuple [.str "copy", .str "start"]
def c_DIGITS : D := .str "0123456789"
def c_ENDS : D := .tuple [.str "r", .str "w"]
def c_LETTERS : D := .str "abcdefghijklmnopqrstuvwxyz"
def c_MOST_DIGITS : D := .int 60
def c_SWITCHES : D := .tuple [.str "on", .str "off"]
def c_WORDS : D := .tuple [.str "go", .str "copy", .str "start", .str "mark", .str "close", .str "read", .str "write", .str "wait", .str "stay", .str "end"]
def xsL : ClsL := [("InvalidPaper", ["word", "at"]), ("NotUsable", ["word", "at"]), ("InvalidStep", ["step", "word"]), ("InvalidText", ["line", "field"]), ("InvalidRow", ["row"])]
def q__law_is_right : Str := (envOfC "_law_is_right" (defScope (top 48)) 0 0 .none).qual ++ "<lambda>"
def tfL : List He.Defn := [("_law_is_right", none)]
def qsL : List Str := [q__law_is_right]
structure TbF (K : PySem.W.Frag) (mg : Str → Option Value) (base : Heap) (xc : XC) : Prop where
  t__law_is_right : TbAt mg base xc (He.codeOf K ("_law_is_right", none)) q__law_is_right
structure Facts (K : PySem.W.Frag) (mg : Str → Option Value) (xc : XC) : Prop where
  x_InvalidPaper : ExcF K mg xc "InvalidPaper" 0 ["word", "at"] (clsInit (top 6) 0)
  x_NotUsable : ExcF K mg xc "NotUsable" 1 ["word", "at"] (clsInit (top 7) 0)
  x_InvalidStep : ExcF K mg xc "InvalidStep" 2 ["step", "word"] (clsInit (top 8) 0)
  x_InvalidText : ExcF K mg xc "InvalidText" 3 ["line", "field"] (clsInit (top 9) 0)
  xcok : XcOk K xc (xnmL xsL)
  is_HouseError : IsK K mg xc "HouseError" [false, false, false, false, false]
  is_InvalidPaper : IsK K mg xc "InvalidPaper" [true, false, false, false, false]
  is_InvalidRow : IsK K mg xc "InvalidRow" [false, false, false, false, true]
  is_InvalidStep : IsK K mg xc "InvalidStep" [false, false, true, false, false]
  is_InvalidText : IsK K mg xc "InvalidText" [false, false, false, true, false]
  is_NotUsable : IsK K mg xc "NotUsable" [false, true, false, false, false]
  is_PaperError : IsK K mg xc "PaperError" [true, false, false, false, false]
  is_ProgramError : IsK K mg xc "ProgramError" [false, true, true, false, false]
  is_TextError : IsK K mg xc "TextError" [false, false, false, true, true]
  is_ValueError : IsK K mg xc "ValueError" [true, true, true, true, true]
  hc : mg "PipeError" = some (.ref (He.ga K "PipeError")) ∧ ∀ k, k < 5 → ∃ C, xc.cls k = .ref C ∧ PySem.W.exmOne K (.ref C) (.ref (He.ga K "PipeError")) = some true
  d_is_name : ∃ f fd, f = He.ga K "is_name" ∧ mg "is_name" = some (.ref f) ∧ FunD K "is_name" "is_name" (defArgs (top 17)) (defBody (top 17)) (defScope (top 17)) [] [] f fd
  d_words_of : ∃ f fd, f = He.ga K "words_of" ∧ mg "words_of" = some (.ref f) ∧ FunD K "words_of" "words_of" (defArgs (top 21)) (defBody (top 21)) (defScope (top 21)) [] [] f fd
  d__is_number_word : ∃ f fd, f = He.ga K "_is_number_word" ∧ mg "_is_number_word" = some (.ref f) ∧ FunD K "_is_number_word" "_is_number_word" (defArgs (top 23)) (defBody (top 23)) (defScope (top 23)) [] [] f fd
  d_numbers_of : ∃ f fd, f = He.ga K "numbers_of" ∧ mg "numbers_of" = some (.ref f) ∧ FunD K "numbers_of" "numbers_of" (defArgs (top 24)) (defBody (top 24)) (defScope (top 24)) [] [] f fd
  d__is_targets_word : ∃ f fd, f = He.ga K "_is_targets_word" ∧ mg "_is_targets_word" = some (.ref f) ∧ FunD K "_is_targets_word" "_is_targets_word" (defArgs (top 25)) (defBody (top 25)) (defScope (top 25)) [] [] f fd
  d__can_stand : ∃ f fd, f = He.ga K "_can_stand" ∧ mg "_can_stand" = some (.ref f) ∧ FunD K "_can_stand" "_can_stand" (defArgs (top 26)) (defBody (top 26)) (defScope (top 26)) [] [] f fd
  d_check_words : ∃ f fd, f = He.ga K "check_words" ∧ mg "check_words" = some (.ref f) ∧ FunD K "check_words" "check_words" (defArgs (top 22)) (defBody (top 22)) (defScope (top 22)) [] [] f fd
  d_need : ∃ f fd, f = He.ga K "need" ∧ mg "need" = some (.ref f) ∧ FunD K "need" "need" (defArgs (top 28)) (defBody (top 28)) (defScope (top 28)) [] [] f fd
  d_step_in : ∃ f fd, f = He.ga K "step_in" ∧ mg "step_in" = some (.ref f) ∧ FunD K "step_in" "step_in" (defArgs (top 32)) (defBody (top 32)) (defScope (top 32)) [] [] f fd
  d_read_step : ∃ f fd, f = He.ga K "read_step" ∧ mg "read_step" = some (.ref f) ∧ FunD K "read_step" "read_step" (defArgs (top 30)) (defBody (top 30)) (defScope (top 30)) [] [] f fd
  d_read_run : ∃ f fd, f = He.ga K "read_run" ∧ mg "read_run" = some (.ref f) ∧ FunD K "read_run" "read_run" (defArgs (top 31)) (defBody (top 31)) (defScope (top 31)) [] [] f fd
  d__law_draw : ∃ f fd, f = He.ga K "_law_draw" ∧ mg "_law_draw" = some (.ref f) ∧ FunD K "_law_draw" "_law_draw" (defArgs (top 35)) (defBody (top 35)) (defScope (top 35)) [] [] f fd
  d__law_any : ∃ f fd, f = He.ga K "_law_any" ∧ mg "_law_any" = some (.ref f) ∧ FunD K "_law_any" "_law_any" (defArgs (top 36)) (defBody (top 36)) (defScope (top 36)) [] [] f fd
  d__law_refusal : ∃ f fd, f = He.ga K "_law_refusal" ∧ mg "_law_refusal" = some (.ref f) ∧ FunD K "_law_refusal" "_law_refusal" (defArgs (top 37)) (defBody (top 37)) (defScope (top 37)) [] [] f fd
  d__law_words : ∃ f fd, f = He.ga K "_law_words" ∧ mg "_law_words" = some (.ref f) ∧ FunD K "_law_words" "_law_words" (defArgs (top 39)) (defBody (top 39)) (defScope (top 39)) [] [] f fd
  d__law_line_of : ∃ f fd, f = He.ga K "_law_line_of" ∧ mg "_law_line_of" = some (.ref f) ∧ FunD K "_law_line_of" "_law_line_of" (defArgs (top 40)) (defBody (top 40)) (defScope (top 40)) [] [] f fd
  d__law_text_of : ∃ f fd, f = He.ga K "_law_text_of" ∧ mg "_law_text_of" = some (.ref f) ∧ FunD K "_law_text_of" "_law_text_of" (defArgs (top 41)) (defBody (top 41)) (defScope (top 41)) [] [] f fd
  d__law_loose : ∃ f fd, f = He.ga K "_law_loose" ∧ mg "_law_loose" = some (.ref f) ∧ FunD K "_law_loose" "_law_loose" (defArgs (top 42)) (defBody (top 42)) (defScope (top 42)) [] [] f fd
  d__law_is_number : ∃ f fd, f = He.ga K "_law_is_number" ∧ mg "_law_is_number" = some (.ref f) ∧ FunD K "_law_is_number" "_law_is_number" (defArgs (top 43)) (defBody (top 43)) (defScope (top 43)) [] [] f fd
  d__law_step_in : ∃ f fd, f = He.ga K "_law_step_in" ∧ mg "_law_step_in" = some (.ref f) ∧ FunD K "_law_step_in" "_law_step_in" (defArgs (top 44)) (defBody (top 44)) (defScope (top 44)) [] [] f fd
  d__law_steps_in : ∃ f fd, f = He.ga K "_law_steps_in" ∧ mg "_law_steps_in" = some (.ref f) ∧ FunD K "_law_steps_in" "_law_steps_in" (defArgs (top 45)) (defBody (top 45)) (defScope (top 45)) [] [] f fd
  d__law_strange : ∃ f fd, f = He.ga K "_law_strange" ∧ mg "_law_strange" = some (.ref f) ∧ FunD K "_law_strange" "_law_strange" (defArgs (top 46)) (defBody (top 46)) (defScope (top 46)) [] [] f fd
  d__law_bent : ∃ f fd, f = He.ga K "_law_bent" ∧ mg "_law_bent" = some (.ref f) ∧ FunD K "_law_bent" "_law_bent" (defArgs (top 47)) (defBody (top 47)) (defScope (top 47)) [] [] f fd
  d__law_is_right : ∃ f fd, f = He.ga K "_law_is_right" ∧ mg "_law_is_right" = some (.ref f) ∧ FunD K "_law_is_right" "_law_is_right" (defArgs (top 48)) (defBody (top 48)) (defScope (top 48)) [] [] f fd
  d__law_start : ∃ f fd, f = He.ga K "_law_start" ∧ mg "_law_start" = some (.ref f) ∧ FunD K "_law_start" "_law_start" (defArgs (top 34)) (defBody (top 34)) (defScope (top 34)) [] [] f fd
  d_law : ∃ f fd, f = He.ga K "law" ∧ mg "law" = some (.ref f) ∧ FunD K "law" "law" (defArgs (top 49)) (defBody (top 49)) (defScope (top 49)) [] [] f fd
  d__law_said : ∃ f fd, f = He.ga K "_law_said" ∧ mg "_law_said" = some (.ref f) ∧ FunD K "_law_said" "_law_said" (defArgs (top 38)) (defBody (top 38)) (defScope (top 38)) [] [] f fd
  b_ValueError : mg "ValueError" = none
  b_all : mg "all" = none
  b_enumerate : mg "enumerate" = none
  b_int : mg "int" = none
  b_isinstance : mg "isinstance" = none
  b_len : mg "len" = none
  b_range : mg "range" = none
  b_repr : mg "repr" = none
  b_str : mg "str" = none
  b_tuple : mg "tuple" = none
  b_zip : mg "zip" = none
  k_BIRTHS : GData K mg "BIRTHS" c_BIRTHS
  k_DIGITS : GData K mg "DIGITS" c_DIGITS
  k_ENDS : GData K mg "ENDS" c_ENDS
  k_LETTERS : GData K mg "LETTERS" c_LETTERS
  k_MOST_DIGITS : GData K mg "MOST_DIGITS" c_MOST_DIGITS
  k_SWITCHES : GData K mg "SWITCHES" c_SWITCHES
  k_WORDS : GData K mg "WORDS" c_WORDS
def m_is_name : MS := sSeq (sIf (bOr (bNot (tT (eUn (gIsI "str") (eVar 0)))) (bOr (tB (eBin gLt (eList gLen (aCons (eVar 0) (aNil))) (eC (.int 1)))) (tB (eBin gGt (eList gLen (aCons (eVar 0) (aNil))) (eC (.int 8)))))) (sRet (eC (.bool false))) (sSkip)) (sRet (eList gAll (aCons (eComp [1] (iSeq (eVar 0)) (gmName 1) (bYes) (eBin gIn (eVar 1) (eC c_LETTERS))) (aNil))))
def f_is_name : List D → FS → R D := mfun 2 1 false m_is_name
def m_words_of : MS := sRet (eMt "str" gSplit (eVar 0) (aCons (eC (.str " ")) (aNil)))
def f_words_of : List D → FS → R D := mfun 1 1 false m_words_of
def m__is_number_word : MS := sSeq (sIf (bOr (tB (eBin gEq (eVar 0) (eC (.str "")))) (bOr (tB (eBin gGt (eList gLen (aCons (eVar 0) (aNil))) (eC c_MOST_DIGITS))) (bNot (tT (eList gAll (aCons (eComp [1] (iSeq (eVar 0)) (gmName 1) (bYes) (eBin gIn (eVar 1) (eC c_DIGITS))) (aNil))))))) (sRet (eC (.bool false))) (sSkip)) (sRet (eOr (eBin gEq (eVar 0) (eC (.str "0"))) (eBin gNe (eBin gIx (eVar 0) (eC (.int 0))) (eC (.str "0")))))
def f__is_number_word : List D → FS → R D := mfun 2 1 false m__is_number_word
def m_numbers_of : MS := sRet (eList gTuple (aCons (eComp [1] (iSeq (eMt "str" gSplit (eVar 0) (aCons (eC (.str ",")) (aNil)))) (gmName 1) (bYes) (eList gInt (aCons (eVar 1) (aNil)))) (aNil)))
def f_numbers_of : List D → FS → R D := mfun 2 1 false m_numbers_of
def m__is_targets_word : MS := sSeq (sIf (bNot (tT (eList gAll (aCons (eComp [2] (iSeq (eMt "str" gSplit (eVar 0) (aCons (eC (.str ",")) (aNil)))) (gmName 2) (bYes) (eCall false f__is_number_word (aCons (eVar 2) (aNil)))) (aNil))))) (sRet (eC (.bool false))) (sSkip)) (sSeq (sSet 1 (eCall false f_numbers_of (aCons (eVar 0) (aNil)))) (sRet (eList gAll (aCons (eComp [3, 4] (iArgs zip2 (aCons (eVar 1) (aCons (eSl (eVar 1) (oAt (eC (.int 1))) (oNo)) (aNil)))) (gmTup 2 (gmCons (gmName 3) (gmCons (gmName 4) (gmNil)))) (bYes) (eBin gLt (eVar 3) (eVar 4))) (aNil)))))
def f__is_targets_word : List D → FS → R D := mfun 5 1 false m__is_targets_word
def m__can_stand : MS := sSeq (sIf (tB (eBin gEq (eVar 0) (eC (.str "number")))) (sRet (eCall false f__is_number_word (aCons (eVar 1) (aNil)))) (sSkip)) (sSeq (sIf (tB (eBin gEq (eVar 0) (eC (.str "targets")))) (sRet (eCall false f__is_targets_word (aCons (eVar 1) (aNil)))) (sSkip)) (sSeq (sIf (tB (eBin gEq (eVar 0) (eC (.str "name")))) (sRet (eCall false f_is_name (aCons (eVar 1) (aNil)))) (sSkip)) (sSeq (sIf (tB (eBin gEq (eVar 0) (eC (.str "end")))) (sRet (eBin gIn (eVar 1) (eC c_ENDS))) (sSkip)) (sSeq (sIf (tB (eBin gEq (eVar 0) (eC (.str "birth")))) (sRet (eBin gIn (eVar 1) (eC c_BIRTHS))) (sSkip)) (sSeq (sIf (tB (eBin gEq (eVar 0) (eC (.str "step")))) (sRet (eOr (eBin gEq (eVar 1) (eC (.str "aside"))) (eAnd (eBin gIn (eVar 1) (eC c_WORDS)) (eBin gNe (eVar 1) (eC (.str "stay")))))) (sSkip)) (sSeq (sIf (tB (eBin gEq (eVar 0) (eC (.str "switch")))) (sRet (eBin gIn (eVar 1) (eC c_SWITCHES))) (sSkip)) (sSeq (sIf (tB (eBin gEq (eVar 0) (eC (.str "count")))) (sRet (eAnd (eCall false f__is_number_word (aCons (eVar 1) (aNil))) (eBin gNe (eVar 1) (eC (.str "0"))))) (sSkip)) (sRet (eBin gIn (eVar 1) (eTup (aCons (eC (.str "open")) (aCons (eC (.str "marked")) (aNil)))))))))))))
def f__can_stand : List D → FS → R D := mfun 2 2 false m__can_stand
def m_check_words : MS := sSeq (sFor (iArgs enumLT (aCons (eVar 2) (aNil))) (gmTup 2 (gmCons (gmName 4) (gmCons (gmName 5) (gmNil)))) (sIf (bOr (tB (eBin gGe (eBin gAdd (eVar 1) (eVar 4)) (eList gLen (aCons (eVar 0) (aNil))))) (bNot (tT (eCall false f__can_stand (aCons (eVar 5) (aCons (eBin gIx (eVar 0) (eBin gAdd (eVar 1) (eVar 4))) (aNil))))))) (sRaise 3 2 (aCons (eVar 3) (aCons (eBin gAdd (eVar 1) (eVar 4)) (aNil)))) (sSkip))) (sIf (tB (eBin gGt (eList gLen (aCons (eVar 0) (aNil))) (eBin gAdd (eVar 1) (eList gLen (aCons (eVar 2) (aNil)))))) (sRaise 3 2 (aCons (eVar 3) (aCons (eBin gAdd (eVar 1) (eList gLen (aCons (eVar 2) (aNil)))) (aNil)))) (sSkip))
def f_check_words : List D → FS → R D := mfun 6 4 false m_check_words
def m_need : MS := sIf (bNot (tT (eVar 0))) (sRaise 1 2 (aCons (eVar 1) (aCons (eUn gNeg (eC (.int 1))) (aNil)))) (sSkip)
def f_need : List D → FS → R D := mfun 2 2 false m_need
def m_step_in : MS := sSeq (sSet 3 (eAnd (eBin gGt (eList gLen (aCons (eVar 0) (aNil))) (eBin gAdd (eVar 1) (eC (.int 1)))) (eBin gIn (eBin gIx (eVar 0) (eBin gAdd (eVar 1) (eC (.int 1)))) (eTup (aCons (eC (.str "go")) (aCons (eC (.str "aside")) (aNil))))))) (sSeq (sDrop (eCall false f_check_words (aCons (eVar 0) (aCons (eVar 1) (aCons (eIf (tT (eVar 3)) (eTup (aCons (eC (.str "number")) (aCons (eC (.str "step")) (aCons (eC (.str "number")) (aNil))))) (eTup (aCons (eC (.str "number")) (aCons (eC (.str "step")) (aNil))))) (aCons (eVar 2) (aNil))))))) (sRet (eTup (aCons (eList gInt (aCons (eBin gIx (eVar 0) (eVar 1)) (aNil))) (aCons (eBin gIx (eVar 0) (eBin gAdd (eVar 1) (eC (.int 1)))) (aCons (eIf (tT (eVar 3)) (eList gInt (aCons (eBin gIx (eVar 0) (eBin gAdd (eVar 1) (eC (.int 2)))) (aNil))) (eUn gNeg (eC (.int 1)))) (aNil)))))))
def f_step_in : List D → FS → R D := mfun 4 3 false m_step_in
def m_read_step : MS := sSeq (sDrop (eCall false f_need (aCons (eUn (gIsI "str") (eVar 0)) (aCons (eC (.str "text")) (aNil))))) (sRet (eCall false f_step_in (aCons (eCall false f_words_of (aCons (eVar 0) (aNil))) (aCons (eC (.int 0)) (aCons (eC (.int 0)) (aNil))))))
def f_read_step : List D → FS → R D := mfun 1 1 false m_read_step
def m_read_run : MS := sSeq (sDrop (eCall false f_need (aCons (eUn (gIsI "str") (eVar 0)) (aCons (eC (.str "text")) (aNil))))) (sSeq (sIf (tB (eBin gEq (eVar 0) (eC (.str "-")))) (sRet (eTup (aNil))) (sSkip)) (sRet (eList gTuple (aCons (eCompX [1, 2] (iArgs enumLT (aCons (eMt "str" gSplit (eVar 0) (aCons (eC (.str "\n")) (aNil))) (aNil))) (gmTup 2 (gmCons (gmName 1) (gmCons (gmName 2) (gmNil)))) (bYes) (eCall false f_step_in (aCons (eCall false f_words_of (aCons (eVar 2) (aNil))) (aCons (eC (.int 0)) (aCons (eVar 1) (aNil)))))) (aNil)))))
def f_read_run : List D → FS → R D := mfun 3 1 false m_read_run
def m__law_draw : MS := sSeq (sSet 2 (eBin gAdd (eFd 0 3) (eC (.int 1)))) (sSeq (sFdPut 0 3 (eVar 2)) (sSeq (sIf (tB (eBin gGt (eFd 0 2) (eC (.int 0)))) (sSeq (sSet 5 (eBin gMod (eList gInt (aCons (eFd 0 2) (aNil))) (eVar 1))) (sSeq (sFdPut 0 2 (eBin gFDiv (eFd 0 2) (eVar 1))) (sRet (eVar 5)))) (sSkip)) (sSeq (sPar 6 7 (aCons (eFd 0 0) (aCons (eFd 0 1) (aNil)))) (sSeq (sFdPut 0 1 (eBin gAdd (eVar 7) (eC (.int 1)))) (sSeq (sSet 3 (eIf (tB (eBin gNe (eVar 6) (eLst (aNil)))) (eBin gIx (eVar 6) (eBin gMod (eList gInt (aCons (eVar 7) (aNil))) (eList gLen (aCons (eVar 6) (aNil))))) (eC (.int 22939)))) (sSeq (sIf (bAnd (tB (eBin gGe (eVar 3) (eBin gPow (eC (.int 10)) (eC (.int 18))))) (tB (eBin gLt (eVar 7) (eList gLen (aCons (eVar 6) (aNil)))))) (sSeq (sFdPut 0 2 (eBin gFDiv (eVar 3) (eVar 1))) (sRet (eBin gMod (eList gInt (aCons (eVar 3) (aNil))) (eVar 1)))) (sSkip)) (sSeq (sSet 4 (eBin gMod (eList gInt (aCons (eBin gPow (eBin gAdd (eBin gAdd (eBin gMod (eList gInt (aCons (eVar 3) (aNil))) (eC (.int 1000000683))) (eBin gMul (eC (.int 73173)) (eVar 2))) (eC (.int 1873))) (eC (.int 2))) (aNil))) (eC (.int 2147483563)))) (sSeq (sSet 4 (eBin gMod (eList gInt (aCons (eBin gPow (eBin gAdd (eBin gAdd (eVar 4) (eBin gMul (eBin gMul (eC (.int 9753)) (eVar 2)) (eVar 2))) (eC (.int 1085))) (eC (.int 3))) (aNil))) (eC (.int 2147483399)))) (sRet (eBin gMod (eList gInt (aCons (eBin gFDiv (eVar 4) (eC (.int 64))) (aNil))) (eVar 1)))))))))))
def f__law_draw : List D → FS → R D := mfun 8 1 true m__law_draw
def m__law_any : MS := sRet (eBin gIx (eVar 1) (eCall true f__law_draw (aFd 0 (aCons (eList gLen (aCons (eVar 1) (aNil))) (aNil)))))
def f__law_any : List D → FS → R D := mfun 2 1 true m__law_any
def m__law_refusal (xv : XV) : MS := sSeq (sOwn 1 (aCons (eXi [true, false, false, false, false] xv 0) (aCons (eXi [false, true, true, false, false] xv 0) (aCons (eXi [false, false, false, false, false] xv 0) (aNil))))) (sSeq (sApp 1 (eXi [false, false, false, true, true] xv 0)) (sSeq (sFrz 1 (sIf (bOr (tB (eBin gNe (eMt "list" gCount (eVar 1) (aCons (eC (.bool true)) (aNil))) (eC (.int 1)))) (bNot (tT (eXi [true, true, true, true, true] xv 0)))) (sRet (eTup (aCons (eC (.str "no")) (aCons (eC (.str "odd")) (aNil))))) (sSkip))) (sSeq (sIf (bAnd (tT (eBin gIx (eVar 1) (eC (.int 0)))) (tT (eXi [true, false, false, false, false] xv 0))) (sRet (eTup (aCons (eC (.str "no")) (aCons (eC (.str "paper")) (aCons (eXf (xnmL xsL) xv "word" 0) (aCons (eXf (xnmL xsL) xv "at" 0) (aNil))))))) (sSkip)) (sSeq (sIf (bAnd (tT (eBin gIx (eVar 1) (eC (.int 1)))) (bAnd (tT (eXi [false, true, false, false, false] xv 0)) (bNot (tT (eXi [false, false, true, false, false] xv 0))))) (sRet (eTup (aCons (eC (.str "no")) (aCons (eC (.str "use")) (aCons (eXf (xnmL xsL) xv "word" 0) (aCons (eXf (xnmL xsL) xv "at" 0) (aNil))))))) (sSkip)) (sSeq (sIf (bAnd (tT (eBin gIx (eVar 1) (eC (.int 1)))) (bAnd (tT (eXi [false, false, true, false, false] xv 0)) (bNot (tT (eXi [false, true, false, false, false] xv 0))))) (sRet (eTup (aCons (eC (.str "no")) (aCons (eC (.str "step")) (aCons (eXf (xnmL xsL) xv "step" 0) (aCons (eXf (xnmL xsL) xv "word" 0) (aNil))))))) (sSkip)) (sSeq (sIf (bAnd (tT (eBin gIx (eVar 1) (eC (.int 3)))) (bAnd (tT (eXi [false, false, false, true, false] xv 0)) (bNot (tT (eXi [false, false, false, false, true] xv 0))))) (sRet (eTup (aCons (eC (.str "no")) (aCons (eC (.str "text")) (aCons (eXf (xnmL xsL) xv "line" 0) (aCons (eXf (xnmL xsL) xv "field" 0) (aNil))))))) (sSkip)) (sRet (eTup (aCons (eC (.str "no")) (aCons (eC (.str "odd")) (aNil)))))))))))
def f__law_refusal : XV → Option D := xfun 2 m__law_refusal
def m__law_words : MS := sRet (eLst (aCons (eC (.str "go")) (aCons (eC (.str "copy")) (aCons (eC (.str "start")) (aCons (eC (.str "mark")) (aCons (eC (.str "close")) (aCons (eC (.str "read")) (aCons (eC (.str "write")) (aCons (eC (.str "wait")) (aCons (eC (.str "end")) (aCons (eC (.str "aside")) (aNil))))))))))))
def f__law_words : List D → FS → R D := mfun 0 0 false m__law_words
def m__law_line_of : MS := sRet (eMt "str" gJoin (eC (.str " ")) (aCons (eBin gAdd (eLst (aCons (eList gStr2 (aCons (eBin gIx (eVar 0) (eC (.int 0))) (aNil))) (aCons (eBin gIx (eVar 0) (eC (.int 1))) (aNil)))) (eIf (tB (eBin gIn (eBin gIx (eVar 0) (eC (.int 1))) (eLst (aCons (eC (.str "go")) (aCons (eC (.str "aside")) (aNil)))))) (eLst (aCons (eList gStr2 (aCons (eBin gIx (eVar 0) (eC (.int 2))) (aNil))) (aNil))) (eLst (aNil)))) (aNil)))
def f__law_line_of : List D → FS → R D := mfun 1 1 false m__law_line_of
def m__law_text_of : MS := sRet (eIf (tB (eBin gGt (eList gLen (aCons (eVar 0) (aNil))) (eC (.int 0)))) (eMt "str" gJoin (eC (.str "\n")) (aCons (eComp [1] (iSeq (eVar 0)) (gmName 1) (bYes) (eCall false f__law_line_of (aCons (eVar 1) (aNil)))) (aNil))) (eC (.str "-")))
def f__law_text_of : List D → FS → R D := mfun 2 1 false m__law_text_of
def m__law_loose : MS := sSeq (sParOwn 3 4 (aNil) (eLst (aCons (eC (.int 0)) (aCons (eC (.int 1)) (aCons (eC (.int 2)) (aCons (eC (.int 7)) (aCons (eC (.int 9)) (aCons (eC (.int 10)) (aCons (eC (.int 59)) (aCons (eC (.int 100)) (aCons (eBin gPow (eC (.int 10)) (eC (.int 59))) (aCons (eBin gSub (eBin gPow (eC (.int 10)) (eC (.int 60))) (eC (.int 1))) (aNil))))))))))))) (sSeq (sFor (iArgs rng1 (aCons (eCall true f__law_draw (aFd 0 (aCons (eBin gAdd (eVar 1) (eC (.int 1))) (aNil)))) (aNil))) (gmName 2) (sSeq (sSet 5 (eCall true f__law_any (aFd 0 (aCons (eCall false f__law_words aNil) (aNil))))) (sSeq (sSet 6 (eIf (tB (eBin gIn (eVar 5) (eLst (aCons (eC (.str "go")) (aCons (eC (.str "aside")) (aNil)))))) (eCall true f__law_any (aFd 0 (aCons (eVar 4) (aNil)))) (eUn gNeg (eC (.int 1))))) (sApp 3 (eTup (aCons (eCall true f__law_any (aFd 0 (aCons (eVar 4) (aNil)))) (aCons (eVar 5) (aCons (eVar 6) (aNil))))))))) (sFrz 3 (sRet (eList gTuple (aCons (eVar 3) (aNil))))))
def f__law_loose : List D → FS → R D := mfun 7 1 true m__law_loose
def m__law_is_number : MS := sSeq (sSet 1 (eComp [2] (iSeq (eVar 0)) (gmName 2) (tB (eBin gNotIn (eVar 2) (eC (.str "0123456789")))) (eVar 2))) (sRet (eAnd (eBin gNe (eVar 0) (eC (.str ""))) (eAnd (eBin gEq (eVar 1) (eLst (aNil))) (eAnd (eBin gLt (eList gLen (aCons (eVar 0) (aNil))) (eC (.int 61))) (eOr (eBin gEq (eVar 0) (eC (.str "0"))) (eBin gNe (eBin gIx (eVar 0) (eC (.int 0))) (eC (.str "0"))))))))
def f__law_is_number : List D → FS → R D := mfun 3 1 false m__law_is_number
def m__law_step_in : MS := sSeq (sSet 2 (eMt "str" gSplit (eVar 0) (aCons (eC (.str " ")) (aNil)))) (sSeq (sIf (bNot (tT (eCall false f__law_is_number (aCons (eBin gIx (eVar 2) (eC (.int 0))) (aNil))))) (sRet (eTup (aCons (eC (.str "no")) (aCons (eC (.str "text")) (aCons (eVar 1) (aCons (eC (.int 0)) (aNil))))))) (sSkip)) (sSeq (sIf (bOr (tB (eBin gLt (eList gLen (aCons (eVar 2) (aNil))) (eC (.int 2)))) (tB (eBin gNotIn (eBin gIx (eVar 2) (eC (.int 1))) (eCall false f__law_words aNil)))) (sRet (eTup (aCons (eC (.str "no")) (aCons (eC (.str "text")) (aCons (eVar 1) (aCons (eC (.int 1)) (aNil))))))) (sSkip)) (sSeq (sIf (tB (eBin gNotIn (eBin gIx (eVar 2) (eC (.int 1))) (eLst (aCons (eC (.str "go")) (aCons (eC (.str "aside")) (aNil)))))) (sRet (eIf (tB (eBin gEq (eList gLen (aCons (eVar 2) (aNil))) (eC (.int 2)))) (eTup (aCons (eC (.str "told")) (aCons (eTup (aCons (eList gInt (aCons (eBin gIx (eVar 2) (eC (.int 0))) (aNil))) (aCons (eBin gIx (eVar 2) (eC (.int 1))) (aCons (eUn gNeg (eC (.int 1))) (aNil))))) (aNil)))) (eTup (aCons (eC (.str "no")) (aCons (eC (.str "text")) (aCons (eVar 1) (aCons (eC (.int 2)) (aNil)))))))) (sSkip)) (sSeq (sIf (bOr (tB (eBin gLt (eList gLen (aCons (eVar 2) (aNil))) (eC (.int 3)))) (bNot (tT (eCall false f__law_is_number (aCons (eBin gIx (eVar 2) (eC (.int 2))) (aNil)))))) (sRet (eTup (aCons (eC (.str "no")) (aCons (eC (.str "text")) (aCons (eVar 1) (aCons (eC (.int 2)) (aNil))))))) (sSkip)) (sRet (eIf (tB (eBin gEq (eList gLen (aCons (eVar 2) (aNil))) (eC (.int 3)))) (eTup (aCons (eC (.str "told")) (aCons (eTup (aCons (eList gInt (aCons (eBin gIx (eVar 2) (eC (.int 0))) (aNil))) (aCons (eBin gIx (eVar 2) (eC (.int 1))) (aCons (eList gInt (aCons (eBin gIx (eVar 2) (eC (.int 2))) (aNil))) (aNil))))) (aNil)))) (eTup (aCons (eC (.str "no")) (aCons (eC (.str "text")) (aCons (eVar 1) (aCons (eC (.int 3)) (aNil))))))))))))
def f__law_step_in : List D → FS → R D := mfun 3 2 false m__law_step_in
def m__law_steps_in : MS := sSeq (sIf (tB (eBin gEq (eVar 0) (eC (.str "-")))) (sRet (eTup (aCons (eC (.str "told")) (aCons (eTup (aNil)) (aNil))))) (sSkip)) (sSeq (sParOwn 2 3 (aNil) (eMt "str" gSplit (eVar 0) (aCons (eC (.str "\n")) (aNil)))) (sSeq (sFor (iArgs rng1 (aCons (eList gLen (aCons (eVar 3) (aNil))) (aNil))) (gmName 1) (sSeq (sSet 4 (eCall false f__law_step_in (aCons (eBin gIx (eVar 3) (eVar 1)) (aCons (eVar 1) (aNil))))) (sSeq (sIf (tB (eBin gEq (eBin gIx (eVar 4) (eC (.int 0))) (eC (.str "no")))) (sRet (eVar 4)) (sSkip)) (sApp 2 (eBin gIx (eVar 4) (eC (.int 1))))))) (sFrz 2 (sRet (eTup (aCons (eC (.str "told")) (aCons (eList gTuple (aCons (eVar 2) (aNil))) (aNil))))))))
def f__law_steps_in : List D → FS → R D := mfun 5 1 false m__law_steps_in
def m__law_strange : MS := sSeq (sSet 0 (eLst (aCons (eC (.str "")) (aCons (eC (.str "-")) (aCons (eC (.str "0")) (aCons (eC (.str "7")) (aCons (eC (.str "00")) (aCons (eC (.str "01")) (aCons (eC (.str "-1")) (aCons (eC (.str "+1")) (aCons (eC (.str "1.0")) (aCons (eC (.str "A")) (aCons (eC (.str "Go")) (aCons (eC (.str "stay")) (aCons (eC (.str "kill")) (aCons (eC (.str "ends")) (aCons (eC (.str "e")) (aCons (eC (.str "go,1")) (aCons (eC (.str "1_0")) (aNil)))))))))))))))))))) (sSeq (sSet 0 (eBin gAdd (eVar 0) (eLst (aCons (eBin gMul2 (eC (.str "1")) (eC (.int 60))) (aCons (eBin gMul2 (eC (.str "1")) (eC (.int 61))) (aCons (eBin gMul2 (eC (.str "0")) (eC (.int 60))) (aCons (eC (.str "go")) (aCons (eC (.str "aside")) (aCons (eC (.str "end")) (aCons (eC (.str "read")) (aCons (eC (.str "copy")) (aCons (eC (.str "x y")) (aNil))))))))))))) (sRet (eBin gAdd (eVar 0) (eLst (aCons (eC (.str "\n")) (aCons (eC (.str "0 end")) (aCons (eC (.str "0 go 1")) (aCons (eC (.str "end\n")) (aCons (eC (.str "\n1")) (aCons (eC (.str " ")) (aCons (eC (.str "1 ")) (aNil))))))))))))
def f__law_strange : List D → FS → R D := mfun 1 0 false m__law_strange
def m__law_bent : MS := sSeq (sParSplit 6 7 (eCall true f__law_draw (aFd 0 (aCons (eC (.int 7)) (aNil)))) (eVar 1) "\n") (sSeq (sSet 2 (eBor 7 (eCall true f__law_draw (aFd 0 (aCons (eList gLen (aCons (eVar 7) (aNil))) (aNil)))))) (sSeq (sSet 3 (eMt "str" gSplit (eOwnIx 7 (eVar 2)) (aCons (eC (.str " ")) (aNil)))) (sSeq (sSet 4 (eCall true f__law_draw (aFd 0 (aCons (eBin gAdd (eList gLen (aCons (eVar 3) (aNil))) (eC (.int 1))) (aNil))))) (sSeq (sIf (tB (eBin gEq (eVar 6) (eC (.int 0)))) (sSet 3 (eBin gAdd (eSl (eVar 3) (oNo) (oAt (eVar 4))) (eSl (eVar 3) (oAt (eBin gAdd (eVar 4) (eC (.int 1)))) (oNo)))) (sSkip)) (sSeq (sIf (tB (eBin gEq (eVar 6) (eC (.int 1)))) (sSet 3 (eBin gAdd (eBin gAdd (eSl (eVar 3) (oNo) (oAt (eVar 4))) (eLst (aCons (eCall true f__law_any (aFd 0 (aCons (eCall false f__law_strange aNil) (aNil)))) (aNil)))) (eSl (eVar 3) (oAt (eVar 4)) (oNo)))) (sSkip)) (sSeq (sIf (bOr (tB (eBin gEq (eVar 6) (eC (.int 2)))) (tB (eBin gEq (eVar 6) (eC (.int 3))))) (sSet 3 (eBin gAdd (eBin gAdd (eSl (eVar 3) (oNo) (oAt (eVar 4))) (eLst (aCons (eCall true f__law_any (aFd 0 (aCons (eCall false f__law_strange aNil) (aNil)))) (aNil)))) (eSl (eVar 3) (oAt (eBin gAdd (eVar 4) (eC (.int 1)))) (oNo)))) (sSkip)) (sSeq (sIf (tB (eBin gEq (eVar 6) (eC (.int 4)))) (sSet 3 (eBin gAdd (eBin gAdd (eSl (eVar 3) (oNo) (oAt (eVar 4))) (eSl (eVar 3) (oAt (eBin gSub (eVar 4) (eC (.int 1)))) (oAt (eVar 4)))) (eSl (eVar 3) (oAt (eVar 4)) (oNo)))) (sSkip)) (sSeq (sSetIx 7 (eVar 2) (eMt "str" gJoin (eC (.str " ")) (aCons (eVar 3) (aNil)))) (sSeq (sFrz 7 (sSet 5 (eMt "str" gJoin (eC (.str "\n")) (aCons (eVar 7) (aNil))))) (sSeq (sIf (tB (eBin gGt (eVar 6) (eC (.int 4)))) (sSeq (sSet 4 (eCall true f__law_draw (aFd 0 (aCons (eBin gAdd (eList gLen (aCons (eVar 5) (aNil))) (eC (.int 1))) (aNil))))) (sSet 5 (eBin gAdd (eBin gAdd (eSl (eVar 5) (oNo) (oAt (eVar 4))) (eCall true f__law_any (aFd 0 (aCons (eLst (aCons (eC (.str "")) (aCons (eC (.str " ")) (aCons (eC (.str "\n")) (aCons (eC (.str "-")) (aCons (eC (.str "0")) (aCons (eC (.str "1")) (aCons (eC (.str "e")) (aCons (eC (.str "g")) (aNil)))))))))) (aNil))))) (eSl (eVar 5) (oAt (eBin gSub (eBin gAdd (eVar 4) (eVar 6)) (eC (.int 5)))) (oNo))))) (sSkip)) (sRet (eVar 5))))))))))))
def f__law_bent : List D → FS → R D := mfun 8 1 true m__law_bent
def m__law_is_right : MS := sSeq (sOwn 1 (aCons (eHeard "told" 5 f__law_refusal (eCall false f_read_run (aCons (eVar 0) (aNil)))) (aNil))) (sSeq (sApp 1 (eHeard "told" 5 f__law_refusal (eCall false f_read_step (aCons (eVar 0) (aNil))))) (sFrz 1 (sRet (eBin gEq (eList gRepr (aCons (eVar 1) (aNil))) (eList gRepr (aCons (eLst (aCons (eCall false f__law_steps_in (aCons (eVar 0) (aNil))) (aCons (eCall false f__law_step_in (aCons (eVar 0) (aCons (eC (.int 0)) (aNil)))) (aNil)))) (aNil)))))))
def f__law_is_right : List D → FS → R D := mfun 2 1 false m__law_is_right
def m_law : MS := sSeq (sFor (iArgs rng1 (aCons (eC (.int 3)) (aNil))) (gmName 2) (sSeq (sSet 4 (eCall false f__law_text_of (aCons (eCall true f__law_loose (aFd 1 (aCons (eC (.int 8)) (aNil)))) (aNil)))) (sSeq (sIf (bNot (tT (eCall false f__law_is_right (aCons (eVar 4) (aNil))))) (sRet (eC (.bool false))) (sSkip)) (sFor (iArgs rng1 (aCons (eC (.int 9)) (aNil))) (gmName 5) (sSeq (sSet 6 (eCall true f__law_bent (aFd 1 (aCons (eVar 4) (aNil))))) (sSeq (sIf (bOr (bNot (tT (eCall false f__law_is_right (aCons (eVar 6) (aNil))))) (bNot (tT (eCall false f__law_is_right (aCons (eBin gIx (eMt "str" gSplit (eVar 6) (aCons (eC (.str "\n")) (aNil))) (eC (.int 0))) (aNil)))))) (sRet (eC (.bool false))) (sSkip)) (sIf (bAnd (tB (eBin gGt (eVar 5) (eC (.int 6)))) (bNot (tT (eCall false f__law_is_right (aCons (eCall true f__law_bent (aFd 1 (aCons (eVar 6) (aNil)))) (aNil)))))) (sRet (eC (.bool false))) (sSkip)))))))) (sSeq (sSet 3 (eLst (aCons (eC (.str "")) (aCons (eC (.str "-")) (aCons (eC (.str "--")) (aCons (eC (.str "- ")) (aCons (eC (.str " -")) (aCons (eC (.str "\n")) (aCons (eC (.str "-\n")) (aCons (eC (.str "-\n0 end")) (aCons (eC (.str "0 end\n-")) (aCons (eC (.str "0 end\n")) (aCons (eC (.str "\n0 end")) (aNil)))))))))))))) (sSeq (sSet 3 (eBin gAdd (eVar 3) (eLst (aCons (eC (.str "0 end\n\n1 end")) (aCons (eC (.str "0 go")) (aCons (eC (.str "0")) (aCons (eC (.str "0 ")) (aCons (eC (.str "0 go ")) (aCons (eC (.str "0 go 1 2")) (aCons (eC (.str "0 end 1")) (aCons (eC (.str "0  end")) (aCons (eC (.str "00 end")) (aNil))))))))))))) (sSeq (sSet 3 (eBin gAdd (eVar 3) (eLst (aCons (eC (.str "0 go 00")) (aCons (eC (.str "end")) (aCons (eC (.str "0 stay")) (aCons (eC (.str "0 go 1\n1 go\n2")) (aNil)))))))) (sRet (eBin gEq (eComp [4] (iSeq (eVar 3)) (gmName 4) (bNot (tT (eCall false f__law_is_right (aCons (eVar 4) (aNil))))) (eVar 4)) (eLst (aNil)))))))

end Mir

set_option Elab.async false
set_option linter.all false
set_option maxRecDepth 100000
set_option maxHeartbeats 0
namespace Mir
open PySem PySem.Spec PyProof.Rows L2
section
variable {P : Program} {w : World} {K : PySem.W.Frag} {mg : Str → Option Value} {base : Heap} {xc : XC}
theorem mk_NotUsable (T : Facts K mg xc) : MkAt P w K mg base xc "NotUsable" 1 ["word", "at"] :=
  mkAt2 (s0 := "self") T.x_NotUsable ⟨rfl, rfl, rfl, by decide +kernel, rfl, by decide +kernel, by decide +kernel⟩ rfl (fun _ _ _ _ _ _ us hl => match us, hl with | [_, _, _], _ => rfl) (by decide +kernel)
theorem mk_InvalidText (T : Facts K mg xc) : MkAt P w K mg base xc "InvalidText" 3 ["line", "field"] :=
  mkAt2 (s0 := "self") T.x_InvalidText ⟨rfl, rfl, rfl, by decide +kernel, rfl, by decide +kernel, by decide +kernel⟩ rfl (fun _ _ _ _ _ _ us hl => match us, hl with | [_, _, _], _ => rfl) (by decide +kernel)
abbrev n_is_name : List Str := ["thing", "letter"]
theorem sc_is_name : FnScope n_is_name ["thing"] (defScope (top 17)) := ⟨rfl, rfl, rfl, by decide +kernel, rfl, by decide +kernel, by decide +kernel⟩
theorem ok_is_name (T : Facts K mg xc) (TT : TbF K mg base xc) : DefAt P w K mg base xc "is_name" (top 17) ["thing"] 1 false f_is_name := by
  obtain ⟨f, fd, hf, hm, F⟩ := T.d_is_name
  subst hf
  refine defAt (N := n_is_name) F sc_is_name hm rfl (fun _ _ _ _ _ _ us hl => match us, hl with | [_], _ => rfl) (fun G hK hxc gok cdv hcd A outer s H E hr hgd => ?_)
  subst hxc
  have nd : (n_is_name).Nodup := sc_is_name.nd
  have hu := hr.units64
  have hu1 := hr.units1
  unfold m_is_name
  exact psCons (psIf (PW.pt (pwOr (ptNot (ptTru hK (mIsI hK rfl T.b_isinstance Bt.boot_isinstance rfl T.b_str Bt.boot_str (mVar 0 (pv 0)) (by decide) rfl (by decide) rfl rfl rfl rfl) (fun _ => rfl))) (pwOr (ptCmp (oLt hu) hK (mCallB cLen hK rfl T.b_len Bt.boot_len (paCons (mVar 0 (pv 0)) (paNil) rfl) (by decide) rfl rfl rfl) (mInt) rfl) (pwOneOr (ptCmp (oGt hu) hK (mCallB cLen hK rfl T.b_len Bt.boot_len (paCons (mVar 0 (pv 0)) (paNil) rfl) (by decide) rfl rfl rfl) (mInt) rfl))))) (psOne (psRet (mBool))) (psNil)) (psOne (psRet (mCallB (cAll rfl) hK rfl T.b_all Bt.boot_all (paCons (mComp (own := [("letter", 1)]) (g := gName 1) (tt := tYes) gok rfl nd (mSeq hK (mVar 0 (pv 0))) (blkOk_by (N := n_is_name) (sc := defScope (top 17)) (by decide +kernel)) (tgName (by decide)) (fun _ _ _ q => yes_read q) (fun _ _ _ _ _ => pg_name (i := 1) nd rfl (Or.inl rfl)) (fun _ _ _ _ _ => pts_nil) (fun _ _ _ _ _ => mCmp (oIn hu) hK (mVar 1 (pv 1)) (gC hK rfl rfl T.k_LETTERS) rfl) (fun _ => rfl)) (paNil) rfl) (by decide) rfl rfl rfl)))
abbrev n_words_of : List Str := ["line"]
theorem sc_words_of : FnScope n_words_of ["line"] (defScope (top 21)) := ⟨rfl, rfl, rfl, by decide +kernel, rfl, by decide +kernel, by decide +kernel⟩
theorem ok_words_of (T : Facts K mg xc) (TT : TbF K mg base xc) : DefAt P w K mg base xc "words_of" (top 21) ["line"] 1 false f_words_of := by
  obtain ⟨f, fd, hf, hm, F⟩ := T.d_words_of
  subst hf
  refine defAt (N := n_words_of) F sc_words_of hm rfl (fun _ _ _ _ _ _ us hl => match us, hl with | [_], _ => rfl) (fun G hK hxc gok cdv hcd A outer s H E hr hgd => ?_)
  subst hxc
  have nd : (n_words_of).Nodup := sc_words_of.nd
  have hu := hr.units64
  have hu1 := hr.units1
  unfold m_words_of
  exact psOne (psRet (mMeth hK PySem.F.plainAttrs_str PySem.F.slot_str_split PySem.F.type_str_split mtSplit (mVar 0 (pv 0)) (paCons (mStr) (paNil) rfl) rfl rfl rfl rfl rfl))
abbrev n__is_number_word : List Str := ["word", "digit"]
theorem sc__is_number_word : FnScope n__is_number_word ["word"] (defScope (top 23)) := ⟨rfl, rfl, rfl, by decide +kernel, rfl, by decide +kernel, by decide +kernel⟩
theorem ok__is_number_word (T : Facts K mg xc) (TT : TbF K mg base xc) : DefAt P w K mg base xc "_is_number_word" (top 23) ["word"] 1 false f__is_number_word := by
  obtain ⟨f, fd, hf, hm, F⟩ := T.d__is_number_word
  subst hf
  refine defAt (N := n__is_number_word) F sc__is_number_word hm rfl (fun _ _ _ _ _ _ us hl => match us, hl with | [_], _ => rfl) (fun G hK hxc gok cdv hcd A outer s H E hr hgd => ?_)
  subst hxc
  have nd : (n__is_number_word).Nodup := sc__is_number_word.nd
  have hu := hr.units64
  have hu1 := hr.units1
  unfold m__is_number_word
  exact psCons (psIf (PW.pt (pwOr (ptCmp (oEq hu) hK (mVar 0 (pv 0)) (mStr) rfl) (pwOr (ptCmp (oGt hu) hK (mCallB cLen hK rfl T.b_len Bt.boot_len (paCons (mVar 0 (pv 0)) (paNil) rfl) (by decide) rfl rfl rfl) (gC hK rfl rfl T.k_MOST_DIGITS) rfl) (pwOneOr (ptNot (ptTru hK (mCallB (cAll rfl) hK rfl T.b_all Bt.boot_all (paCons (mComp (own := [("digit", 1)]) (g := gName 1) (tt := tYes) gok rfl nd (mSeq hK (mVar 0 (pv 0))) (blkOk_by (N := n__is_number_word) (sc := defScope (top 23)) (by decide +kernel)) (tgName (by decide)) (fun _ _ _ q => yes_read q) (fun _ _ _ _ _ => pg_name (i := 1) nd rfl (Or.inl rfl)) (fun _ _ _ _ _ => pts_nil) (fun _ _ _ _ _ => mCmp (oIn hu) hK (mVar 1 (pv 1)) (gC hK rfl rfl T.k_DIGITS) rfl) (fun _ => rfl)) (paNil) rfl) (by decide) rfl rfl rfl) (fun _ => rfl))))))) (psOne (psRet (mBool))) (psNil)) (psOne (psRet (mOr (mCmp (oEq hu) hK (mVar 0 (pv 0)) (mStr) rfl) (mOne (mCmp (oNe hu) hK (mIx iX hK (mVar 0 (pv 0)) (mInt) (fun _ _ => rfl)) (mStr) rfl)))))
abbrev n_numbers_of : List Str := ["word", "number"]
theorem sc_numbers_of : FnScope n_numbers_of ["word"] (defScope (top 24)) := ⟨rfl, rfl, rfl, by decide +kernel, rfl, by decide +kernel, by decide +kernel⟩
theorem ok_numbers_of (T : Facts K mg xc) (TT : TbF K mg base xc) : DefAt P w K mg base xc "numbers_of" (top 24) ["word"] 1 false f_numbers_of := by
  obtain ⟨f, fd, hf, hm, F⟩ := T.d_numbers_of
  subst hf
  refine defAt (N := n_numbers_of) F sc_numbers_of hm rfl (fun _ _ _ _ _ _ us hl => match us, hl with | [_], _ => rfl) (fun G hK hxc gok cdv hcd A outer s H E hr hgd => ?_)
  subst hxc
  have nd : (n_numbers_of).Nodup := sc_numbers_of.nd
  have hu := hr.units64
  have hu1 := hr.units1
  unfold m_numbers_of
  exact psOne (psRet (mCallTy cTuple hK rfl T.b_tuple Bt.boot_tuple (paCons (mComp (own := [("number", 1)]) (g := gName 1) (tt := tYes) gok rfl nd (mSeq hK (mMeth hK PySem.F.plainAttrs_str PySem.F.slot_str_split PySem.F.type_str_split mtSplit (mVar 0 (pv 0)) (paCons (mStr) (paNil) rfl) rfl rfl rfl rfl rfl)) (blkOk_by (N := n_numbers_of) (sc := defScope (top 24)) (by decide +kernel)) (tgName (by decide)) (fun _ _ _ q => yes_read q) (fun _ _ _ _ _ => pg_name (i := 1) nd rfl (Or.inl rfl)) (fun _ _ _ _ _ => pts_nil) (fun _ _ _ _ _ => mCallTy cInt hK rfl T.b_int Bt.boot_int (paCons (mVar 1 (pv 1)) (paNil) rfl) (by decide) rfl rfl rfl) (fun _ => rfl)) (paNil) rfl) (by decide) rfl rfl rfl))
abbrev n__is_targets_word : List Str := ["word", "targets", "number", "one", "other"]
theorem sc__is_targets_word : FnScope n__is_targets_word ["word"] (defScope (top 25)) := ⟨rfl, rfl, rfl, by decide +kernel, rfl, by decide +kernel, by decide +kernel⟩
theorem ok__is_targets_word (T : Facts K mg xc) (TT : TbF K mg base xc) : DefAt P w K mg base xc "_is_targets_word" (top 25) ["word"] 2 false f__is_targets_word := by
  obtain ⟨f, fd, hf, hm, F⟩ := T.d__is_targets_word
  subst hf
  refine defAt (N := n__is_targets_word) F sc__is_targets_word hm rfl (fun _ _ _ _ _ _ us hl => match us, hl with | [_], _ => rfl) (fun G hK hxc gok cdv hcd A outer s H E hr hgd => ?_)
  subst hxc
  have nd : (n__is_targets_word).Nodup := sc__is_targets_word.nd
  have hu := hr.units64
  have hu1 := hr.units1
  unfold m__is_targets_word
  exact psCons (psIf (ptNot (ptTru hK (mCallB (cAll rfl) hK rfl T.b_all Bt.boot_all (paCons (mComp (own := [("number", 2)]) (g := gName 2) (tt := tYes) gok rfl nd (mSeq hK (mMeth hK PySem.F.plainAttrs_str PySem.F.slot_str_split PySem.F.type_str_split mtSplit (mVar 0 (pv 0)) (paCons (mStr) (paNil) rfl) rfl rfl rfl rfl rfl)) (blkOk_by (N := n__is_targets_word) (sc := defScope (top 25)) (by decide +kernel)) (tgName (by decide)) (fun _ _ _ q => yes_read q) (fun _ _ _ _ _ => pg_name (i := 2) nd rfl (Or.inl rfl)) (fun _ _ _ _ _ => pts_nil) (fun _ _ _ _ _ => mCall (ok__is_number_word T TT) gok hK (hr.mono (by decide)) hgd rfl (by first | assumption | exact takes0 | exact takes_of rfl rfl rfl rfl) (paF (paCons (mVar 2 (pv 2)) (paNil) rfl)) rfl rfl rfl) (fun _ => rfl)) (paNil) rfl) (by decide) rfl rfl rfl) (fun _ => rfl))) (psOne (psRet (mBool))) (psNil)) (psCons (psSet nd rfl (by first | exact Or.inl rfl | exact Or.inr rfl) (mCall (ok_numbers_of T TT) gok hK (hr.mono (by decide)) hgd rfl (by first | assumption | exact takes0 | exact takes_of rfl rfl rfl rfl) (paF (paCons (mVar 0 (pv 0)) (paNil) rfl)) rfl rfl rfl) rfl (Or.inl rfl)) (psOne (psRet (mCallB (cAll rfl) hK rfl T.b_all Bt.boot_all (paCons (mComp (own := [("one", 3), ("other", 4)]) (g := gTup K 2 (gCons (gName 3) (gCons (gName 4) (gNil)))) (tt := tYes) gok rfl nd (mZip hK rfl T.b_zip (paCons (mVar 1 (pv 1)) (paCons (mSlice hK (mVar 1 (pv 1)) (po_some (mInt)) (po_none) tokAt tokNo) (paNil) rfl) rfl) rfl rfl) (blkOk_by (N := n__is_targets_word) (sc := defScope (top 25)) (by decide +kernel)) (tgTup hK (tgsCons (tgName (by decide)) (tgsCons (tgName (by decide)) (tgsNil)))) (fun _ _ _ q => yes_read q) (fun _ _ _ _ _ => pg_tup rfl (pgs_cons (pg_name (i := 3) nd rfl (Or.inl rfl)) (pgs_cons (pg_name (i := 4) nd rfl (Or.inl rfl)) (pgs_nil)))) (fun _ _ _ _ _ => pts_nil) (fun _ _ _ _ _ => mCmp (oLt hu) hK (mVar 3 (pv 3)) (mVar 4 (pv 4)) rfl) (fun _ => rfl)) (paNil) rfl) (by decide) rfl rfl rfl))))
abbrev n__can_stand : List Str := ["part", "word"]
theorem sc__can_stand : FnScope n__can_stand ["part", "word"] (defScope (top 26)) := ⟨rfl, rfl, rfl, by decide +kernel, rfl, by decide +kernel, by decide +kernel⟩
theorem ok__can_stand (T : Facts K mg xc) (TT : TbF K mg base xc) : DefAt P w K mg base xc "_can_stand" (top 26) ["part", "word"] 3 false f__can_stand := by
  obtain ⟨f, fd, hf, hm, F⟩ := T.d__can_stand
  subst hf
  refine defAt (N := n__can_stand) F sc__can_stand hm rfl (fun _ _ _ _ _ _ us hl => match us, hl with | [_, _], _ => rfl) (fun G hK hxc gok cdv hcd A outer s H E hr hgd => ?_)
  subst hxc
  have nd : (n__can_stand).Nodup := sc__can_stand.nd
  have hu := hr.units64
  have hu1 := hr.units1
  unfold m__can_stand
  exact psCons (psIf (ptCmp (oEq hu) hK (mVar 0 (pv 0)) (mStr) rfl) (psOne (psRet (mCall (ok__is_number_word T TT) gok hK (hr.mono (by decide)) hgd rfl (by first | assumption | exact takes0 | exact takes_of rfl rfl rfl rfl) (paF (paCons (mVar 1 (pv 1)) (paNil) rfl)) rfl rfl rfl))) (psNil)) (psCons (psIf (ptCmp (oEq hu) hK (mVar 0 (pv 0)) (mStr) rfl) (psOne (psRet (mCall (ok__is_targets_word T TT) gok hK (hr.mono (by decide)) hgd rfl (by first | assumption | exact takes0 | exact takes_of rfl rfl rfl rfl) (paF (paCons (mVar 1 (pv 1)) (paNil) rfl)) rfl rfl rfl))) (psNil)) (psCons (psIf (ptCmp (oEq hu) hK (mVar 0 (pv 0)) (mStr) rfl) (psOne (psRet (mCall (ok_is_name T TT) gok hK (hr.mono (by decide)) hgd rfl (by first | assumption | exact takes0 | exact takes_of rfl rfl rfl rfl) (paF (paCons (mVar 1 (pv 1)) (paNil) rfl)) rfl rfl rfl))) (psNil)) (psCons (psIf (ptCmp (oEq hu) hK (mVar 0 (pv 0)) (mStr) rfl) (psOne (psRet (mCmp (oIn hu) hK (mVar 1 (pv 1)) (gC hK rfl rfl T.k_ENDS) rfl))) (psNil)) (psCons (psIf (ptCmp (oEq hu) hK (mVar 0 (pv 0)) (mStr) rfl) (psOne (psRet (mCmp (oIn hu) hK (mVar 1 (pv 1)) (gC hK rfl rfl T.k_BIRTHS) rfl))) (psNil)) (psCons (psIf (ptCmp (oEq hu) hK (mVar 0 (pv 0)) (mStr) rfl) (psOne (psRet (mOr (mCmp (oEq hu) hK (mVar 1 (pv 1)) (mStr) rfl) (mOne (mAnd (mCmp (oIn hu) hK (mVar 1 (pv 1)) (gC hK rfl rfl T.k_WORDS) rfl) (mOne (mCmp (oNe hu) hK (mVar 1 (pv 1)) (mStr) rfl))))))) (psNil)) (psCons (psIf (ptCmp (oEq hu) hK (mVar 0 (pv 0)) (mStr) rfl) (psOne (psRet (mCmp (oIn hu) hK (mVar 1 (pv 1)) (gC hK rfl rfl T.k_SWITCHES) rfl))) (psNil)) (psCons (psIf (ptCmp (oEq hu) hK (mVar 0 (pv 0)) (mStr) rfl) (psOne (psRet (mAnd (mCall (ok__is_number_word T TT) gok hK (hr.mono (by decide)) hgd rfl (by first | assumption | exact takes0 | exact takes_of rfl rfl rfl rfl) (paF (paCons (mVar 1 (pv 1)) (paNil) rfl)) rfl rfl rfl) (mOne (mCmp (oNe hu) hK (mVar 1 (pv 1)) (mStr) rfl))))) (psNil)) (psOne (psRet (mCmp (oIn hu) hK (mVar 1 (pv 1)) (mTup (paCons (mStr) (paCons (mStr) (paNil) rfl) rfl)) rfl))))))))))
abbrev n_check_words : List Str := ["words", "first", "parts", "line", "k", "part"]
theorem sc_check_words : FnScope n_check_words ["words", "first", "parts", "line"] (defScope (top 22)) := ⟨rfl, rfl, rfl, by decide +kernel, rfl, by decide +kernel, by decide +kernel⟩
theorem ok_check_words (T : Facts K mg xc) (TT : TbF K mg base xc) : DefAt P w K mg base xc "check_words" (top 22) ["words", "first", "parts", "line"] 4 false f_check_words := by
  obtain ⟨f, fd, hf, hm, F⟩ := T.d_check_words
  subst hf
  refine defAt (N := n_check_words) F sc_check_words hm rfl (fun _ _ _ _ _ _ us hl => match us, hl with | [_, _, _, _], _ => rfl) (fun G hK hxc gok cdv hcd A outer s H E hr hgd => ?_)
  subst hxc
  have nd : (n_check_words).Nodup := sc_check_words.nd
  have hu := hr.units64
  have hu1 := hr.units1
  unfold m_check_words
  exact psCons (psFor (vs := [4, 5]) (g := gTup K 2 (gCons (gName 4) (gCons (gName 5) (gNil)))) (tgTup hK (tgsCons (tgName (by decide)) (tgsCons (tgName (by decide)) (tgsNil)))) (passes_of rfl) rfl (mEnum2 hK rfl T.b_enumerate (paCons (mVar 2 (pv 2)) (paNil) rfl) rfl) (pg_tup rfl (pgs_cons (pg_name (i := 4) nd rfl (by first | exact Or.inl rfl | exact Or.inr rfl)) (pgs_cons (pg_name (i := 5) nd rfl (by first | exact Or.inl rfl | exact Or.inr rfl)) (pgs_nil)))) (psOne (psIf (PW.pt (pwOr (ptCmp (oGe hu) hK (mBin oAdd hK (mVar 1 (pv 1)) (mVar 4 (pv 4))) (mCallB cLen hK rfl T.b_len Bt.boot_len (paCons (mVar 0 (pv 0)) (paNil) rfl) (by decide) rfl rfl rfl) rfl) (pwOneOr (ptNot (ptTru hK (mCall (ok__can_stand T TT) gok hK (hr.mono (by decide)) hgd rfl (by first | assumption | exact takes0 | exact takes_of rfl rfl rfl rfl) (paF (paCons (mVar 5 (pv 5)) (paCons (mIx iX hK (mVar 0 (pv 0)) (mBin oAdd hK (mVar 1 (pv 1)) (mVar 4 (pv 4))) (fun _ _ => rfl)) (paNil) rfl) rfl)) rfl rfl rfl) (fun _ => rfl)))))) (psOne (psRaise (names := ["line", "field"]) (mk_InvalidText T) rfl (by decide) rfl (hr.mono (by decide)) rfl (by first | assumption | exact takes0 | exact takes_of rfl rfl rfl rfl) (paCons (mVar 3 (pv 3)) (paCons (mBin oAdd hK (mVar 1 (pv 1)) (mVar 4 (pv 4))) (paNil) rfl) rfl) rfl rfl rfl)) (psNil))) (fun _ => rfl)) (psOne (psIf (ptCmp (oGt hu) hK (mCallB cLen hK rfl T.b_len Bt.boot_len (paCons (mVar 0 (pv 0)) (paNil) rfl) (by decide) rfl rfl rfl) (mBin oAdd hK (mVar 1 (pv 1)) (mCallB cLen hK rfl T.b_len Bt.boot_len (paCons (mVar 2 (pv 2)) (paNil) rfl) (by decide) rfl rfl rfl)) rfl) (psOne (psRaise (names := ["line", "field"]) (mk_InvalidText T) rfl (by decide) rfl (hr.mono (by decide)) rfl (by first | assumption | exact takes0 | exact takes_of rfl rfl rfl rfl) (paCons (mVar 3 (pv 3)) (paCons (mBin oAdd hK (mVar 1 (pv 1)) (mCallB cLen hK rfl T.b_len Bt.boot_len (paCons (mVar 2 (pv 2)) (paNil) rfl) (by decide) rfl rfl rfl)) (paNil) rfl) rfl) rfl rfl rfl)) (psNil)))
abbrev n_need : List Str := ["holds", "word"]
theorem sc_need : FnScope n_need ["holds", "word"] (defScope (top 28)) := ⟨rfl, rfl, rfl, by decide +kernel, rfl, by decide +kernel, by decide +kernel⟩
theorem ok_need (T : Facts K mg xc) (TT : TbF K mg base xc) : DefAt P w K mg base xc "need" (top 28) ["holds", "word"] 3 false f_need := by
  obtain ⟨f, fd, hf, hm, F⟩ := T.d_need
  subst hf
  refine defAt (N := n_need) F sc_need hm rfl (fun _ _ _ _ _ _ us hl => match us, hl with | [_, _], _ => rfl) (fun G hK hxc gok cdv hcd A outer s H E hr hgd => ?_)
  subst hxc
  have nd : (n_need).Nodup := sc_need.nd
  have hu := hr.units64
  have hu1 := hr.units1
  unfold m_need
  exact psOne (psIf (ptNot (ptTru hK (mVar 0 (pv 0)) (fun _ => rfl))) (psOne (psRaise (names := ["word", "at"]) (mk_NotUsable T) rfl (by decide) rfl (hr.mono (by decide)) rfl (by first | assumption | exact takes0 | exact takes_of rfl rfl rfl rfl) (paCons (mVar 1 (pv 1)) (paCons (mUn oNeg hK (mInt)) (paNil) rfl) rfl) rfl rfl rfl)) (psNil))
abbrev n_step_in : List Str := ["words", "first", "line", "has_number"]
theorem sc_step_in : FnScope n_step_in ["words", "first", "line"] (defScope (top 32)) := ⟨rfl, rfl, rfl, by decide +kernel, rfl, by decide +kernel, by decide +kernel⟩
theorem ok_step_in (T : Facts K mg xc) (TT : TbF K mg base xc) : DefAt P w K mg base xc "step_in" (top 32) ["words", "first", "line"] 5 false f_step_in := by
  obtain ⟨f, fd, hf, hm, F⟩ := T.d_step_in
  subst hf
  refine defAt (N := n_step_in) F sc_step_in hm rfl (fun _ _ _ _ _ _ us hl => match us, hl with | [_, _, _], _ => rfl) (fun G hK hxc gok cdv hcd A outer s H E hr hgd => ?_)
  subst hxc
  have nd : (n_step_in).Nodup := sc_step_in.nd
  have hu := hr.units64
  have hu1 := hr.units1
  unfold m_step_in
  exact psCons (psSet nd rfl (by first | exact Or.inl rfl | exact Or.inr rfl) (mAnd (mCmp (oGt hu) hK (mCallB cLen hK rfl T.b_len Bt.boot_len (paCons (mVar 0 (pv 0)) (paNil) rfl) (by decide) rfl rfl rfl) (mBin oAdd hK (mVar 1 (pv 1)) (mInt)) rfl) (mOne (mCmp (oIn hu) hK (mIx iX hK (mVar 0 (pv 0)) (mBin oAdd hK (mVar 1 (pv 1)) (mInt)) (fun _ _ => rfl)) (mTup (paCons (mStr) (paCons (mStr) (paNil) rfl) rfl)) rfl))) rfl (Or.inl rfl)) (psCons (psDrop (mCall (ok_check_words T TT) gok hK (hr.mono (by decide)) hgd rfl (by first | assumption | exact takes0 | exact takes_of rfl rfl rfl rfl) (paF (paCons (mVar 0 (pv 0)) (paCons (mVar 1 (pv 1)) (paCons (mIf (ptTru hK (mVar 3 (pv 3)) (fun _ => rfl)) (mTup (paCons (mStr) (paCons (mStr) (paCons (mStr) (paNil) rfl) rfl) rfl)) (mTup (paCons (mStr) (paCons (mStr) (paNil) rfl) rfl))) (paCons (mVar 2 (pv 2)) (paNil) rfl) rfl) rfl) rfl)) rfl rfl rfl) rfl) (psOne (psRet (mTup (paCons (mCallTy cInt hK rfl T.b_int Bt.boot_int (paCons (mIx iX hK (mVar 0 (pv 0)) (mVar 1 (pv 1)) (fun _ _ => rfl)) (paNil) rfl) (by decide) rfl rfl rfl) (paCons (mIx iX hK (mVar 0 (pv 0)) (mBin oAdd hK (mVar 1 (pv 1)) (mInt)) (fun _ _ => rfl)) (paCons (mIf (ptTru hK (mVar 3 (pv 3)) (fun _ => rfl)) (mCallTy cInt hK rfl T.b_int Bt.boot_int (paCons (mIx iX hK (mVar 0 (pv 0)) (mBin oAdd hK (mVar 1 (pv 1)) (mInt)) (fun _ _ => rfl)) (paNil) rfl) (by decide) rfl rfl rfl) (mUn oNeg hK (mInt))) (paNil) rfl) rfl) rfl)))))
abbrev n_read_step : List Str := ["text"]
theorem sc_read_step : FnScope n_read_step ["text"] (defScope (top 30)) := ⟨rfl, rfl, rfl, by decide +kernel, rfl, by decide +kernel, by decide +kernel⟩
theorem ok_read_step (T : Facts K mg xc) (TT : TbF K mg base xc) : DefAt P w K mg base xc "read_step" (top 30) ["text"] 6 false f_read_step := by
  obtain ⟨f, fd, hf, hm, F⟩ := T.d_read_step
  subst hf
  refine defAt (N := n_read_step) F sc_read_step hm rfl (fun _ _ _ _ _ _ us hl => match us, hl with | [_], _ => rfl) (fun G hK hxc gok cdv hcd A outer s H E hr hgd => ?_)
  subst hxc
  have nd : (n_read_step).Nodup := sc_read_step.nd
  have hu := hr.units64
  have hu1 := hr.units1
  unfold m_read_step
  exact psCons (psDrop (mCall (ok_need T TT) gok hK (hr.mono (by decide)) hgd rfl (by first | assumption | exact takes0 | exact takes_of rfl rfl rfl rfl) (paF (paCons (mIsI hK rfl T.b_isinstance Bt.boot_isinstance rfl T.b_str Bt.boot_str (mVar 0 (pv 0)) (by decide) rfl (by decide) rfl rfl rfl rfl) (paCons (mStr) (paNil) rfl) rfl)) rfl rfl rfl) rfl) (psOne (psRet (mCall (ok_step_in T TT) gok hK (hr.mono (by decide)) hgd rfl (by first | assumption | exact takes0 | exact takes_of rfl rfl rfl rfl) (paF (paCons (mCall (ok_words_of T TT) gok hK (hr.mono (by decide)) hgd rfl (by first | assumption | exact takes0 | exact takes_of rfl rfl rfl rfl) (paF (paCons (mVar 0 (pv 0)) (paNil) rfl)) rfl rfl rfl) (paCons (mInt) (paCons (mInt) (paNil) rfl) rfl) rfl)) rfl rfl rfl)))
abbrev n_read_run : List Str := ["text", "line", "written"]
theorem sc_read_run : FnScope n_read_run ["text"] (defScope (top 31)) := ⟨rfl, rfl, rfl, by decide +kernel, rfl, by decide +kernel, by decide +kernel⟩
theorem ok_read_run (T : Facts K mg xc) (TT : TbF K mg base xc) : DefAt P w K mg base xc "read_run" (top 31) ["text"] 6 false f_read_run := by
  obtain ⟨f, fd, hf, hm, F⟩ := T.d_read_run
  subst hf
  refine defAt (N := n_read_run) F sc_read_run hm rfl (fun _ _ _ _ _ _ us hl => match us, hl with | [_], _ => rfl) (fun G hK hxc gok cdv hcd A outer s H E hr hgd => ?_)
  subst hxc
  have nd : (n_read_run).Nodup := sc_read_run.nd
  have hu := hr.units64
  have hu1 := hr.units1
  unfold m_read_run
  exact psCons (psDrop (mCall (ok_need T TT) gok hK (hr.mono (by decide)) hgd rfl (by first | assumption | exact takes0 | exact takes_of rfl rfl rfl rfl) (paF (paCons (mIsI hK rfl T.b_isinstance Bt.boot_isinstance rfl T.b_str Bt.boot_str (mVar 0 (pv 0)) (by decide) rfl (by decide) rfl rfl rfl rfl) (paCons (mStr) (paNil) rfl) rfl)) rfl rfl rfl) rfl) (psCons (psIf (ptCmp (oEq hu) hK (mVar 0 (pv 0)) (mStr) rfl) (psOne (psRet (mTup (paNil)))) (psNil)) (psOne (psRet (mCallTy cTuple hK rfl T.b_tuple Bt.boot_tuple (paCons (mCompX (own := [("line", 1), ("written", 2)]) (g := gTup K 2 (gCons (gName 1) (gCons (gName 2) (gNil)))) (tt := tYes) gok rfl rfl (by first | assumption | exact takes0 | exact takes_of rfl rfl rfl rfl) rfl nd (mEnum2 hK rfl T.b_enumerate (paCons (mMeth hK PySem.F.plainAttrs_str PySem.F.slot_str_split PySem.F.type_str_split mtSplit (mVar 0 (pv 0)) (paCons (mStr) (paNil) rfl) rfl rfl rfl rfl rfl) (paNil) rfl) rfl) (blkOk_by (N := n_read_run) (sc := defScope (top 31)) (by decide +kernel)) (tgTup hK (tgsCons (tgName (by decide)) (tgsCons (tgName (by decide)) (tgsNil)))) (fun _ _ _ q => yes_read q) (fun _ _ _ _ _ => pg_tup rfl (pgs_cons (pg_name (i := 1) nd rfl (Or.inl rfl)) (pgs_cons (pg_name (i := 2) nd rfl (Or.inl rfl)) (pgs_nil)))) (fun _ _ _ _ _ => pts_nil) (fun _ _ _ _ _ _ _ tk2 => mCall (ok_step_in T TT) gok hK (hr.mono (by decide)) hgd rfl (by first | assumption | exact takes0 | exact takes_of rfl rfl rfl rfl) (paF (paCons (mCall (ok_words_of T TT) gok hK (hr.mono (by decide)) hgd rfl (by first | assumption | exact takes0 | exact takes_of rfl rfl rfl rfl) (paF (paCons (mVar 2 (pv 2)) (paNil) rfl)) rfl rfl rfl) (paCons (mInt) (paCons (mVar 1 (pv 1)) (paNil) rfl) rfl) rfl)) rfl rfl rfl) (fun _ => rfl)) (paNil) rfl) (by decide) rfl rfl rfl))))
abbrev n__law_draw : List Str := ["_law_feed", "_law_many", "_law_count", "_law_cell", "_law_mixed", "_law_digit", "_law_cells", "_law_at"]
theorem sc__law_draw : FnScope n__law_draw ["_law_feed", "_law_many"] (defScope (top 35)) := ⟨rfl, rfl, rfl, by decide +kernel, rfl, by decide +kernel, by decide +kernel⟩
theorem ok__law_draw (T : Facts K mg xc) (TT : TbF K mg base xc) : DefAt P w K mg base xc "_law_draw" (top 35) ["_law_feed", "_law_many"] 1 true f__law_draw := by
  obtain ⟨f, fd, hf, hm, F⟩ := T.d__law_draw
  subst hf
  refine defAt (N := n__law_draw) F sc__law_draw hm rfl (fun _ _ _ _ _ _ us hl => match us, hl with | [_, _], _ => rfl) (fun G hK hxc gok cdv hcd A outer s H E hr hgd => ?_)
  subst hxc
  have nd : (n__law_draw).Nodup := sc__law_draw.nd
  have hu := hr.units64
  have hu1 := hr.units1
  unfold m__law_draw
  exact psCons (psSet nd rfl (by first | exact Or.inl rfl | exact Or.inr rfl) (mBin oAdd hK (mFd 0 3 (by decide) hu1 (pv 0) (fun _ _ => rfl)) (mInt)) rfl (Or.inl rfl)) (psCons (psFd 0 3 gok hu1 (pv 0) (mVar 2 (pv 2)) rfl) (psCons (psIf (ptCmp (oGt hu) hK (mFd 0 2 (by decide) hu1 (pv 0) (fun _ _ => rfl)) (mInt) rfl) (psCons (psSet nd rfl (by first | exact Or.inl rfl | exact Or.inr rfl) (mBin oMod hK (mCallTy cInt hK rfl T.b_int Bt.boot_int (paCons (mFd 0 2 (by decide) hu1 (pv 0) (fun _ _ => rfl)) (paNil) rfl) (by decide) rfl rfl rfl) (mVar 1 (pv 1))) rfl (Or.inl rfl)) (psCons (psFd 0 2 gok hu1 (pv 0) (mBin oFDiv hK (mFd 0 2 (by decide) hu1 (pv 0) (fun _ _ => rfl)) (mVar 1 (pv 1))) rfl) (psOne (psRet (mVar 5 (pv 5)))))) (psNil)) (psCons (psPar (i := 6) (j := 7) rfl nd rfl rfl (by decide) rfl rfl (paCons (mFd 0 0 (by decide) hu1 (pv 0) (fun _ _ => rfl)) (paCons (mFd 0 1 (by decide) hu1 (pv 0) (fun _ _ => rfl)) (paNil) rfl) rfl) rfl rfl) (psCons (psFd 0 1 gok hu1 (pv 0) (mBin oAdd hK (mVar 7 (pv 7)) (mInt)) rfl) (psCons (psSet nd rfl (by first | exact Or.inl rfl | exact Or.inr rfl) (mIf (ptCmp (oNe hu) hK (mVar 6 (pv 6)) (mLst (paNil)) rfl) (mIx iX hK (mVar 6 (pv 6)) (mBin oMod hK (mCallTy cInt hK rfl T.b_int Bt.boot_int (paCons (mVar 7 (pv 7)) (paNil) rfl) (by decide) rfl rfl rfl) (mCallB cLen hK rfl T.b_len Bt.boot_len (paCons (mVar 6 (pv 6)) (paNil) rfl) (by decide) rfl rfl rfl)) (fun _ _ => rfl)) (mInt)) rfl (Or.inl rfl)) (psCons (psIf (PW.pt (pwAnd (ptCmp (oGe hu) hK (mVar 3 (pv 3)) (mBin oPow hK (mInt) (mInt)) rfl) (pwOne (ptCmp (oLt hu) hK (mVar 7 (pv 7)) (mCallB cLen hK rfl T.b_len Bt.boot_len (paCons (mVar 6 (pv 6)) (paNil) rfl) (by decide) rfl rfl rfl) rfl)))) (psCons (psFd 0 2 gok hu1 (pv 0) (mBin oFDiv hK (mVar 3 (pv 3)) (mVar 1 (pv 1))) rfl) (psOne (psRet (mBin oMod hK (mCallTy cInt hK rfl T.b_int Bt.boot_int (paCons (mVar 3 (pv 3)) (paNil) rfl) (by decide) rfl rfl rfl) (mVar 1 (pv 1)))))) (psNil)) (psCons (psSet nd rfl (by first | exact Or.inl rfl | exact Or.inr rfl) (mBin oMod hK (mCallTy cInt hK rfl T.b_int Bt.boot_int (paCons (mBin oPow hK (mBin oAdd hK (mBin oAdd hK (mBin oMod hK (mCallTy cInt hK rfl T.b_int Bt.boot_int (paCons (mVar 3 (pv 3)) (paNil) rfl) (by decide) rfl rfl rfl) (mInt)) (mBin oMul hK (mInt) (mVar 2 (pv 2)))) (mInt)) (mInt)) (paNil) rfl) (by decide) rfl rfl rfl) (mInt)) rfl (Or.inl rfl)) (psCons (psSet nd rfl (by first | exact Or.inl rfl | exact Or.inr rfl) (mBin oMod hK (mCallTy cInt hK rfl T.b_int Bt.boot_int (paCons (mBin oPow hK (mBin oAdd hK (mBin oAdd hK (mVar 4 (pv 4)) (mBin oMul hK (mBin oMul hK (mInt) (mVar 2 (pv 2))) (mVar 2 (pv 2)))) (mInt)) (mInt)) (paNil) rfl) (by decide) rfl rfl rfl) (mInt)) rfl (Or.inl rfl)) (psOne (psRet (mBin oMod hK (mCallTy cInt hK rfl T.b_int Bt.boot_int (paCons (mBin oFDiv hK (mVar 4 (pv 4)) (mInt)) (paNil) rfl) (by decide) rfl rfl rfl) (mVar 1 (pv 1)))))))))))))
abbrev n__law_any : List Str := ["_law_feed", "_law_some"]
theorem sc__law_any : FnScope n__law_any ["_law_feed", "_law_some"] (defScope (top 36)) := ⟨rfl, rfl, rfl, by decide +kernel, rfl, by decide +kernel, by decide +kernel⟩
theorem ok__law_any (T : Facts K mg xc) (TT : TbF K mg base xc) : DefAt P w K mg base xc "_law_any" (top 36) ["_law_feed", "_law_some"] 2 true f__law_any := by
  obtain ⟨f, fd, hf, hm, F⟩ := T.d__law_any
  subst hf
  refine defAt (N := n__law_any) F sc__law_any hm rfl (fun _ _ _ _ _ _ us hl => match us, hl with | [_, _], _ => rfl) (fun G hK hxc gok cdv hcd A outer s H E hr hgd => ?_)
  subst hxc
  have nd : (n__law_any).Nodup := sc__law_any.nd
  have hu := hr.units64
  have hu1 := hr.units1
  unfold m__law_any
  exact psOne (psRet (mIx iX hK (mVar 1 (pv 1)) (mCall (ok__law_draw T TT) gok hK (hr.mono (by decide)) hgd rfl (by first | assumption | exact takes0 | exact takes_of rfl rfl rfl rfl) (paFd 0 (pv 0) (paCons (mCallB cLen hK rfl T.b_len Bt.boot_len (paCons (mVar 1 (pv 1)) (paNil) rfl) (by decide) rfl rfl rfl) (paNil) rfl) rfl) rfl rfl rfl) (fun _ _ => rfl)))
abbrev n__law_refusal : List Str := ["_law_error", "_law_families"]
theorem sc__law_refusal : FnScope n__law_refusal ["_law_error"] (defScope (top 37)) := ⟨rfl, rfl, rfl, by decide +kernel, rfl, by decide +kernel, by decide +kernel⟩
theorem ok__law_refusal (T : Facts K mg xc) (TT : TbF K mg base xc) : DefX P w K mg base xc "_law_refusal" 1 f__law_refusal := by
  obtain ⟨f, fd, hf, hm, F⟩ := T.d__law_refusal
  subst hf
  refine defX (N := n__law_refusal) F sc__law_refusal hm (fun _ _ _ _ _ _ us hl => match us, hl with | [_], _ => rfl) (fun G xv hK hxc gok cdv hcd A outer s H E p hr hgd xin => ?_)
  subst hxc
  have nd : (n__law_refusal).Nodup := sc__law_refusal.nd
  have hu := units64H hr
  have hu1 := units1H hr
  unfold m__law_refusal
  exact psCons (psOwn nd rfl (by first | exact Or.inl rfl | exact Or.inr rfl) (paCons (mXi gok hK T.xcok T.is_PaperError xin (pv 0) rfl T.b_isinstance Bt.boot_isinstance (by decide) rfl rfl (by decide) rfl rfl rfl rfl) (paCons (mXi gok hK T.xcok T.is_ProgramError xin (pv 0) rfl T.b_isinstance Bt.boot_isinstance (by decide) rfl rfl (by decide) rfl rfl rfl rfl) (paCons (mXi gok hK T.xcok T.is_HouseError xin (pv 0) rfl T.b_isinstance Bt.boot_isinstance (by decide) rfl rfl (by decide) rfl rfl rfl rfl) (paNil) rfl) rfl) rfl) rfl (Or.inl rfl)) (psCons (psApp gok hK (pv 1) (mXi gok hK T.xcok T.is_TextError xin (pv 0) rfl T.b_isinstance Bt.boot_isinstance (by decide) rfl rfl (by decide) rfl rfl rfl rfl) rfl rfl rfl rfl rfl rfl) (psCons (psFrz gok 1 (psIf (PW.pt (pwOr (ptCmp (oNe hu) hK (mMeth hK PySem.F.plainAttrs_list PySem.F.slot_list_count PySem.F.type_list_count mtCount (mVar 1 (pv 1)) (paCons (mBool) (paNil) rfl) rfl rfl rfl rfl rfl) (mInt) rfl) (pwOneOr (ptNot (ptTru hK (mXi gok hK T.xcok T.is_ValueError xin (pv 0) rfl T.b_isinstance Bt.boot_isinstance (by decide) rfl rfl (by decide) rfl rfl rfl rfl) (fun _ => rfl)))))) (psOne (psRet (mTup (paCons (mStr) (paCons (mStr) (paNil) rfl) rfl)))) (psNil))) (psCons (psIf (PW.pt (pwAnd (ptTru hK (mIx iX hK (mVar 1 (pv 1)) (mInt) (fun _ _ => rfl)) (fun _ => rfl)) (pwOne (ptTru hK (mXi gok hK T.xcok T.is_InvalidPaper xin (pv 0) rfl T.b_isinstance Bt.boot_isinstance (by decide) rfl rfl (by decide) rfl rfl rfl rfl) (fun _ => rfl))))) (psOne (psRet (mTup (paCons (mStr) (paCons (mStr) (paCons (mXf gok hK T.xcok xin (pv 0) rfl) (paCons (mXf gok hK T.xcok xin (pv 0) rfl) (paNil) rfl) rfl) rfl) rfl)))) (psNil)) (psCons (psIf (PW.pt (pwAnd (ptTru hK (mIx iX hK (mVar 1 (pv 1)) (mInt) (fun _ _ => rfl)) (fun _ => rfl)) (pwAnd (ptTru hK (mXi gok hK T.xcok T.is_NotUsable xin (pv 0) rfl T.b_isinstance Bt.boot_isinstance (by decide) rfl rfl (by decide) rfl rfl rfl rfl) (fun _ => rfl)) (pwOne (ptNot (ptTru hK (mXi gok hK T.xcok T.is_InvalidStep xin (pv 0) rfl T.b_isinstance Bt.boot_isinstance (by decide) rfl rfl (by decide) rfl rfl rfl rfl) (fun _ => rfl))))))) (psOne (psRet (mTup (paCons (mStr) (paCons (mStr) (paCons (mXf gok hK T.xcok xin (pv 0) rfl) (paCons (mXf gok hK T.xcok xin (pv 0) rfl) (paNil) rfl) rfl) rfl) rfl)))) (psNil)) (psCons (psIf (PW.pt (pwAnd (ptTru hK (mIx iX hK (mVar 1 (pv 1)) (mInt) (fun _ _ => rfl)) (fun _ => rfl)) (pwAnd (ptTru hK (mXi gok hK T.xcok T.is_InvalidStep xin (pv 0) rfl T.b_isinstance Bt.boot_isinstance (by decide) rfl rfl (by decide) rfl rfl rfl rfl) (fun _ => rfl)) (pwOne (ptNot (ptTru hK (mXi gok hK T.xcok T.is_NotUsable xin (pv 0) rfl T.b_isinstance Bt.boot_isinstance (by decide) rfl rfl (by decide) rfl rfl rfl rfl) (fun _ => rfl))))))) (psOne (psRet (mTup (paCons (mStr) (paCons (mStr) (paCons (mXf gok hK T.xcok xin (pv 0) rfl) (paCons (mXf gok hK T.xcok xin (pv 0) rfl) (paNil) rfl) rfl) rfl) rfl)))) (psNil)) (psCons (psIf (PW.pt (pwAnd (ptTru hK (mIx iX hK (mVar 1 (pv 1)) (mInt) (fun _ _ => rfl)) (fun _ => rfl)) (pwAnd (ptTru hK (mXi gok hK T.xcok T.is_InvalidText xin (pv 0) rfl T.b_isinstance Bt.boot_isinstance (by decide) rfl rfl (by decide) rfl rfl rfl rfl) (fun _ => rfl)) (pwOne (ptNot (ptTru hK (mXi gok hK T.xcok T.is_InvalidRow xin (pv 0) rfl T.b_isinstance Bt.boot_isinstance (by decide) rfl rfl (by decide) rfl rfl rfl rfl) (fun _ => rfl))))))) (psOne (psRet (mTup (paCons (mStr) (paCons (mStr) (paCons (mXf gok hK T.xcok xin (pv 0) rfl) (paCons (mXf gok hK T.xcok xin (pv 0) rfl) (paNil) rfl) rfl) rfl) rfl)))) (psNil)) (psOne (psRet (mTup (paCons (mStr) (paCons (mStr) (paNil) rfl) rfl))))))))))
abbrev n__law_words : List Str := []
theorem sc__law_words : FnScope n__law_words [] (defScope (top 39)) := ⟨rfl, rfl, rfl, by decide +kernel, rfl, by decide +kernel, by decide +kernel⟩
theorem ok__law_words (T : Facts K mg xc) (TT : TbF K mg base xc) : DefAt P w K mg base xc "_law_words" (top 39) [] 1 false f__law_words := by
  obtain ⟨f, fd, hf, hm, F⟩ := T.d__law_words
  subst hf
  refine defAt (N := n__law_words) F sc__law_words hm rfl (fun _ _ _ _ _ _ us hl => match us, hl with | [], _ => rfl) (fun G hK hxc gok cdv hcd A outer s H E hr hgd => ?_)
  subst hxc
  have nd : (n__law_words).Nodup := sc__law_words.nd
  have hu := hr.units64
  have hu1 := hr.units1
  unfold m__law_words
  exact psOne (psRet (mLst (paCons (mStr) (paCons (mStr) (paCons (mStr) (paCons (mStr) (paCons (mStr) (paCons (mStr) (paCons (mStr) (paCons (mStr) (paCons (mStr) (paCons (mStr) (paNil) rfl) rfl) rfl) rfl) rfl) rfl) rfl) rfl) rfl) rfl)))
abbrev n__law_line_of : List Str := ["_law_move"]
theorem sc__law_line_of : FnScope n__law_line_of ["_law_move"] (defScope (top 40)) := ⟨rfl, rfl, rfl, by decide +kernel, rfl, by decide +kernel, by decide +kernel⟩
theorem ok__law_line_of (T : Facts K mg xc) (TT : TbF K mg base xc) : DefAt P w K mg base xc "_law_line_of" (top 40) ["_law_move"] 1 false f__law_line_of := by
  obtain ⟨f, fd, hf, hm, F⟩ := T.d__law_line_of
  subst hf
  refine defAt (N := n__law_line_of) F sc__law_line_of hm rfl (fun _ _ _ _ _ _ us hl => match us, hl with | [_], _ => rfl) (fun G hK hxc gok cdv hcd A outer s H E hr hgd => ?_)
  subst hxc
  have nd : (n__law_line_of).Nodup := sc__law_line_of.nd
  have hu := hr.units64
  have hu1 := hr.units1
  unfold m__law_line_of
  exact psOne (psRet (mMeth hK PySem.F.plainAttrs_str PySem.F.slot_str_join PySem.F.type_str_join mtJoin (mStr) (paCons (mBin oAdd hK (mLst (paCons (mCallTy (cStr2 hu hgd) hK rfl T.b_str Bt.boot_str (paCons (mIx iX hK (mVar 0 (pv 0)) (mInt) (fun _ _ => rfl)) (paNil) rfl) (by decide) rfl rfl rfl) (paCons (mIx iX hK (mVar 0 (pv 0)) (mInt) (fun _ _ => rfl)) (paNil) rfl) rfl)) (mIf (ptCmp (oIn hu) hK (mIx iX hK (mVar 0 (pv 0)) (mInt) (fun _ _ => rfl)) (mLst (paCons (mStr) (paCons (mStr) (paNil) rfl) rfl)) rfl) (mLst (paCons (mCallTy (cStr2 hu hgd) hK rfl T.b_str Bt.boot_str (paCons (mIx iX hK (mVar 0 (pv 0)) (mInt) (fun _ _ => rfl)) (paNil) rfl) (by decide) rfl rfl rfl) (paNil) rfl)) (mLst (paNil)))) (paNil) rfl) rfl rfl rfl rfl rfl))
abbrev n__law_text_of : List Str := ["_law_trip", "_law_move"]
theorem sc__law_text_of : FnScope n__law_text_of ["_law_trip"] (defScope (top 41)) := ⟨rfl, rfl, rfl, by decide +kernel, rfl, by decide +kernel, by decide +kernel⟩
theorem ok__law_text_of (T : Facts K mg xc) (TT : TbF K mg base xc) : DefAt P w K mg base xc "_law_text_of" (top 41) ["_law_trip"] 2 false f__law_text_of := by
  obtain ⟨f, fd, hf, hm, F⟩ := T.d__law_text_of
  subst hf
  refine defAt (N := n__law_text_of) F sc__law_text_of hm rfl (fun _ _ _ _ _ _ us hl => match us, hl with | [_], _ => rfl) (fun G hK hxc gok cdv hcd A outer s H E hr hgd => ?_)
  subst hxc
  have nd : (n__law_text_of).Nodup := sc__law_text_of.nd
  have hu := hr.units64
  have hu1 := hr.units1
  unfold m__law_text_of
  exact psOne (psRet (mIf (ptCmp (oGt hu) hK (mCallB cLen hK rfl T.b_len Bt.boot_len (paCons (mVar 0 (pv 0)) (paNil) rfl) (by decide) rfl rfl rfl) (mInt) rfl) (mMeth hK PySem.F.plainAttrs_str PySem.F.slot_str_join PySem.F.type_str_join mtJoin (mStr) (paCons (mComp (own := [("_law_move", 1)]) (g := gName 1) (tt := tYes) gok rfl nd (mSeq hK (mVar 0 (pv 0))) (blkOk_by (N := n__law_text_of) (sc := defScope (top 41)) (by decide +kernel)) (tgName (by decide)) (fun _ _ _ q => yes_read q) (fun _ _ _ _ _ => pg_name (i := 1) nd rfl (Or.inl rfl)) (fun _ _ _ _ _ => pts_nil) (fun _ _ _ _ _ => mCall (ok__law_line_of T TT) gok hK (hr.mono (by decide)) hgd rfl (by first | assumption | exact takes0 | exact takes_of rfl rfl rfl rfl) (paF (paCons (mVar 1 (pv 1)) (paNil) rfl)) rfl rfl rfl) (fun _ => rfl)) (paNil) rfl) rfl rfl rfl rfl rfl) (mStr)))
abbrev n__law_loose : List Str := ["_law_feed", "_law_most", "_law_lap", "_law_found", "_law_great", "_law_word", "_law_number"]
theorem sc__law_loose : FnScope n__law_loose ["_law_feed", "_law_most"] (defScope (top 42)) := ⟨rfl, rfl, rfl, by decide +kernel, rfl, by decide +kernel, by decide +kernel⟩
theorem ok__law_loose (T : Facts K mg xc) (TT : TbF K mg base xc) : DefAt P w K mg base xc "_law_loose" (top 42) ["_law_feed", "_law_most"] 3 true f__law_loose := by
  obtain ⟨f, fd, hf, hm, F⟩ := T.d__law_loose
  subst hf
  refine defAt (N := n__law_loose) F sc__law_loose hm rfl (fun _ _ _ _ _ _ us hl => match us, hl with | [_, _], _ => rfl) (fun G hK hxc gok cdv hcd A outer s H E hr hgd => ?_)
  subst hxc
  have nd : (n__law_loose).Nodup := sc__law_loose.nd
  have hu := hr.units64
  have hu1 := hr.units1
  unfold m__law_loose
  exact psCons (psParOwn (i := 3) (j := 4) rfl nd rfl rfl (by decide) rfl rfl (paNil) (mLst (paCons (mInt) (paCons (mInt) (paCons (mInt) (paCons (mInt) (paCons (mInt) (paCons (mInt) (paCons (mInt) (paCons (mInt) (paCons (mBin oPow hK (mInt) (mInt)) (paCons (mBin oSub hK (mBin oPow hK (mInt) (mInt)) (mInt)) (paNil) rfl) rfl) rfl) rfl) rfl) rfl) rfl) rfl) rfl) rfl)) rfl rfl rfl rfl) (psCons (psFor (vs := [2]) (g := gName 2) (tgName (by decide)) (passes_of rfl) rfl (mRange1 rfl T.b_range (paCons (mCall (ok__law_draw T TT) gok hK (hr.mono (by decide)) hgd rfl (by first | assumption | exact takes0 | exact takes_of rfl rfl rfl rfl) (paFd 0 (pv 0) (paCons (mBin oAdd hK (mVar 1 (pv 1)) (mInt)) (paNil) rfl) rfl) rfl rfl rfl) (paNil) rfl) rfl) (pg_name (i := 2) nd rfl (by first | exact Or.inl rfl | exact Or.inr rfl)) (psCons (psSet nd rfl (by first | exact Or.inl rfl | exact Or.inr rfl) (mCall (ok__law_any T TT) gok hK (hr.mono (by decide)) hgd rfl (by first | assumption | exact takes0 | exact takes_of rfl rfl rfl rfl) (paFd 0 (pv 0) (paCons (mCall0 (ok__law_words T TT) gok hK (hr.mono (by decide)) hgd rfl (by first | assumption | exact takes0 | exact takes_of rfl rfl rfl rfl) rfl) (paNil) rfl) rfl) rfl rfl rfl) rfl (Or.inl rfl)) (psCons (psSet nd rfl (by first | exact Or.inl rfl | exact Or.inr rfl) (mIf (ptCmp (oIn hu) hK (mVar 5 (pv 5)) (mLst (paCons (mStr) (paCons (mStr) (paNil) rfl) rfl)) rfl) (mCall (ok__law_any T TT) gok hK (hr.mono (by decide)) hgd rfl (by first | assumption | exact takes0 | exact takes_of rfl rfl rfl rfl) (paFd 0 (pv 0) (paCons (mVar 4 (pv 4)) (paNil) rfl) rfl) rfl rfl rfl) (mUn oNeg hK (mInt))) rfl (Or.inl rfl)) (psOne (psApp gok hK (pv 3) (mTup (paCons (mCall (ok__law_any T TT) gok hK (hr.mono (by decide)) hgd rfl (by first | assumption | exact takes0 | exact takes_of rfl rfl rfl rfl) (paFd 0 (pv 0) (paCons (mVar 4 (pv 4)) (paNil) rfl) rfl) rfl rfl rfl) (paCons (mVar 5 (pv 5)) (paCons (mVar 6 (pv 6)) (paNil) rfl) rfl) rfl)) rfl rfl rfl rfl rfl rfl)))) (fun _ => rfl)) (psOne (psFrz gok 3 (psRet (mCallTy cTuple hK rfl T.b_tuple Bt.boot_tuple (paCons (mVar 3 (pv 3)) (paNil) rfl) (by decide) rfl rfl rfl)))))
abbrev n__law_is_number : List Str := ["_law_word", "_law_odd", "_law_sign"]
theorem sc__law_is_number : FnScope n__law_is_number ["_law_word"] (defScope (top 43)) := ⟨rfl, rfl, rfl, by decide +kernel, rfl, by decide +kernel, by decide +kernel⟩
theorem ok__law_is_number (T : Facts K mg xc) (TT : TbF K mg base xc) : DefAt P w K mg base xc "_law_is_number" (top 43) ["_law_word"] 1 false f__law_is_number := by
  obtain ⟨f, fd, hf, hm, F⟩ := T.d__law_is_number
  subst hf
  refine defAt (N := n__law_is_number) F sc__law_is_number hm rfl (fun _ _ _ _ _ _ us hl => match us, hl with | [_], _ => rfl) (fun G hK hxc gok cdv hcd A outer s H E hr hgd => ?_)
  subst hxc
  have nd : (n__law_is_number).Nodup := sc__law_is_number.nd
  have hu := hr.units64
  have hu1 := hr.units1
  unfold m__law_is_number
  exact psCons (psSetLc (i := 1) (own := [("_law_sign", 2)]) (g := gName 2) (tt := tMT G W0 (tB (eBin gNotIn (eVar 2) (eC (.str "0123456789"))))) gok rfl nd rfl rfl (sw_true rfl rfl rfl (by decide +kernel)) (mSeq hK (mVar 0 (pv 0))) (blkOk_by (N := n__law_is_number) (sc := defScope (top 43)) (by decide +kernel)) (tgName (by decide)) (fun _ _ _ q => q) (fun _ _ _ _ _ => pg_name (i := 2) nd rfl (Or.inl rfl)) (fun _ _ _ _ _ => pts_one (ptCmp (oNotIn hu) hK (mVar 2 (pv 2)) (mStr) rfl)) (fun _ _ _ _ _ => mVar 2 (pv 2)) (fun _ => rfl)) (psOne (psRet (mAnd (mCmp (oNe hu) hK (mVar 0 (pv 0)) (mStr) rfl) (mAnd (mCmp (oEq hu) hK (mVar 1 (pv 1)) (mLst (paNil)) rfl) (mAnd (mCmp (oLt hu) hK (mCallB cLen hK rfl T.b_len Bt.boot_len (paCons (mVar 0 (pv 0)) (paNil) rfl) (by decide) rfl rfl rfl) (mInt) rfl) (mOne (mOr (mCmp (oEq hu) hK (mVar 0 (pv 0)) (mStr) rfl) (mOne (mCmp (oNe hu) hK (mIx iX hK (mVar 0 (pv 0)) (mInt) (fun _ _ => rfl)) (mStr) rfl)))))))))
abbrev n__law_step_in : List Str := ["_law_line", "_law_at", "_law_words_here"]
theorem sc__law_step_in : FnScope n__law_step_in ["_law_line", "_law_at"] (defScope (top 44)) := ⟨rfl, rfl, rfl, by decide +kernel, rfl, by decide +kernel, by decide +kernel⟩
theorem ok__law_step_in (T : Facts K mg xc) (TT : TbF K mg base xc) : DefAt P w K mg base xc "_law_step_in" (top 44) ["_law_line", "_law_at"] 2 false f__law_step_in := by
  obtain ⟨f, fd, hf, hm, F⟩ := T.d__law_step_in
  subst hf
  refine defAt (N := n__law_step_in) F sc__law_step_in hm rfl (fun _ _ _ _ _ _ us hl => match us, hl with | [_, _], _ => rfl) (fun G hK hxc gok cdv hcd A outer s H E hr hgd => ?_)
  subst hxc
  have nd : (n__law_step_in).Nodup := sc__law_step_in.nd
  have hu := hr.units64
  have hu1 := hr.units1
  unfold m__law_step_in
  exact psCons (psSet nd rfl (by first | exact Or.inl rfl | exact Or.inr rfl) (mMeth hK PySem.F.plainAttrs_str PySem.F.slot_str_split PySem.F.type_str_split mtSplit (mVar 0 (pv 0)) (paCons (mStr) (paNil) rfl) rfl rfl rfl rfl rfl) rfl (Or.inl rfl)) (psCons (psIf (ptNot (ptTru hK (mCall (ok__law_is_number T TT) gok hK (hr.mono (by decide)) hgd rfl (by first | assumption | exact takes0 | exact takes_of rfl rfl rfl rfl) (paF (paCons (mIx iX hK (mVar 2 (pv 2)) (mInt) (fun _ _ => rfl)) (paNil) rfl)) rfl rfl rfl) (fun _ => rfl))) (psOne (psRet (mTup (paCons (mStr) (paCons (mStr) (paCons (mVar 1 (pv 1)) (paCons (mInt) (paNil) rfl) rfl) rfl) rfl)))) (psNil)) (psCons (psIf (PW.pt (pwOr (ptCmp (oLt hu) hK (mCallB cLen hK rfl T.b_len Bt.boot_len (paCons (mVar 2 (pv 2)) (paNil) rfl) (by decide) rfl rfl rfl) (mInt) rfl) (pwOneOr (ptCmp (oNotIn hu) hK (mIx iX hK (mVar 2 (pv 2)) (mInt) (fun _ _ => rfl)) (mCall0 (ok__law_words T TT) gok hK (hr.mono (by decide)) hgd rfl (by first | assumption | exact takes0 | exact takes_of rfl rfl rfl rfl) rfl) rfl)))) (psOne (psRet (mTup (paCons (mStr) (paCons (mStr) (paCons (mVar 1 (pv 1)) (paCons (mInt) (paNil) rfl) rfl) rfl) rfl)))) (psNil)) (psCons (psIf (ptCmp (oNotIn hu) hK (mIx iX hK (mVar 2 (pv 2)) (mInt) (fun _ _ => rfl)) (mLst (paCons (mStr) (paCons (mStr) (paNil) rfl) rfl)) rfl) (psOne (psRet (mIf (ptCmp (oEq hu) hK (mCallB cLen hK rfl T.b_len Bt.boot_len (paCons (mVar 2 (pv 2)) (paNil) rfl) (by decide) rfl rfl rfl) (mInt) rfl) (mTup (paCons (mStr) (paCons (mTup (paCons (mCallTy cInt hK rfl T.b_int Bt.boot_int (paCons (mIx iX hK (mVar 2 (pv 2)) (mInt) (fun _ _ => rfl)) (paNil) rfl) (by decide) rfl rfl rfl) (paCons (mIx iX hK (mVar 2 (pv 2)) (mInt) (fun _ _ => rfl)) (paCons (mUn oNeg hK (mInt)) (paNil) rfl) rfl) rfl)) (paNil) rfl) rfl)) (mTup (paCons (mStr) (paCons (mStr) (paCons (mVar 1 (pv 1)) (paCons (mInt) (paNil) rfl) rfl) rfl) rfl))))) (psNil)) (psCons (psIf (PW.pt (pwOr (ptCmp (oLt hu) hK (mCallB cLen hK rfl T.b_len Bt.boot_len (paCons (mVar 2 (pv 2)) (paNil) rfl) (by decide) rfl rfl rfl) (mInt) rfl) (pwOneOr (ptNot (ptTru hK (mCall (ok__law_is_number T TT) gok hK (hr.mono (by decide)) hgd rfl (by first | assumption | exact takes0 | exact takes_of rfl rfl rfl rfl) (paF (paCons (mIx iX hK (mVar 2 (pv 2)) (mInt) (fun _ _ => rfl)) (paNil) rfl)) rfl rfl rfl) (fun _ => rfl)))))) (psOne (psRet (mTup (paCons (mStr) (paCons (mStr) (paCons (mVar 1 (pv 1)) (paCons (mInt) (paNil) rfl) rfl) rfl) rfl)))) (psNil)) (psOne (psRet (mIf (ptCmp (oEq hu) hK (mCallB cLen hK rfl T.b_len Bt.boot_len (paCons (mVar 2 (pv 2)) (paNil) rfl) (by decide) rfl rfl rfl) (mInt) rfl) (mTup (paCons (mStr) (paCons (mTup (paCons (mCallTy cInt hK rfl T.b_int Bt.boot_int (paCons (mIx iX hK (mVar 2 (pv 2)) (mInt) (fun _ _ => rfl)) (paNil) rfl) (by decide) rfl rfl rfl) (paCons (mIx iX hK (mVar 2 (pv 2)) (mInt) (fun _ _ => rfl)) (paCons (mCallTy cInt hK rfl T.b_int Bt.boot_int (paCons (mIx iX hK (mVar 2 (pv 2)) (mInt) (fun _ _ => rfl)) (paNil) rfl) (by decide) rfl rfl rfl) (paNil) rfl) rfl) rfl)) (paNil) rfl) rfl)) (mTup (paCons (mStr) (paCons (mStr) (paCons (mVar 1 (pv 1)) (paCons (mInt) (paNil) rfl) rfl) rfl) rfl)))))))))
abbrev n__law_steps_in : List Str := ["_law_page", "_law_k", "_law_found", "_law_lines", "_law_told"]
theorem sc__law_steps_in : FnScope n__law_steps_in ["_law_page"] (defScope (top 45)) := ⟨rfl, rfl, rfl, by decide +kernel, rfl, by decide +kernel, by decide +kernel⟩
theorem ok__law_steps_in (T : Facts K mg xc) (TT : TbF K mg base xc) : DefAt P w K mg base xc "_law_steps_in" (top 45) ["_law_page"] 3 false f__law_steps_in := by
  obtain ⟨f, fd, hf, hm, F⟩ := T.d__law_steps_in
  subst hf
  refine defAt (N := n__law_steps_in) F sc__law_steps_in hm rfl (fun _ _ _ _ _ _ us hl => match us, hl with | [_], _ => rfl) (fun G hK hxc gok cdv hcd A outer s H E hr hgd => ?_)
  subst hxc
  have nd : (n__law_steps_in).Nodup := sc__law_steps_in.nd
  have hu := hr.units64
  have hu1 := hr.units1
  unfold m__law_steps_in
  exact psCons (psIf (ptCmp (oEq hu) hK (mVar 0 (pv 0)) (mStr) rfl) (psOne (psRet (mTup (paCons (mStr) (paCons (mTup (paNil)) (paNil) rfl) rfl)))) (psNil)) (psCons (psParOwn (i := 2) (j := 3) rfl nd rfl rfl (by decide) rfl rfl (paNil) (mMeth hK PySem.F.plainAttrs_str PySem.F.slot_str_split PySem.F.type_str_split mtSplit (mVar 0 (pv 0)) (paCons (mStr) (paNil) rfl) rfl rfl rfl rfl rfl) rfl rfl rfl rfl) (psCons (psFor (vs := [1]) (g := gName 1) (tgName (by decide)) (passes_of rfl) rfl (mRange1 rfl T.b_range (paCons (mCallB cLen hK rfl T.b_len Bt.boot_len (paCons (mVar 3 (pv 3)) (paNil) rfl) (by decide) rfl rfl rfl) (paNil) rfl) rfl) (pg_name (i := 1) nd rfl (by first | exact Or.inl rfl | exact Or.inr rfl)) (psCons (psSet nd rfl (by first | exact Or.inl rfl | exact Or.inr rfl) (mCall (ok__law_step_in T TT) gok hK (hr.mono (by decide)) hgd rfl (by first | assumption | exact takes0 | exact takes_of rfl rfl rfl rfl) (paF (paCons (mIx iX hK (mVar 3 (pv 3)) (mVar 1 (pv 1)) (fun _ _ => rfl)) (paCons (mVar 1 (pv 1)) (paNil) rfl) rfl)) rfl rfl rfl) rfl (Or.inl rfl)) (psCons (psIf (ptCmp (oEq hu) hK (mIx iX hK (mVar 4 (pv 4)) (mInt) (fun _ _ => rfl)) (mStr) rfl) (psOne (psRet (mVar 4 (pv 4)))) (psNil)) (psOne (psApp gok hK (pv 2) (mIx iX hK (mVar 4 (pv 4)) (mInt) (fun _ _ => rfl)) rfl rfl rfl rfl rfl rfl)))) (fun _ => rfl)) (psOne (psFrz gok 2 (psRet (mTup (paCons (mStr) (paCons (mCallTy cTuple hK rfl T.b_tuple Bt.boot_tuple (paCons (mVar 2 (pv 2)) (paNil) rfl) (by decide) rfl rfl rfl) (paNil) rfl) rfl)))))))
abbrev n__law_strange : List Str := ["_law_some"]
theorem sc__law_strange : FnScope n__law_strange [] (defScope (top 46)) := ⟨rfl, rfl, rfl, by decide +kernel, rfl, by decide +kernel, by decide +kernel⟩
theorem ok__law_strange (T : Facts K mg xc) (TT : TbF K mg base xc) : DefAt P w K mg base xc "_law_strange" (top 46) [] 1 false f__law_strange := by
  obtain ⟨f, fd, hf, hm, F⟩ := T.d__law_strange
  subst hf
  refine defAt (N := n__law_strange) F sc__law_strange hm rfl (fun _ _ _ _ _ _ us hl => match us, hl with | [], _ => rfl) (fun G hK hxc gok cdv hcd A outer s H E hr hgd => ?_)
  subst hxc
  have nd : (n__law_strange).Nodup := sc__law_strange.nd
  have hu := hr.units64
  have hu1 := hr.units1
  unfold m__law_strange
  exact psCons (psSet nd rfl (by first | exact Or.inl rfl | exact Or.inr rfl) (mLst (paCons (mStr) (paCons (mStr) (paCons (mStr) (paCons (mStr) (paCons (mStr) (paCons (mStr) (paCons (mStr) (paCons (mStr) (paCons (mStr) (paCons (mStr) (paCons (mStr) (paCons (mStr) (paCons (mStr) (paCons (mStr) (paCons (mStr) (paCons (mStr) (paCons (mStr) (paNil) rfl) rfl) rfl) rfl) rfl) rfl) rfl) rfl) rfl) rfl) rfl) rfl) rfl) rfl) rfl) rfl) rfl)) rfl (Or.inl rfl)) (psCons (psSet nd rfl (by first | exact Or.inl rfl | exact Or.inr rfl) (mBin oAdd hK (mVar 0 (pv 0)) (mLst (paCons (mBin oMul2 hK (mStr) (mInt)) (paCons (mBin oMul2 hK (mStr) (mInt)) (paCons (mBin oMul2 hK (mStr) (mInt)) (paCons (mStr) (paCons (mStr) (paCons (mStr) (paCons (mStr) (paCons (mStr) (paCons (mStr) (paNil) rfl) rfl) rfl) rfl) rfl) rfl) rfl) rfl) rfl))) rfl (Or.inl rfl)) (psOne (psRet (mBin oAdd hK (mVar 0 (pv 0)) (mLst (paCons (mStr) (paCons (mStr) (paCons (mStr) (paCons (mStr) (paCons (mStr) (paCons (mStr) (paCons (mStr) (paNil) rfl) rfl) rfl) rfl) rfl) rfl) rfl))))))
abbrev n__law_bent : List Str := ["_law_feed", "_law_page", "_law_at", "_law_words_here", "_law_k", "_law_late", "_law_way", "_law_lines"]
theorem sc__law_bent : FnScope n__law_bent ["_law_feed", "_law_page"] (defScope (top 47)) := ⟨rfl, rfl, rfl, by decide +kernel, rfl, by decide +kernel, by decide +kernel⟩
theorem ok__law_bent (T : Facts K mg xc) (TT : TbF K mg base xc) : DefAt P w K mg base xc "_law_bent" (top 47) ["_law_feed", "_law_page"] 3 true f__law_bent := by
  obtain ⟨f, fd, hf, hm, F⟩ := T.d__law_bent
  subst hf
  refine defAt (N := n__law_bent) F sc__law_bent hm rfl (fun _ _ _ _ _ _ us hl => match us, hl with | [_, _], _ => rfl) (fun G hK hxc gok cdv hcd A outer s H E hr hgd => ?_)
  subst hxc
  have nd : (n__law_bent).Nodup := sc__law_bent.nd
  have hu := hr.units64
  have hu1 := hr.units1
  unfold m__law_bent
  exact psCons (psParSplit (i := 6) (j := 7) rfl nd rfl rfl (by decide) rfl rfl (mCall (ok__law_draw T TT) gok hK (hr.mono (by decide)) hgd rfl (by first | assumption | exact takes0 | exact takes_of rfl rfl rfl rfl) (paFd 0 (pv 0) (paCons (mInt) (paNil) rfl) rfl) rfl rfl rfl) (mVar 1 (pv 1)) rfl rfl rfl rfl rfl rfl rfl) (psCons (psSet nd rfl (by first | exact Or.inl rfl | exact Or.inr rfl) (mBor gok 7 (mCall (ok__law_draw T TT) gok hK (hr.mono (by decide)) hgd rfl (by first | assumption | exact takes0 | exact takes_of rfl rfl rfl rfl) (paFd 0 (pv 0) (paCons (mCallB cLen hK rfl T.b_len Bt.boot_len (paCons (mVar 7 (pv 7)) (paNil) rfl) (by decide) rfl rfl rfl) (paNil) rfl) rfl) rfl rfl rfl)) rfl (Or.inl rfl)) (psCons (psSet nd rfl (by first | exact Or.inl rfl | exact Or.inr rfl) (mMeth hK PySem.F.plainAttrs_str PySem.F.slot_str_split PySem.F.type_str_split mtSplit (mOwnIx gok hK 7 (pv 7) (mVar 2 (pv 2)) (fun _ _ => rfl)) (paCons (mStr) (paNil) rfl) rfl rfl rfl rfl rfl) rfl (Or.inl rfl)) (psCons (psSet nd rfl (by first | exact Or.inl rfl | exact Or.inr rfl) (mCall (ok__law_draw T TT) gok hK (hr.mono (by decide)) hgd rfl (by first | assumption | exact takes0 | exact takes_of rfl rfl rfl rfl) (paFd 0 (pv 0) (paCons (mBin oAdd hK (mCallB cLen hK rfl T.b_len Bt.boot_len (paCons (mVar 3 (pv 3)) (paNil) rfl) (by decide) rfl rfl rfl) (mInt)) (paNil) rfl) rfl) rfl rfl rfl) rfl (Or.inl rfl)) (psCons (psIf (ptCmp (oEq hu) hK (mVar 6 (pv 6)) (mInt) rfl) (psOne (psSet nd rfl (by first | exact Or.inl rfl | exact Or.inr rfl) (mBin oAdd hK (mSlice hK (mVar 3 (pv 3)) (po_none) (po_some (mVar 4 (pv 4))) tokNo tokAt) (mSlice hK (mVar 3 (pv 3)) (po_some (mBin oAdd hK (mVar 4 (pv 4)) (mInt))) (po_none) tokAt tokNo)) rfl (Or.inl rfl))) (psNil)) (psCons (psIf (ptCmp (oEq hu) hK (mVar 6 (pv 6)) (mInt) rfl) (psOne (psSet nd rfl (by first | exact Or.inl rfl | exact Or.inr rfl) (mBin oAdd hK (mBin oAdd hK (mSlice hK (mVar 3 (pv 3)) (po_none) (po_some (mVar 4 (pv 4))) tokNo tokAt) (mLst (paCons (mCall (ok__law_any T TT) gok hK (hr.mono (by decide)) hgd rfl (by first | assumption | exact takes0 | exact takes_of rfl rfl rfl rfl) (paFd 0 (pv 0) (paCons (mCall0 (ok__law_strange T TT) gok hK (hr.mono (by decide)) hgd rfl (by first | assumption | exact takes0 | exact takes_of rfl rfl rfl rfl) rfl) (paNil) rfl) rfl) rfl rfl rfl) (paNil) rfl))) (mSlice hK (mVar 3 (pv 3)) (po_some (mVar 4 (pv 4))) (po_none) tokAt tokNo)) rfl (Or.inl rfl))) (psNil)) (psCons (psIf (PW.pt (pwOr (ptCmp (oEq hu) hK (mVar 6 (pv 6)) (mInt) rfl) (pwOneOr (ptCmp (oEq hu) hK (mVar 6 (pv 6)) (mInt) rfl)))) (psOne (psSet nd rfl (by first | exact Or.inl rfl | exact Or.inr rfl) (mBin oAdd hK (mBin oAdd hK (mSlice hK (mVar 3 (pv 3)) (po_none) (po_some (mVar 4 (pv 4))) tokNo tokAt) (mLst (paCons (mCall (ok__law_any T TT) gok hK (hr.mono (by decide)) hgd rfl (by first | assumption | exact takes0 | exact takes_of rfl rfl rfl rfl) (paFd 0 (pv 0) (paCons (mCall0 (ok__law_strange T TT) gok hK (hr.mono (by decide)) hgd rfl (by first | assumption | exact takes0 | exact takes_of rfl rfl rfl rfl) rfl) (paNil) rfl) rfl) rfl rfl rfl) (paNil) rfl))) (mSlice hK (mVar 3 (pv 3)) (po_some (mBin oAdd hK (mVar 4 (pv 4)) (mInt))) (po_none) tokAt tokNo)) rfl (Or.inl rfl))) (psNil)) (psCons (psIf (ptCmp (oEq hu) hK (mVar 6 (pv 6)) (mInt) rfl) (psOne (psSet nd rfl (by first | exact Or.inl rfl | exact Or.inr rfl) (mBin oAdd hK (mBin oAdd hK (mSlice hK (mVar 3 (pv 3)) (po_none) (po_some (mVar 4 (pv 4))) tokNo tokAt) (mSlice hK (mVar 3 (pv 3)) (po_some (mBin oSub hK (mVar 4 (pv 4)) (mInt))) (po_some (mVar 4 (pv 4))) tokAt tokAt)) (mSlice hK (mVar 3 (pv 3)) (po_some (mVar 4 (pv 4))) (po_none) tokAt tokNo)) rfl (Or.inl rfl))) (psNil)) (psCons (psSetIx gok (pv 7) (mVar 2 (pv 2)) (mMeth hK PySem.F.plainAttrs_str PySem.F.slot_str_join PySem.F.type_str_join mtJoin (mStr) (paCons (mVar 3 (pv 3)) (paNil) rfl) rfl rfl rfl rfl rfl) (fun _ => rfl) rfl rfl rfl) (psCons (psFrz gok 7 (psSet nd rfl (by first | exact Or.inl rfl | exact Or.inr rfl) (mMeth hK PySem.F.plainAttrs_str PySem.F.slot_str_join PySem.F.type_str_join mtJoin (mStr) (paCons (mVar 7 (pv 7)) (paNil) rfl) rfl rfl rfl rfl rfl) rfl (Or.inl rfl))) (psCons (psIf (ptCmp (oGt hu) hK (mVar 6 (pv 6)) (mInt) rfl) (psCons (psSet nd rfl (by first | exact Or.inl rfl | exact Or.inr rfl) (mCall (ok__law_draw T TT) gok hK (hr.mono (by decide)) hgd rfl (by first | assumption | exact takes0 | exact takes_of rfl rfl rfl rfl) (paFd 0 (pv 0) (paCons (mBin oAdd hK (mCallB cLen hK rfl T.b_len Bt.boot_len (paCons (mVar 5 (pv 5)) (paNil) rfl) (by decide) rfl rfl rfl) (mInt)) (paNil) rfl) rfl) rfl rfl rfl) rfl (Or.inl rfl)) (psOne (psSet nd rfl (by first | exact Or.inl rfl | exact Or.inr rfl) (mBin oAdd hK (mBin oAdd hK (mSlice hK (mVar 5 (pv 5)) (po_none) (po_some (mVar 4 (pv 4))) tokNo tokAt) (mCall (ok__law_any T TT) gok hK (hr.mono (by decide)) hgd rfl (by first | assumption | exact takes0 | exact takes_of rfl rfl rfl rfl) (paFd 0 (pv 0) (paCons (mLst (paCons (mStr) (paCons (mStr) (paCons (mStr) (paCons (mStr) (paCons (mStr) (paCons (mStr) (paCons (mStr) (paCons (mStr) (paNil) rfl) rfl) rfl) rfl) rfl) rfl) rfl) rfl)) (paNil) rfl) rfl) rfl rfl rfl)) (mSlice hK (mVar 5 (pv 5)) (po_some (mBin oSub hK (mBin oAdd hK (mVar 4 (pv 4)) (mVar 6 (pv 6))) (mInt))) (po_none) tokAt tokNo)) rfl (Or.inl rfl)))) (psNil)) (psOne (psRet (mVar 5 (pv 5))))))))))))))
abbrev n__law_said : List Str := ["_law_ask", "_law_error"]
theorem sc__law_said : FnScope n__law_said ["_law_ask"] (defScope (top 38)) := ⟨rfl, rfl, rfl, by decide +kernel, rfl, by decide +kernel, by decide +kernel⟩
theorem heard_at (T : Facts K mg xc) (TT : TbF K mg base xc) : HeardAt P w K mg base xc "_law_said" "told" 5 1 f__law_refusal := by
  obtain ⟨f, fd, hf, hm, F⟩ := T.d__law_said
  exact ⟨"_law_ask", "PipeError", "_law_error", "_law_refusal", f, He.ga K "PipeError", fd, top 38, n__law_said, _, _, _, _, _, _, _, _, _, _, _, _, _, _, hm, F, fun us hl s => FunD.bindsA (ps := ["_law_ask"]) F (fun _ _ _ _ _ _ us hl => match us, hl with | [_], _ => rfl) s us hl, rfl, sc__law_said, rfl, rfl, Or.inl rfl, rfl, rfl, rfl, T.hc.1, ok__law_refusal T TT, rfl, rfl, rfl, rfl, rfl, rfl, T.hc.2⟩
abbrev n__law_is_right : List Str := ["_law_page", "_law_told"]
theorem sc__law_is_right : FnScope n__law_is_right ["_law_page"] (defScope (top 48)) := ⟨rfl, rfl, rfl, by decide +kernel, rfl, by decide +kernel, by decide +kernel⟩
theorem ok__law_is_right (T : Facts K mg xc) (TT : TbF K mg base xc) : DefAt P w K mg base xc "_law_is_right" (top 48) ["_law_page"] 9 false f__law_is_right := by
  obtain ⟨f, fd, hf, hm, F⟩ := T.d__law_is_right
  subst hf
  refine defAt (N := n__law_is_right) F sc__law_is_right hm rfl (fun _ _ _ _ _ _ us hl => match us, hl with | [_], _ => rfl) (fun G hK hxc gok cdv hcd A outer s H E hr hgd => ?_)
  subst hxc
  have nd : (n__law_is_right).Nodup := sc__law_is_right.nd
  have hu := hr.units64
  have hu1 := hr.units1
  unfold m__law_is_right
  exact psCons (psOwn nd rfl (by first | exact Or.inl rfl | exact Or.inr rfl) (paCons (mHeard (k := 6) gok hK (heard_at T TT) (code_of hcd) TT.t__law_is_right (hr.mono (by decide)) (by decide) hgd rfl (LamX.lamS_by (sc := defScope (top 48)) (by decide +kernel)) rfl (fun _ _ _ _ _ => rfl) (fun A outer s H E f c' hr hgd => by have hu := hr.units64; have hu1 := hr.units1; exact mCall (ok_read_run T TT) gok hK (hr.mono (by decide)) hgd rfl (by first | assumption | exact takes0 | exact takes_of rfl rfl rfl rfl) (paF (paCons (mVar 0 (pv 0)) (paNil) rfl)) rfl rfl rfl) rfl) (paNil) rfl) rfl (Or.inl rfl)) (psCons (psApp gok hK (pv 1) (mHeard (k := 6) gok hK (heard_at T TT) (code_of hcd) TT.t__law_is_right (hr.mono (by decide)) (by decide) hgd rfl (LamX.lamS_by (sc := defScope (top 48)) (by decide +kernel)) rfl (fun _ _ _ _ _ => rfl) (fun A outer s H E f c' hr hgd => by have hu := hr.units64; have hu1 := hr.units1; exact mCall (ok_read_step T TT) gok hK (hr.mono (by decide)) hgd rfl (by first | assumption | exact takes0 | exact takes_of rfl rfl rfl rfl) (paF (paCons (mVar 0 (pv 0)) (paNil) rfl)) rfl rfl rfl) rfl) rfl rfl rfl rfl rfl rfl) (psOne (psFrz gok 1 (psRet (mCmp (oEq hu) hK (mCallB (cRepr hu hgd) hK rfl T.b_repr Bt.boot_repr (paCons (mVar 1 (pv 1)) (paNil) rfl) (by decide) rfl rfl rfl) (mCallB (cRepr hu hgd) hK rfl T.b_repr Bt.boot_repr (paCons (mLst (paCons (mCall (ok__law_steps_in T TT) gok hK (hr.mono (by decide)) hgd rfl (by first | assumption | exact takes0 | exact takes_of rfl rfl rfl rfl) (paF (paCons (mVar 0 (pv 0)) (paNil) rfl)) rfl rfl rfl) (paCons (mCall (ok__law_step_in T TT) gok hK (hr.mono (by decide)) hgd rfl (by first | assumption | exact takes0 | exact takes_of rfl rfl rfl rfl) (paF (paCons (mVar 0 (pv 0)) (paCons (mInt) (paNil) rfl) rfl)) rfl rfl rfl) (paNil) rfl) rfl)) (paNil) rfl) (by decide) rfl rfl rfl) rfl)))))
abbrev n_law : List Str := ["_law_script", "_law_feed", "_law_lap", "_law_some", "_law_page", "_law_turn", "_law_late"]
theorem sc_law : FnScope n_law ["_law_script"] (defScope (top 49)) := ⟨rfl, rfl, rfl, by decide +kernel, rfl, by decide +kernel, by decide +kernel⟩
abbrev n__law_start : List Str := ["_law_script"]
theorem sc__law_start : FnScope n__law_start ["_law_script"] (defScope (top 34)) := ⟨rfl, rfl, rfl, by decide +kernel, rfl, by decide +kernel, by decide +kernel⟩
theorem ok__law_start (T : Facts K mg xc) : FeedAtS P w K mg base 61 "_law_start" "_law_script" := by
  obtain ⟨f, fd, hf, hm, F⟩ := T.d__law_start
  refine ⟨f, fd, hm, F.kp, fnG_D F sc__law_start (spFeedS_len rfl) (fun cdv hcd A outer s H vs Q E hr hgd h => ⟨tFeedN K 61, ?_, feedN_read rfl h⟩), fun us hl s => FunD.bindsA F (fun _ _ _ _ _ _ us hl => match us, hl with | [_], _ => rfl) s us hl⟩
  have nd : (n__law_start).Nodup := sc__law_start.nd
  exact pss_one (ps_ret (pe_disp (pps_cons pe_str (pe_slice sl_list (pv 0) po_none (po_some pe_int)) (pps_cons pe_str pe_int (pps_cons pe_str pe_int (pps_cons pe_str pe_int pps_nil)))) rfl rfl (by simp) (by decide)))
theorem ok_law (T : Facts K mg (xcL K xsL ((tabsK K tfL).zip qsL))) (TT : TbF K mg base (xcL K xsL ((tabsK K tfL).zip qsL))) {f : Addr} {fd : FuncData} (hf : f = He.ga K "law") (F : FunD K "law" "law" (defArgs (top 49)) (defBody (top 49)) (defScope (top 49)) [] [] f fd) : FnG P w K mg base (L2.CX P w) 10 f fd ["_law_script"] (spLawS K ((tabsK K tfL).zip qsL) 61 m_law (n_law).length 1) := by
  subst hf
  obtain ⟨ff, ffd, fm, fk, FF, fb⟩ := (ok__law_start (P := P) (w := w) (base := base) T).ex
  refine fnG_D F sc_law (spLawS_len rfl) (fun cdv hcd A outer s H vs Q E hr hgd h => ⟨_, ?_, law_readS (xc := xcL K xsL ((tabsK K tfL).zip qsL)) (W := fun c d _ H' => E c d H') (by decide) (by decide) h⟩)
  have nd : (n_law).Nodup := sc_law.nd
  have hu := hr.units64
  have hu1 := hr.units1
  refine pss_cons (ps_set (i := 1) nd rfl (by first | exact Or.inl rfl | exact Or.inr rfl) (pe_callP FF fm fk fb (hr.mono (by decide)) hgd rfl (by first | assumption | exact takes0 | exact takes_of rfl rfl rfl rfl) (pa_cons (pv 0) pa_nil) rfl rfl rfl) rfl (Or.inl rfl)) (pssEx fun G hK hxc gok => ?_)
  rw [← hxc] at T TT
  unfold m_law
  exact psCons (psFor (vs := [2]) (g := gName 2) (tgName (by decide)) (passes_of rfl) rfl (mRange1 rfl T.b_range (paCons (mInt) (paNil) rfl) rfl) (pg_name (i := 2) nd rfl (by first | exact Or.inl rfl | exact Or.inr rfl)) (psCons (psSet nd rfl (by first | exact Or.inl rfl | exact Or.inr rfl) (mCall (ok__law_text_of T TT) gok hK (hr.mono (by decide)) hgd rfl (by first | assumption | exact takes0 | exact takes_of rfl rfl rfl rfl) (paF (paCons (mCall (ok__law_loose T TT) gok hK (hr.mono (by decide)) hgd rfl (by first | assumption | exact takes0 | exact takes_of rfl rfl rfl rfl) (paFd 1 (pv 1) (paCons (mInt) (paNil) rfl) rfl) rfl rfl rfl) (paNil) rfl)) rfl rfl rfl) rfl (Or.inl rfl)) (psCons (psIf (ptNot (ptTru hK (mCall (ok__law_is_right T TT) gok hK (hr.mono (by decide)) hgd rfl (by first | assumption | exact takes0 | exact takes_of rfl rfl rfl rfl) (paF (paCons (mVar 4 (pv 4)) (paNil) rfl)) rfl rfl rfl) (fun _ => rfl))) (psOne (psRet (mBool))) (psNil)) (psOne (psFor (vs := [5]) (g := gName 5) (tgName (by decide)) (passes_of rfl) rfl (mRange1 rfl T.b_range (paCons (mInt) (paNil) rfl) rfl) (pg_name (i := 5) nd rfl (by first | exact Or.inl rfl | exact Or.inr rfl)) (psCons (psSet nd rfl (by first | exact Or.inl rfl | exact Or.inr rfl) (mCall (ok__law_bent T TT) gok hK (hr.mono (by decide)) hgd rfl (by first | assumption | exact takes0 | exact takes_of rfl rfl rfl rfl) (paFd 1 (pv 1) (paCons (mVar 4 (pv 4)) (paNil) rfl) rfl) rfl rfl rfl) rfl (Or.inl rfl)) (psCons (psIf (PW.pt (pwOr (ptNot (ptTru hK (mCall (ok__law_is_right T TT) gok hK (hr.mono (by decide)) hgd rfl (by first | assumption | exact takes0 | exact takes_of rfl rfl rfl rfl) (paF (paCons (mVar 6 (pv 6)) (paNil) rfl)) rfl rfl rfl) (fun _ => rfl))) (pwOneOr (ptNot (ptTru hK (mCall (ok__law_is_right T TT) gok hK (hr.mono (by decide)) hgd rfl (by first | assumption | exact takes0 | exact takes_of rfl rfl rfl rfl) (paF (paCons (mIx iX hK (mMeth hK PySem.F.plainAttrs_str PySem.F.slot_str_split PySem.F.type_str_split mtSplit (mVar 6 (pv 6)) (paCons (mStr) (paNil) rfl) rfl rfl rfl rfl rfl) (mInt) (fun _ _ => rfl)) (paNil) rfl)) rfl rfl rfl) (fun _ => rfl)))))) (psOne (psRet (mBool))) (psNil)) (psOne (psIf (PW.pt (pwAnd (ptCmp (oGt hu) hK (mVar 5 (pv 5)) (mInt) rfl) (pwOne (ptNot (ptTru hK (mCall (ok__law_is_right T TT) gok hK (hr.mono (by decide)) hgd rfl (by first | assumption | exact takes0 | exact takes_of rfl rfl rfl rfl) (paF (paCons (mCall (ok__law_bent T TT) gok hK (hr.mono (by decide)) hgd rfl (by first | assumption | exact takes0 | exact takes_of rfl rfl rfl rfl) (paFd 1 (pv 1) (paCons (mVar 6 (pv 6)) (paNil) rfl) rfl) rfl rfl rfl) (paNil) rfl)) rfl rfl rfl) (fun _ => rfl)))))) (psOne (psRet (mBool))) (psNil))))) (fun _ => rfl))))) (fun _ => rfl)) (psCons (psSet nd rfl (by first | exact Or.inl rfl | exact Or.inr rfl) (mLst (paCons (mStr) (paCons (mStr) (paCons (mStr) (paCons (mStr) (paCons (mStr) (paCons (mStr) (paCons (mStr) (paCons (mStr) (paCons (mStr) (paCons (mStr) (paCons (mStr) (paNil) rfl) rfl) rfl) rfl) rfl) rfl) rfl) rfl) rfl) rfl) rfl)) rfl (Or.inl rfl)) (psCons (psSet nd rfl (by first | exact Or.inl rfl | exact Or.inr rfl) (mBin oAdd hK (mVar 3 (pv 3)) (mLst (paCons (mStr) (paCons (mStr) (paCons (mStr) (paCons (mStr) (paCons (mStr) (paCons (mStr) (paCons (mStr) (paCons (mStr) (paCons (mStr) (paNil) rfl) rfl) rfl) rfl) rfl) rfl) rfl) rfl) rfl))) rfl (Or.inl rfl)) (psCons (psSet nd rfl (by first | exact Or.inl rfl | exact Or.inr rfl) (mBin oAdd hK (mVar 3 (pv 3)) (mLst (paCons (mStr) (paCons (mStr) (paCons (mStr) (paCons (mStr) (paNil) rfl) rfl) rfl) rfl))) rfl (Or.inl rfl)) (psOne (psRet (mCmp (oEq hu) hK (mComp (own := [("_law_page", 4)]) (g := gName 4) (tt := tMT G W0 (bNot (tT (eCall false f__law_is_right (aCons (eVar 4) (aNil)))))) gok rfl nd (mSeq hK (mVar 3 (pv 3))) (blkOk_by (N := n_law) (sc := defScope (top 49)) (by decide +kernel)) (tgName (by decide)) (fun _ _ _ q => q) (fun _ _ _ _ _ => pg_name (i := 4) nd rfl (Or.inl rfl)) (fun _ _ _ _ _ => pts_one (ptNot (ptTru hK (mCall (ok__law_is_right T TT) gok hK (hr.mono (by decide)) hgd rfl (by first | assumption | exact takes0 | exact takes_of rfl rfl rfl rfl) (paF (paCons (mVar 4 (pv 4)) (paNil) rfl)) rfl rfl rfl) (fun _ => rfl)))) (fun _ _ _ _ _ => mVar 4 (pv 4)) (fun _ => rfl)) (mLst (paNil)) rfl))))))
end
def fnL0 : List He.DefD := [defOf "is_name" (top 17), defOf "words_of" (top 21), defOf "_is_number_word" (top 23), defOf "numbers_of" (top 24), defOf "_is_targets_word" (top 25), defOf "_can_stand" (top 26), defOf "check_words" (top 22), defOf "need" (top 28), defOf "step_in" (top 32), defOf "read_step" (top 30), defOf "read_run" (top 31), defOf "_law_draw" (top 35), defOf "_law_any" (top 36), defOf "_law_refusal" (top 37), defOf "_law_words" (top 39), defOf "_law_line_of" (top 40), defOf "_law_text_of" (top 41), defOf "_law_loose" (top 42), defOf "_law_is_number" (top 43), defOf "_law_step_in" (top 44)]
def fnL1 : List He.DefD := [defOf "_law_steps_in" (top 45), defOf "_law_strange" (top 46), defOf "_law_bent" (top 47), defOf "_law_is_right" (top 48), defOf "_law_start" (top 34), defOf "law" (top 49), defOf "_law_said" (top 38), initOf "InvalidPaper" (clsInit (top 6) 0), initOf "NotUsable" (clsInit (top 7) 0), initOf "InvalidStep" (clsInit (top 8) 0), initOf "InvalidText" (clsInit (top 9) 0)]
def fnL : List He.DefD := fnL0 ++ fnL1
def faL0 : List He.Fa := [.glo "is_name", .glo "words_of", .glo "_is_number_word", .glo "numbers_of", .glo "_is_targets_word", .glo "_can_stand", .glo "check_words", .glo "need", .glo "step_in", .glo "read_step", .glo "read_run", .glo "_law_draw", .glo "_law_any", .glo "_law_refusal", .glo "_law_words", .glo "_law_line_of", .glo "_law_text_of", .glo "_law_loose", .glo "_law_is_number", .glo "_law_step_in"]
def faL1 : List He.Fa := [.glo "_law_steps_in", .glo "_law_strange", .glo "_law_bent", .glo "_law_is_right", .glo "_law_start", .glo "law", .glo "_law_said", .glo "InvalidPaper", .glo "NotUsable", .glo "InvalidStep", .glo "InvalidText", .glo "InvalidRow", .glo "HouseError", .glo "PaperError", .glo "PipeError", .glo "ProgramError", .glo "TextError", .free "ValueError", .free "all", .free "enumerate"]
def faL2 : List He.Fa := [.free "int", .free "isinstance", .free "len", .free "range", .free "repr", .free "str", .free "tuple", .free "zip"]
def faL : List He.Fa := faL0 ++ faL1 ++ faL2
def dtL0 : List (Str × D) := [("BIRTHS", c_BIRTHS), ("DIGITS", c_DIGITS), ("ENDS", c_ENDS), ("LETTERS", c_LETTERS), ("MOST_DIGITS", c_MOST_DIGITS), ("SWITCHES", c_SWITCHES), ("WORDS", c_WORDS)]
def dtL : List (Str × D) := dtL0
def subL0 : List (Str × List Bool) := [("HouseError", [false, false, false, false, false]), ("InvalidPaper", [true, false, false, false, false]), ("InvalidRow", [false, false, false, false, true]), ("InvalidStep", [false, false, true, false, false]), ("InvalidText", [false, false, false, true, false]), ("NotUsable", [false, true, false, false, false]), ("PaperError", [true, false, false, false, false]), ("ProgramError", [false, true, true, false, false]), ("TextError", [false, false, false, true, true])]
def subL : List (Str × List Bool) := subL0
def sutL0 : List (String × List Bool) := [("ValueError", [true, true, true, true, true])]
def sutL : List (String × List Bool) := sutL0
def trL0 : List (Str × List Bool) := []
def trL : List (Str × List Bool) := trL0
def looseL0 : List Str := [("PipeError" : Str), ("PaperError" : Str), ("ProgramError" : Str), ("HouseError" : Str), ("TextError" : Str), ("InvalidPaper" : Str), ("NotUsable" : Str), ("InvalidStep" : Str), ("InvalidText" : Str), ("InvalidRow" : Str), ("ENDS" : Str), ("BIRTHS" : Str), ("SWITCHES" : Str), ("WORDS" : Str), ("LETTERS" : Str), ("is_name" : Str), ("DIGITS" : Str), ("MOST_DIGITS" : Str), ("words_of" : Str), ("check_words" : Str)]
def looseL1 : List Str := [("_is_number_word" : Str), ("numbers_of" : Str), ("_is_targets_word" : Str), ("_can_stand" : Str), ("need" : Str), ("read_step" : Str), ("read_run" : Str), ("step_in" : Str), ("_law_start" : Str), ("_law_draw" : Str), ("_law_any" : Str), ("_law_refusal" : Str), ("_law_said" : Str), ("_law_words" : Str), ("_law_line_of" : Str), ("_law_text_of" : Str), ("_law_loose" : Str), ("_law_is_number" : Str), ("_law_step_in" : Str), ("_law_steps_in" : Str)]
def looseL2 : List Str := [("_law_strange" : Str), ("_law_bent" : Str), ("_law_is_right" : Str)]
def looseL : List Str := looseL0 ++ looseL1 ++ looseL2
abbrev SaysL (w : World) (h : Heap) (K : PySem.W.Frag) : Prop := SaysE faL fnL tfL dtL xsL subL sutL "PipeError" trL w h K
theorem facts_of {w : World} {K : PySem.W.Frag} {h : Heap} {mg : Str → Option Value} (X : K.In h) (G : h.Ns mainGlobals mg) (c : SaysL w h K) : Facts K mg (xcL K xsL ((tabsK K tfL).zip qsL)) :=
  ⟨excE X G c ((tabsK K tfL).zip qsL) 0 rfl 27 rfl 27 rfl,
   excE X G c ((tabsK K tfL).zip qsL) 1 rfl 28 rfl 28 rfl,
   excE X G c ((tabsK K tfL).zip qsL) 2 rfl 29 rfl 29 rfl,
   excE X G c ((tabsK K tfL).zip qsL) 3 rfl 30 rfl 30 rfl,
   xcOk_of c.ex.2.1,
   isE X G c ((tabsK K tfL).zip qsL) 0 rfl 32 rfl,
   isE X G c ((tabsK K tfL).zip qsL) 1 rfl 27 rfl,
   isE X G c ((tabsK K tfL).zip qsL) 2 rfl 31 rfl,
   isE X G c ((tabsK K tfL).zip qsL) 3 rfl 29 rfl,
   isE X G c ((tabsK K tfL).zip qsL) 4 rfl 30 rfl,
   isE X G c ((tabsK K tfL).zip qsL) 5 rfl 28 rfl,
   isE X G c ((tabsK K tfL).zip qsL) 6 rfl 33 rfl,
   isE X G c ((tabsK K tfL).zip qsL) 7 rfl 35 rfl,
   isE X G c ((tabsK K tfL).zip qsL) 8 rfl 36 rfl,
   isT X G c ((tabsK K tfL).zip qsL) 0 rfl 37 rfl PyProof.Rows.Boot.«ValueError»,
   ⟨gloE X G c 34 rfl, exmB_ok c.ex.2.2.2.2.1⟩,
   defE X G c 0 rfl 0 rfl,
   defE X G c 1 rfl 1 rfl,
   defE X G c 2 rfl 2 rfl,
   defE X G c 3 rfl 3 rfl,
   defE X G c 4 rfl 4 rfl,
   defE X G c 5 rfl 5 rfl,
   defE X G c 6 rfl 6 rfl,
   defE X G c 7 rfl 7 rfl,
   defE X G c 8 rfl 8 rfl,
   defE X G c 9 rfl 9 rfl,
   defE X G c 10 rfl 10 rfl,
   defE X G c 11 rfl 11 rfl,
   defE X G c 12 rfl 12 rfl,
   defE X G c 13 rfl 13 rfl,
   defE X G c 14 rfl 14 rfl,
   defE X G c 15 rfl 15 rfl,
   defE X G c 16 rfl 16 rfl,
   defE X G c 17 rfl 17 rfl,
   defE X G c 18 rfl 18 rfl,
   defE X G c 19 rfl 19 rfl,
   defE X G c 20 rfl 20 rfl,
   defE X G c 21 rfl 21 rfl,
   defE X G c 22 rfl 22 rfl,
   defE X G c 23 rfl 23 rfl,
   defE X G c 24 rfl 24 rfl,
   defE X G c 25 rfl 25 rfl,
   defE X G c 26 rfl 26 rfl,
   freeE X G c 37 rfl,
   freeE X G c 38 rfl,
   freeE X G c 39 rfl,
   freeE X G c 40 rfl,
   freeE X G c 41 rfl,
   freeE X G c 42 rfl,
   freeE X G c 43 rfl,
   freeE X G c 44 rfl,
   freeE X G c 45 rfl,
   freeE X G c 46 rfl,
   freeE X G c 47 rfl,
   dataE X G c 0 rfl,
   dataE X G c 1 rfl,
   dataE X G c 2 rfl,
   dataE X G c 3 rfl,
   dataE X G c 4 rfl,
   dataE X G c 5 rfl,
   dataE X G c 6 rfl⟩
theorem tbf_of {w : World} {K : PySem.W.Frag} {h base : Heap} {mg : Str → Option Value} (c : SaysL w h K) (TB : ∀ p ∈ tfL.map (fun p => He.cT K p), LamX.TabB base mg p.1 p.2) : TbF K mg base (xcL K xsL ((tabsK K tfL).zip qsL)) :=
  ⟨tbAt_of 0 c.ex.2.2.2.2.2.1 rfl rfl TB⟩
abbrev RR : PySem.W.OpenRow := PySem.W.OpenLaw.row PySem.Challenge.rw_keptends_k26_whole_texts_read
abbrev exL : PySem.W.Frag → Bool := exAll dtL xsL subL sutL "PipeError" tfL trL
abbrev hkM : PySem.W.Hook := hookN 640 faL fnL [] tfL exL
def obL (s : PySem.W.SharedT) : He.AlX := obsN 640 faL fnL [] tfL exL (HandSHeadRun.getT s)
theorem obL_eq (s : PySem.W.SharedT) : obL s = hkM.obs s.abs := obsN_eq (HandSHeadRun.getT_eq s)
theorem runL (w : World) : HandSHeadRun.RunEq RR (PySem.W.view RR.prog [49]) hkM obL 12000 looseL w := by
  intro os
  kernel_rfl

end Mir

set_option Elab.async false
set_option linter.all false
set_option maxRecDepth 100000
set_option maxHeartbeats 4000000
namespace Mir
open PySem PySem.Spec PyProof.Rows L2
/-! ### mathematics of mirrors: operators on numbers -/
theorem gGt_int (a b : Int) : gGt [.int a, .int b] = some (.bool (decide (b < a))) := by
  simp [gGt, ltOk, eqOk, PySem.W.alike, PyData.depth, PyData.plain, PySem.W.dataLt_int]
theorem gLt_int (a b : Int) : gLt [.int a, .int b] = some (.bool (decide (a < b))) := by
  simp [gLt, ltOk, eqOk, PySem.W.alike, PyData.depth, PyData.plain, PySem.W.dataLt_int]
theorem gGe_int (a b : Int) : gGe [.int a, .int b] = some (.bool (decide (b ≤ a))) := by
  have e : (!decide (a < b)) = decide (b ≤ a) := by by_cases h : a < b <;> simp [h] <;> omega
  simp only [gGe, ltOk, eqOk, PySem.W.alike, PyData.depth, PyData.plain, PySem.W.dataLt_int, e]; rfl
theorem gLe_int (a b : Int) : gLe [.int a, .int b] = some (.bool (decide (a ≤ b))) := by
  have e : (!decide (b < a)) = decide (a ≤ b) := by by_cases h : b < a <;> simp [h] <;> omega
  simp only [gLe, ltOk, eqOk, PySem.W.alike, PyData.depth, PyData.plain, PySem.W.dataLt_int, e]; rfl
theorem gEq_int (a b : Int) : gEq [.int a, .int b] = some (.bool (decide (a = b))) := by
  have e : (a == b) = decide (a = b) := by by_cases h : a = b <;> simp [h]
  simp [gEq, eqOk, PyData.depth, PyData.plain, PyData.eqv, e]
theorem gMod_pos {a b : Int} (h : 0 < b) : gMod [.int a, .int b] = some (.int (a % b)) := by simp [gMod, h]
theorem gFDiv_pos {a b : Int} (h : 0 < b) (h2 : b < 1073741824) : gFDiv [.int a, .int b] = some (.int (a / b)) := by simp [gFDiv, h, h2]
theorem gAdd_int (a b : Int) : gAdd [.int a, .int b] = some (.int (a + b)) := rfl
theorem gInt_int (a : Int) : gInt [.int a] = some (.int a) := rfl
theorem gMul_l {a b : Int} (h : -(2 ^ 64) < a) (h2 : a < 2 ^ 64) : gMul [.int a, .int b] = some (.int (a * b)) := by
  have e : mulOk a b = true := by unfold mulOk; rw [decide_eq_true h, decide_eq_true h2]; rfl
  simp [gMul, e]
theorem atI_in {α : Type} {xs : List α} {i : Int} (h0 : 0 ≤ i) (h1 : i < xs.length) : ∃ x, atI xs i = some x ∧ x ∈ xs := by
  unfold atI ixN
  rw [if_pos h0, if_pos h1]
  have : i.toNat < xs.length := by omega
  exact ⟨xs[i.toNat], by simp [this], List.getElem_mem _⟩
theorem sSet_ok {i : Nat} {m : ME} {ρ : List Sl} {f f1 : FS} {d : D} (h : m ρ f = .ok d f1) : sSet i m ρ f = .nx (ρ.set i (.d d)) f1 := by unfold sSet; rw [h]; rfl
theorem sRet_ok {m : ME} {ρ : List Sl} {f f1 : FS} {d : D} (h : m ρ f = .ok d f1) : sRet m ρ f = .ret d f1 := by unfold sRet; rw [h]; rfl
theorem sSeq_nx {a b : MS} {ρ ρ1 : List Sl} {f f1 : FS} (h : a ρ f = .nx ρ1 f1) : sSeq a b ρ f = b ρ1 f1 := by unfold sSeq; rw [h]
theorem sSeq_ret {a b : MS} {ρ : List Sl} {f f1 : FS} {d : D} (h : a ρ f = .ret d f1) : sSeq a b ρ f = .ret d f1 := by unfold sSeq; rw [h]
theorem sIf_t {t : MB} {a b : MS} {ρ : List Sl} {f f1 : FS} (h : t ρ f = .ok true f1) : sIf t a b ρ f = a ρ f1 := by unfold sIf; rw [h]; rfl
theorem sIf_f {t : MB} {a b : MS} {ρ : List Sl} {f f1 : FS} (h : t ρ f = .ok false f1) : sIf t a b ρ f = b ρ f1 := by unfold sIf; rw [h]; rfl
theorem eBin_ok {g : List D → Option D} {a b : ME} {ρ : List Sl} {f f1 f2 : FS} {x y d : D} (h1 : a ρ f = .ok x f1) (h2 : b ρ f1 = .ok y f2) (h3 : g [x, y] = some d) : eBin g a b ρ f = .ok d f2 := by unfold eBin; rw [h1]; dsimp only [R.bind_ok]; rw [h2]; dsimp only [R.bind_ok]; rw [h3]; rfl
theorem eUn_ok {g : List D → Option D} {a : ME} {ρ : List Sl} {f f1 : FS} {x d : D} (h1 : a ρ f = .ok x f1) (h3 : g [x] = some d) : eUn g a ρ f = .ok d f1 := by unfold eUn; rw [h1]; dsimp only [R.bind_ok]; rw [h3]; rfl
theorem eList_ok {g : List D → Option D} {a : MA} {ρ : List Sl} {f f1 : FS} {xs : List D} {d : D} (h1 : a ρ f = .ok xs f1) (h3 : g xs = some d) : eList g a ρ f = .ok d f1 := by unfold eList; rw [h1]; dsimp only [R.bind_ok]; rw [h3]; rfl
theorem aCons_ok {m : ME} {ms : MA} {ρ : List Sl} {f f1 f2 : FS} {d : D} {ds : List D} (h1 : m ρ f = .ok d f1) (h2 : ms ρ f1 = .ok ds f2) : aCons m ms ρ f = .ok (d :: ds) f2 := by unfold aCons; rw [h1]; dsimp only [R.bind_ok]; rw [h2]; rfl
theorem tB_ok {m : ME} {ρ : List Sl} {f f1 : FS} {b : Bool} (h : m ρ f = .ok (.bool b) f1) : tB m ρ f = .ok b f1 := by unfold tB; rw [h]; rfl
theorem tT_ok {m : ME} {ρ : List Sl} {f f1 : FS} {d : D} {b : Bool} (h : m ρ f = .ok d f1) (h2 : truthD d = some b) : tT m ρ f = .ok b f1 := by unfold tT; rw [h]; dsimp only [R.bind_ok]; rw [h2]; rfl
theorem eTup_ok {ms : MA} {ρ : List Sl} {f f1 : FS} {ds : List D} (h : ms ρ f = .ok ds f1) (hl : ds.length ≤ lim) : eTup ms ρ f = .ok (.tuple ds) f1 := by unfold eTup; rw [h]; dsimp only [R.bind_ok]; rw [if_pos hl]
theorem eLst_ok {ms : MA} {ρ : List Sl} {f f1 : FS} {ds : List D} (h : ms ρ f = .ok ds f1) (hl : ds.length ≤ lim) : eLst ms ρ f = .ok (.list ds) f1 := by unfold eLst; rw [h]; dsimp only [R.bind_ok]; rw [if_pos hl]
theorem eIf_t {t : MB} {a b : ME} {ρ : List Sl} {f f1 : FS} (h : t ρ f = .ok true f1) : eIf t a b ρ f = a ρ f1 := by unfold eIf; rw [h]; rfl
theorem eIf_f {t : MB} {a b : ME} {ρ : List Sl} {f f1 : FS} (h : t ρ f = .ok false f1) : eIf t a b ρ f = b ρ f1 := by unfold eIf; rw [h]; rfl
theorem bAnd_t {a b : MB} {ρ : List Sl} {f f1 : FS} (h : a ρ f = .ok true f1) : bAnd a b ρ f = b ρ f1 := by unfold bAnd; rw [h]; rfl
theorem bAnd_f {a b : MB} {ρ : List Sl} {f f1 : FS} (h : a ρ f = .ok false f1) : bAnd a b ρ f = .ok false f1 := by unfold bAnd; rw [h]; rfl
theorem bOr_t {a b : MB} {ρ : List Sl} {f f1 : FS} (h : a ρ f = .ok true f1) : bOr a b ρ f = .ok true f1 := by unfold bOr; rw [h]; rfl
theorem bOr_f {a b : MB} {ρ : List Sl} {f f1 : FS} (h : a ρ f = .ok false f1) : bOr a b ρ f = b ρ f1 := by unfold bOr; rw [h]; rfl
theorem bNot_ok {a : MB} {ρ : List Sl} {f f1 : FS} {b : Bool} (h : a ρ f = .ok b f1) : bNot a ρ f = .ok (!b) f1 := by unfold bNot; rw [h]; rfl
theorem eAnd_t {a b : ME} {ρ : List Sl} {f f1 : FS} (h : a ρ f = .ok (.bool true) f1) : eAnd a b ρ f = b ρ f1 := by unfold eAnd; rw [h]; rfl
theorem eAnd_f {a b : ME} {ρ : List Sl} {f f1 : FS} (h : a ρ f = .ok (.bool false) f1) : eAnd a b ρ f = .ok (.bool false) f1 := by unfold eAnd; rw [h]; rfl
/-- and of two bools, the second asked only behind a True -/
theorem eAnd_ok {a b : ME} {ρ : List Sl} {f f1 : FS} {x y : Bool} (h : a ρ f = .ok (.bool x) f1) (h2 : x = true → b ρ f1 = .ok (.bool y) f1) : eAnd a b ρ f = .ok (.bool (x && y)) f1 := by
  cases x with
  | true => rw [eAnd_t h, h2 rfl]; rfl
  | false => rw [eAnd_f h]; rfl
theorem bAnd_ok {a b : MB} {ρ : List Sl} {f f1 : FS} {x y : Bool} (h : a ρ f = .ok x f1) (h2 : x = true → b ρ f1 = .ok y f1) : bAnd a b ρ f = .ok (x && y) f1 := by
  cases x with
  | true => rw [bAnd_t h, h2 rfl]; rfl
  | false => rw [bAnd_f h]; rfl
theorem bOr_ok {a b : MB} {ρ : List Sl} {f f1 : FS} {x y : Bool} (h : a ρ f = .ok x f1) (h2 : x = false → b ρ f1 = .ok y f1) : bOr a b ρ f = .ok (x || y) f1 := by
  cases x with
  | true => rw [bOr_t h]; rfl
  | false => rw [bOr_f h, h2 rfl]; rfl
theorem eNot_ok {a : ME} {ρ : List Sl} {f f1 : FS} {x : Bool} (h : a ρ f = .ok (.bool x) f1) : eUn gNotB a ρ f = .ok (.bool (!x)) f1 := eUn_ok h rfl
/-- a call -/
theorem eCall_ff {mf : List D → FS → R D} {ms : MA} {ρ : List Sl} {f f1 f2 : FS} {ds : List D} {d : D} (h : ms ρ f = .ok ds f1) (h2 : mf ds f1 = .ok d f2) : eCall false mf ms ρ f = .ok d f1 := by unfold eCall; rw [h]; dsimp only [R.bind_ok]; rw [h2]; rfl
theorem eCall_fd {mf : List D → FS → R D} {ms : MA} {ρ : List Sl} {f f1 f2 : FS} {ds : List D} {d : D} (h : ms ρ f = .ok ds f1) (h2 : mf ds f1 = .ok d f2) : eCall true mf ms ρ f = .ok d f2 := by unfold eCall; rw [h]; dsimp only [R.bind_ok]; rw [h2]; rfl
theorem aFd_ok {i : Nat} {ms : MA} {ρ : List Sl} {f : FS} (h : ρ[i]? = some .fd) : aFd i ms ρ f = ms ρ f := by unfold aFd; rw [h]
theorem mfun_ret {n np : Nat} {ff : Bool} {m : MS} {ds : List D} {f f1 : FS} {d : D} (hl : ds.length = np) (h : m (entry n ff ds) f = .ret d f1) : mfun n np ff m ds f = .ok d f1 := by unfold mfun; rw [if_pos hl, h]; rfl
/-! ### comprehensions -/
theorem comp_map {i : Nat} {me : ME} {ρ : List Sl} {f : FS} {g : D → D} : ∀ (ds acc : List D), (∀ d ∈ ds, me (ρ.set i (.d d)) f = .ok (g d) f) → compLoop (gmName i) bYes me ds ρ f acc = .ok (acc ++ ds.map g) f
  | [], acc, _ => by rw [List.map_nil, List.append_nil]; rfl
  | d :: ds, acc, h => by
    have ih := comp_map ds (acc ++ [g d]) (fun d' hd => h d' (List.mem_cons_of_mem _ hd))
    unfold compLoop
    simp only [gmName, bYes, noX, R.bind_ok, if_true, h d List.mem_cons_self]
    rw [ih, List.map_cons, List.append_assoc]
    rfl
theorem comp_filter {i : Nat} {mt : MB} {ρ : List Sl} {f : FS} {p : D → Bool} (hi : i < ρ.length) : ∀ (ds acc : List D), (∀ d ∈ ds, mt (ρ.set i (.d d)) f = .ok (p d) f) → compLoop (gmName i) mt (eVar i) ds ρ f acc = .ok (acc ++ ds.filter p) f
  | [], acc, _ => by rw [List.filter_nil, List.append_nil]; rfl
  | d :: ds, acc, h => by
    have hv : eVar i (ρ.set i (.d d)) f = .ok d f := by unfold eVar; rw [List.getElem?_set_self hi]
    have ih := fun acc => comp_filter hi ds acc (fun d' hd => h d' (List.mem_cons_of_mem _ hd))
    unfold compLoop
    simp only [gmName, noX, h d List.mem_cons_self, R.bind_ok, hv]
    cases e : p d with
    | true => rw [if_pos rfl, ih, List.filter_cons_of_pos e, List.append_assoc]; rfl
    | false => rw [if_neg (by simp), ih, List.filter_cons_of_neg (by simp [e])]
/-- what is made satisfies P; F: what stays of the feed -/
theorem comp_wp {i : Nat} {me : ME} {ρ : List Sl} {P : D → Prop} {F : FS → Prop} : ∀ (ds acc : List D) (f : FS), F f → (∀ d ∈ ds, ∀ f, F f → ∃ y f', me (ρ.set i (.d d)) f = .ok y f' ∧ P y ∧ F f') →
    ∃ ys f', compLoop (gmName i) bYes me ds ρ f acc = .ok (acc ++ ys) f' ∧ ys.length = ds.length ∧ (∀ y ∈ ys, P y) ∧ F f'
  | [], acc, f, hf, _ => ⟨[], f, by rw [List.append_nil]; rfl, rfl, fun y hy => (nomatch hy), hf⟩
  | d :: ds, acc, f, hf, h => by
    obtain ⟨y, f1, e, hp, hf1⟩ := h d List.mem_cons_self f hf
    obtain ⟨ys, f2, e2, hl, hps, hf2⟩ := comp_wp ds (acc ++ [y]) f1 hf1 fun d' hd => h d' (List.mem_cons_of_mem _ hd)
    refine ⟨y :: ys, f2, ?_, by rw [List.length_cons, hl, List.length_cons], fun z hz => ?_, hf2⟩
    · unfold compLoop
      simp only [gmName, bYes, noX, R.bind_ok, if_true, e]
      rw [e2, List.append_assoc]
      rfl
    · rcases List.mem_cons.mp hz with rfl | hz
      · exact hp
      · exact hps z hz
theorem comp_sub {i : Nat} {mt : MB} {ρ : List Sl} {F : FS → Prop} (hi : i < ρ.length) : ∀ (ds acc : List D) (f : FS), F f → (∀ d ∈ ds, ∀ f, F f → ∃ b f', mt (ρ.set i (.d d)) f = .ok b f' ∧ F f') →
    ∃ ys f', compLoop (gmName i) mt (eVar i) ds ρ f acc = .ok (acc ++ ys) f' ∧ ys.Sublist ds ∧ F f'
  | [], acc, f, hf, _ => ⟨[], f, by rw [List.append_nil]; rfl, .slnil, hf⟩
  | d :: ds, acc, f, hf, h => by
    have hv : ∀ f, eVar i (ρ.set i (.d d)) f = .ok d f := fun f => by unfold eVar; rw [List.getElem?_set_self hi]
    obtain ⟨b, f1, e, hf1⟩ := h d List.mem_cons_self f hf
    have h' := fun d' hd => h d' (List.mem_cons_of_mem d hd)
    cases b with
    | true =>
      obtain ⟨ys, f2, e2, hs, hf2⟩ := comp_sub hi ds (acc ++ [d]) f1 hf1 h'
      refine ⟨d :: ys, f2, ?_, hs.cons₂ d, hf2⟩
      unfold compLoop
      simp only [gmName, noX, R.bind_ok, e, hv, if_true]
      rw [e2, List.append_assoc]
      rfl
    | false =>
      obtain ⟨ys, f2, e2, hs, hf2⟩ := comp_sub hi ds acc f1 hf1 h'
      refine ⟨ys, f2, ?_, hs.cons d, hf2⟩
      unfold compLoop
      simp only [gmName, noX, R.bind_ok, e]
      rw [if_neg (by simp), e2]
theorem eComp_ok {vs : List Nat} {mi : MA} {mg : MG} {mt : MB} {me : ME} {ρ : List Sl} {f f1 f2 : FS} {ds ys : List D} (h : mi ρ f = .ok ds f1) (hl : ds.length ≤ lim) (hw : okW ρ vs = true) (h2 : compLoop mg mt me ds (wipeR ρ vs) f1 [] = .ok ys f2) :
    eComp vs mi mg mt me ρ f = .ok (.list ys) f2 := by
  unfold eComp
  rw [h]
  dsimp only [R.bind_ok]
  rw [decide_eq_true hl, hw, Bool.and_self, if_pos rfl, h2]
  rfl
theorem iSeq_ok {m : ME} {ρ : List Sl} {f f1 : FS} {d : D} {ds : List D} (h : m ρ f = .ok d f1) (h2 : itemsD d = some ds) : iSeq m ρ f = .ok ds f1 := by unfold iSeq; rw [h]; dsimp only [R.bind_ok]; rw [h2]; rfl
theorem bools_map {α : Type} (xs : List α) (p : α → Bool) : bools (xs.map fun x => .bool (p x)) = some (xs.map p) := by
  induction xs with
  | nil => rfl
  | cons x xs ih => rw [List.map_cons, List.map_cons]; show (bools _).map _ = _; rw [ih]; rfl
theorem gAll_map {α : Type} (xs : List α) (p : α → Bool) : gAll [.list (xs.map fun x => .bool (p x))] = some (.bool (xs.all p)) := by
  show (bools _).map _ = _
  rw [bools_map, Option.map_some, List.all_map]
  rfl
/-- a loop whose turns all fall through -/
theorem for_nx {mg : MG} {body : MS} {F : FS → Prop} {I : List Sl → Prop} : ∀ (ds : List D) (ρ : List Sl) (f : FS), I ρ → F f → (∀ d ∈ ds, ∀ ρ f, I ρ → F f → ∃ ρ1 ρ2 f2, mg d ρ = some ρ1 ∧ body ρ1 f = .nx ρ2 f2 ∧ I ρ2 ∧ F f2) →
    ∃ ρ' f', forLoop mg body ds ρ f = .nx ρ' f' ∧ I ρ' ∧ F f'
  | [], ρ, f, hi, hf, _ => ⟨ρ, f, rfl, hi, hf⟩
  | d :: ds, ρ, f, hi, hf, h => by
    obtain ⟨ρ1, ρ2, f2, e1, e2, hi2, hf2⟩ := h d List.mem_cons_self ρ f hi hf
    obtain ⟨ρ', f', e, q⟩ := for_nx ds ρ2 f2 hi2 hf2 fun d' hd => h d' (List.mem_cons_of_mem _ hd)
    refine ⟨ρ', f', ?_, q⟩
    unfold forLoop
    simp only [e1, e2]
    exact e
theorem plain_ints (cs : List Int) : PyData.plainAll (cs.map .int) = true := by
  induction cs with
  | nil => simp [PyData.plainAll]
  | cons w ws ih => rw [List.map_cons]; simp [PyData.plainAll, PyData.plain, ih]
/-- a value without a dict -/
theorem eqOk_nil {xs : List D} (hp : PyData.plainAll xs = true) : eqOk (.list xs) (.list []) = true := by
  unfold eqOk
  have : (PyData.list ([] : List D)).depth ≤ 64 := by simp [PyData.depth, PyData.depthAll]
  rw [decide_eq_true (Nat.le_trans (Nat.min_le_right _ _) this)]
  simp [PyData.plain, hp, PyData.plainAll]
theorem gNe_nil (x : D) (xs : List D) (hp : PyData.plainAll (x :: xs) = true := by first | assumption | exact plain_ints _ | exact small_plain _ (by assumption) | exact smalls_plain _ (by assumption) | exact sm1 (by assumption) | exact sm2 (by assumption) | exact sm3 (by assumption) | exact smT (by assumption) | exact smTl (by assumption) | exact pl_filter (smT (by assumption)) | exact pl_filter (pl_signs _) | exact pl_filter (pl_range _ _) | (simp [PyData.plain, PyData.plainAll]; done) | (simp [PyData.plain, PyData.plainAll]; assumption)) : gNe [.list (x :: xs), .list []] = some (.bool true) := by
  have e := eqOk_nil hp
  simp [gNe, e, PyData.eqv, PyData.eqvAll]
/-! ### a draw -/
def drawM (e0 a1 b1 p1 a2 b2 p2 a3 p3 q3 : Int) : MS := sSeq (sFdPut 0 3 (eBin gAdd (eFd 0 3) (eC (.int 1)))) (sSeq (sIf (tB (eBin gGt (eFd 0 2) (eC (.int 0)))) (sSeq (sSet 4 (eBin gMod (eList gInt (aCons (eFd 0 2) (aNil))) (eVar 1))) (sSeq (sFdPut 0 2 (eBin gFDiv (eFd 0 2) (eVar 1))) (sRet (eVar 4)))) (sSkip)) (sSeq (sPar 5 6 (aCons (eFd 0 1) (aCons (eFd 0 0) (aNil)))) (sSeq (sFdPut 0 1 (eBin gAdd (eVar 5) (eC (.int 1)))) (sSeq (sSet 2 (eIf (tB (eBin gNe (eVar 6) (eLst (aNil)))) (eBin gIx (eVar 6) (eBin gMod (eList gInt (aCons (eVar 5) (aNil))) (eList gLen (aCons (eVar 6) (aNil))))) (eC (.int e0)))) (sSeq (sIf (bAnd (tB (eBin gGe (eVar 2) (eBin gPow (eC (.int 10)) (eC (.int 18))))) (tB (eBin gLt (eVar 5) (eList gLen (aCons (eVar 6) (aNil)))))) (sSeq (sFdPut 0 2 (eBin gFDiv (eVar 2) (eVar 1))) (sRet (eBin gMod (eList gInt (aCons (eVar 2) (aNil))) (eVar 1)))) (sSkip)) (sSeq (sSet 3 (eBin gMod (eList gInt (aCons (eBin gAdd (eBin gAdd (eBin gMul (eBin gMod (eList gInt (aCons (eVar 2) (aNil))) (eC (.int 1000000007))) (eC (.int 3))) (eBin gMul (eC (.int a1)) (eFd 0 3))) (eC (.int b1))) (aNil))) (eC (.int p1)))) (sSeq (sSet 3 (eBin gMod (eList gInt (aCons (eBin gAdd (eBin gAdd (eBin gMul (eVar 3) (eVar 3)) (eBin gMul (eC (.int a2)) (eFd 0 3))) (eC (.int b2))) (aNil))) (eC (.int p2)))) (sRet (eBin gMod (eList gInt (aCons (eBin gFDiv (eBin gMod (eList gInt (aCons (eBin gAdd (eBin gMul (eVar 3) (eVar 3)) (eBin gMul (eC (.int a3)) (eVar 3))) (aNil))) (eC (.int p3))) (eC (.int q3))) (aNil))) (eVar 1))))))))))
/-- a constant that may multiply, one that may divide -/
def smallM (a : Int) : Prop := -(2 ^ 64) < a ∧ a < 2 ^ 64
theorem eFd_ok {ρ : List Sl} {f : FS} {i k : Nat} (h : ρ[i]? = some .fd) : eFd i k ρ f = .ok (fdGet f k) f := by unfold eFd; rw [h]
theorem eVar_ok {ρ : List Sl} {f : FS} {i : Nat} {d : D} (h : ρ[i]? = some (.d d)) : eVar i ρ f = .ok d f := by unfold eVar; rw [h]
theorem sFdPut_ok {ρ : List Sl} {f f1 f2 : FS} {i k : Nat} {n : Int} {m : ME} (h : m ρ f = .ok (.int n) f1) (hi : ρ[i]? = some .fd) (hp : fdPut f1 k n = some f2) : sFdPut i k m ρ f = .nx ρ f2 := by simp only [sFdPut, h, sBind, hi, hp]
theorem sPar_ok {ρ : List Sl} {f f1 : FS} {i j : Nat} {ms : MA} {d e : D} (h : ms ρ f = .ok [d, e] f1) : sPar i j ms ρ f = .nx ((ρ.set i (.d d)).set j (.d e)) f1 := by unfold sPar; rw [h]; rfl
/-- what a feed keeps -/
def FOk (f : FS) : Prop := f.cells.length ≤ 63
theorem t_draw {e0 a1 b1 p1 a2 b2 p2 a3 p3 q3 : Int} (h1 : smallM a1) (h2 : smallM a2) (h3 : smallM a3) (hp1 : 0 < p1 ∧ p1 < 2 ^ 64) (hp2 : 0 < p2 ∧ p2 < 2 ^ 64) (hp3 : 0 < p3) (hq : 0 < q3 ∧ q3 < 1073741824) (f : FS) (hf : FOk f) (m : Int) (m1 : 1 ≤ m) (m2 : m < 1073741824) :
    ∃ r f', mfun 7 1 true (drawM e0 a1 b1 p1 a2 b2 p2 a3 p3 q3) [.int m] f = .ok (.int r) f' ∧ 0 ≤ r ∧ r < m ∧ FOk f' := by
  obtain ⟨cells, next, left, drawn⟩ := f
  have hm : (0 : Int) < m := by omega
  have e1 : sFdPut 0 3 (eBin gAdd (eFd 0 3) (eC (.int 1))) [.fd, .d (.int m), .no, .no, .no, .no, .no] ⟨cells, next, left, drawn⟩ = .nx [.fd, .d (.int m), .no, .no, .no, .no, .no] ⟨cells, next, left, drawn + 1⟩ := rfl
  have red : ∀ r f', drawM e0 a1 b1 p1 a2 b2 p2 a3 p3 q3 [.fd, .d (.int m), .no, .no, .no, .no, .no] ⟨cells, next, left, drawn⟩ = .ret (.int r) f' → 0 ≤ r ∧ r < m ∧ FOk f' → ∃ r f', mfun 7 1 true (drawM e0 a1 b1 p1 a2 b2 p2 a3 p3 q3) [.int m] ⟨cells, next, left, drawn⟩ = .ok (.int r) f' ∧ 0 ≤ r ∧ r < m ∧ FOk f' := fun r f' e q => ⟨r, f', mfun_ret rfl e, q⟩
  by_cases hl : 0 < left
  · refine red (left % m) ⟨cells, next, left / m, drawn + 1⟩ ?_ ⟨Int.emod_nonneg _ (by omega), Int.emod_lt_of_pos _ hm, hf⟩
    unfold drawM
    rw [sSeq_nx e1]
    have t1 : tB (eBin gGt (eFd 0 2) (eC (.int 0))) [.fd, .d (.int m), .no, .no, .no, .no, .no] ⟨cells, next, left, drawn + 1⟩ = .ok true ⟨cells, next, left, drawn + 1⟩ := tB_ok (eBin_ok rfl rfl (by rw [show fdGet ⟨cells, next, left, drawn + 1⟩ 2 = .int left from rfl, gGt_int, decide_eq_true hl]))
    refine sSeq_ret ?_
    rw [sIf_t t1]
    rw [sSeq_nx (sSet_ok (eBin_ok (eList_ok (aCons_ok rfl rfl) (gInt_int left)) rfl (gMod_pos hm)))]
    rw [sSeq_nx (sFdPut_ok (eBin_ok rfl rfl (gFDiv_pos hm m2)) rfl rfl)]
    rfl
  · have t1 : tB (eBin gGt (eFd 0 2) (eC (.int 0))) [.fd, .d (.int m), .no, .no, .no, .no, .no] ⟨cells, next, left, drawn + 1⟩ = .ok false ⟨cells, next, left, drawn + 1⟩ := tB_ok (eBin_ok rfl rfl (by rw [show fdGet ⟨cells, next, left, drawn + 1⟩ 2 = .int left from rfl, gGt_int, decide_eq_false hl]))
    -- the cell
    have hc : ∃ c : Int, eIf (tB (eBin gNe (eVar 6) (eLst (aNil)))) (eBin gIx (eVar 6) (eBin gMod (eList gInt (aCons (eVar 5) (aNil))) (eList gLen (aCons (eVar 6) (aNil))))) (eC (.int e0)) [.fd, .d (.int m), .no, .no, .no, .d (.int next), .d (.list (cells.map .int))] ⟨cells, next + 1, left, drawn + 1⟩ = .ok (.int c) ⟨cells, next + 1, left, drawn + 1⟩ := by
      cases hcs : cells with
      | nil => exact ⟨e0, rfl⟩
      | cons c cs =>
        have hlen : (0 : Int) < ((c :: cs).map PyData.int).length := by rw [List.length_map, List.length_cons]; omega
        obtain ⟨x, ex, hx⟩ := atI_in (xs := (c :: cs).map PyData.int) (i := next % ((c :: cs).map PyData.int).length) (Int.emod_nonneg _ (by omega)) (Int.emod_lt_of_pos _ hlen)
        obtain ⟨y, _, rfl⟩ := List.mem_map.mp hx
        refine ⟨y, ?_⟩
        rw [eIf_t (tB_ok (eBin_ok rfl (eLst_ok rfl (Nat.zero_le _)) (gNe_nil _ _ (plain_ints (c :: cs)))))]
        exact eBin_ok rfl (eBin_ok (eList_ok (aCons_ok rfl rfl) (gInt_int next)) (eList_ok (aCons_ok rfl rfl) rfl) (gMod_pos hlen)) ex
    obtain ⟨c, hc⟩ := hc
    have start : drawM e0 a1 b1 p1 a2 b2 p2 a3 p3 q3 [.fd, .d (.int m), .no, .no, .no, .no, .no] ⟨cells, next, left, drawn⟩ = (sSeq (sIf (bAnd (tB (eBin gGe (eVar 2) (eBin gPow (eC (.int 10)) (eC (.int 18))))) (tB (eBin gLt (eVar 5) (eList gLen (aCons (eVar 6) (aNil)))))) (sSeq (sFdPut 0 2 (eBin gFDiv (eVar 2) (eVar 1))) (sRet (eBin gMod (eList gInt (aCons (eVar 2) (aNil))) (eVar 1)))) (sSkip)) (sSeq (sSet 3 (eBin gMod (eList gInt (aCons (eBin gAdd (eBin gAdd (eBin gMul (eBin gMod (eList gInt (aCons (eVar 2) (aNil))) (eC (.int 1000000007))) (eC (.int 3))) (eBin gMul (eC (.int a1)) (eFd 0 3))) (eC (.int b1))) (aNil))) (eC (.int p1)))) (sSeq (sSet 3 (eBin gMod (eList gInt (aCons (eBin gAdd (eBin gAdd (eBin gMul (eVar 3) (eVar 3)) (eBin gMul (eC (.int a2)) (eFd 0 3))) (eC (.int b2))) (aNil))) (eC (.int p2)))) (sRet (eBin gMod (eList gInt (aCons (eBin gFDiv (eBin gMod (eList gInt (aCons (eBin gAdd (eBin gMul (eVar 3) (eVar 3)) (eBin gMul (eC (.int a3)) (eVar 3))) (aNil))) (eC (.int p3))) (eC (.int q3))) (aNil))) (eVar 1))))))
        [.fd, .d (.int m), .d (.int c), .no, .no, .d (.int next), .d (.list (cells.map .int))] ⟨cells, next + 1, left, drawn + 1⟩ := by
      unfold drawM
      rw [sSeq_nx e1, sSeq_nx (a := sIf _ _ _) (by rw [sIf_f t1]; rfl), sSeq_nx (a := sPar 5 6 _) (sPar_ok rfl), sSeq_nx (a := sFdPut 0 1 _) (sFdPut_ok (eBin_ok rfl rfl (gAdd_int next 1)) rfl rfl)]
      exact sSeq_nx (sSet_ok hc)
    have g1 : tB (eBin gGe (eVar 2) (eBin gPow (eC (.int 10)) (eC (.int 18)))) [.fd, .d (.int m), .d (.int c), .no, .no, .d (.int next), .d (.list (cells.map .int))] ⟨cells, next + 1, left, drawn + 1⟩ = .ok (decide (10 ^ 18 ≤ c)) ⟨cells, next + 1, left, drawn + 1⟩ :=
      tB_ok (eBin_ok rfl (eBin_ok rfl rfl (d := .int (10 ^ 18)) (by rfl)) (gGe_int _ _))
    have g2 : tB (eBin gLt (eVar 5) (eList gLen (aCons (eVar 6) (aNil)))) [.fd, .d (.int m), .d (.int c), .no, .no, .d (.int next), .d (.list (cells.map .int))] ⟨cells, next + 1, left, drawn + 1⟩ = .ok (decide (next < ((cells.map PyData.int).length : Nat))) ⟨cells, next + 1, left, drawn + 1⟩ :=
      tB_ok (eBin_ok rfl (eList_ok (aCons_ok rfl rfl) rfl) (gLt_int _ _))
    have g := bAnd_ok g1 fun _ => g2
    by_cases hg : (decide (10 ^ 18 ≤ c) && decide (next < ((cells.map PyData.int).length : Nat))) = true
    · rw [hg] at g
      refine red (c % m) ⟨cells, next + 1, c / m, drawn + 1⟩ ?_ ⟨Int.emod_nonneg _ (by omega), Int.emod_lt_of_pos _ hm, hf⟩
      rw [start]
      refine sSeq_ret ?_
      rw [sIf_t g, sSeq_nx (sFdPut_ok (eBin_ok rfl rfl (gFDiv_pos hm m2)) rfl rfl)]
      exact sRet_ok (eBin_ok (eList_ok (aCons_ok rfl rfl) (gInt_int c)) rfl (gMod_pos hm))
    · rw [Bool.not_eq_true] at hg
      rw [hg] at g
      have q1 : (0 : Int) < 1000000007 := by decide
      have c1 := Int.emod_nonneg c (show (1000000007 : Int) ≠ 0 by decide)
      have c2 := Int.emod_lt_of_pos c q1
      generalize hx1 : (c % 1000000007 * 3 + a1 * (drawn + 1) + b1) % p1 = x1
      have x1a : 0 ≤ x1 := by rw [← hx1]; exact Int.emod_nonneg _ (by omega)
      have x1b : x1 < 2 ^ 64 := by rw [← hx1]; exact Int.lt_trans (Int.emod_lt_of_pos _ hp1.1) hp1.2
      generalize hx2 : (x1 * x1 + a2 * (drawn + 1) + b2) % p2 = x2
      have x2a : 0 ≤ x2 := by rw [← hx2]; exact Int.emod_nonneg _ (by omega)
      have x2b : x2 < 2 ^ 64 := by rw [← hx2]; exact Int.lt_trans (Int.emod_lt_of_pos _ hp2.1) hp2.2
      refine red ((x2 * x2 + a3 * x2) % p3 / q3 % m) ⟨cells, next + 1, left, drawn + 1⟩ ?_ ⟨Int.emod_nonneg _ (by omega), Int.emod_lt_of_pos _ hm, hf⟩
      rw [start, sSeq_nx (a := sIf _ _ _) (by rw [sIf_f g]; rfl)]
      have m1 : eBin gMod (eList gInt (aCons (eBin gAdd (eBin gAdd (eBin gMul (eBin gMod (eList gInt (aCons (eVar 2) (aNil))) (eC (.int 1000000007))) (eC (.int 3))) (eBin gMul (eC (.int a1)) (eFd 0 3))) (eC (.int b1))) (aNil))) (eC (.int p1)) [.fd, .d (.int m), .d (.int c), .no, .no, .d (.int next), .d (.list (cells.map .int))] ⟨cells, next + 1, left, drawn + 1⟩ = .ok (.int x1) ⟨cells, next + 1, left, drawn + 1⟩ := by
        rw [← hx1]
        exact eBin_ok (eList_ok (aCons_ok (eBin_ok (eBin_ok (eBin_ok (eBin_ok (eList_ok (aCons_ok rfl rfl) (gInt_int c)) rfl (gMod_pos q1)) rfl (gMul_l (by omega) (by omega))) (eBin_ok rfl rfl (gMul_l h1.1 h1.2)) (gAdd_int _ _)) rfl (gAdd_int _ _)) rfl) (gInt_int _)) rfl (gMod_pos hp1.1)
      rw [sSeq_nx (a := sSet 3 _) (sSet_ok m1)]
      have m2 : eBin gMod (eList gInt (aCons (eBin gAdd (eBin gAdd (eBin gMul (eVar 3) (eVar 3)) (eBin gMul (eC (.int a2)) (eFd 0 3))) (eC (.int b2))) (aNil))) (eC (.int p2)) [.fd, .d (.int m), .d (.int c), .d (.int x1), .no, .d (.int next), .d (.list (cells.map .int))] ⟨cells, next + 1, left, drawn + 1⟩ = .ok (.int x2) ⟨cells, next + 1, left, drawn + 1⟩ := by
        rw [← hx2]
        exact eBin_ok (eList_ok (aCons_ok (eBin_ok (eBin_ok (eBin_ok rfl rfl (gMul_l (by omega) (by omega))) (eBin_ok rfl rfl (gMul_l h2.1 h2.2)) (gAdd_int _ _)) rfl (gAdd_int _ _)) rfl) (gInt_int _)) rfl (gMod_pos hp2.1)
      refine (sSeq_nx (sSet_ok m2)).trans ?_
      exact sRet_ok (eBin_ok (eList_ok (aCons_ok (eBin_ok (eBin_ok (eList_ok (aCons_ok (eBin_ok (eBin_ok rfl rfl (gMul_l (by omega) (by omega))) (eBin_ok rfl rfl (gMul_l h3.1 h3.2)) (gAdd_int _ _)) rfl) (gInt_int _)) rfl (gMod_pos hp3)) rfl (gFDiv_pos hq.1 hq.2)) rfl) (gInt_int _)) rfl (gMod_pos hm))
end Mir

set_option Elab.async false
set_option linter.all false
set_option maxRecDepth 100000
set_option maxHeartbeats 4000000
namespace Mir
open PySem PySem.Spec PyProof.Rows L2
/-! ### how long a repr is -/
def plainC (c : Nat) : Bool := decide (c = 10) || (decide (32 ≤ c) && decide (c < 127))
def plainS (z : Str) : Bool := z.cps.toList.all plainC
mutual
/-- a bound of the text's length -/
def wt : D → Nat
  | .none => 4
  | .bool _ => 5
  | .int i => (PyData.int i).shown.length
  | .str z => 2 * z.length + 2
  | .list xs => wts xs + 4
  | .tuple xs => wts xs + 4
  | .dict _ => 0
def wts : List D → Nat
  | [] => 0
  | x :: xs => wt x + 2 + wts xs
end
mutual
/-- no dict, texts of plain signs, numbers of at most 1920 bits -/
def nice : D → Bool
  | .str z => plainS z
  | .int i => decide (i.natAbs.log2 < 1920)
  | .list xs => nices xs
  | .tuple xs => nices xs
  | .dict _ => false
  | _ => true
def nices : List D → Bool
  | [] => true
  | x :: xs => nice x && nices xs
end
mutual
theorem nice_showable : ∀ d : D, nice d = true → d.showable = true
  | .none, _ | .bool _, _ | .str _, _ => rfl
  | .int i, h => h
  | .list xs, h => nices_showable xs h
  | .tuple xs, h => nices_showable xs h
  | .dict _, h => Bool.noConfusion h
theorem nices_showable : ∀ xs : List D, nices xs = true → PyData.showableAll xs = true
  | [], _ => rfl
  | x :: xs, h => by
    unfold nices at h
    rw [Bool.and_eq_true] at h
    unfold PyData.showableAll
    rw [nice_showable x h.1, nices_showable xs h.2]
    rfl
end
open PySem.Builtin.Str in
theorem chars_short : ((List.range 95).all fun k => decide ((reprChar 39 (k + 32)).length ≤ 2) && decide ((reprChar 34 (k + 32)).length ≤ 2)) = true := by decide +kernel
open PySem.Builtin.Str in
theorem char_short {q c : Nat} (hq : q = 39 ∨ q = 34) (h : plainC c = true) : (reprChar q c).length ≤ 2 := by
  unfold plainC at h
  rw [Bool.or_eq_true, Bool.and_eq_true, decide_eq_true_eq, decide_eq_true_eq, decide_eq_true_eq] at h
  rcases h with rfl | h
  · rcases hq with rfl | rfl <;> decide +kernel
  have k := List.all_eq_true.mp chars_short (c - 32) (List.mem_range.mpr (by omega))
  rw [Bool.and_eq_true, decide_eq_true_eq, decide_eq_true_eq, show c - 32 + 32 = c by omega] at k
  rcases hq with rfl | rfl
  · exact k.1
  · exact k.2
open PySem.Builtin.Str in
theorem fold_short {q : Nat} (hq : q = 39 ∨ q = 34) : ∀ (l : List Nat) (n : Nat), l.all plainC = true → l.foldl (fun n c => n + (reprChar q c).length) n ≤ n + 2 * l.length
  | [], n, _ => by simp
  | c :: l, n, h => by
    rw [List.all_cons, Bool.and_eq_true] at h
    have h1 := char_short hq h.1
    have h2 := fold_short hq l (n + (reprChar q c).length) h.2
    rw [List.foldl_cons, List.length_cons]
    omega
theorem reprText_short {z : Str} (h : plainS z = true) : (reprText z).length ≤ 2 * z.length + 2 := by
  rw [← reprLen_eq, ← Array.foldl_toList]
  have hq : reprQuote z = 39 ∨ reprQuote z = 34 := by unfold reprQuote; split <;> first | exact .inr rfl | exact .inl rfl
  refine Nat.le_trans (fold_short hq z.cps.toList 2 h) ?_
  rw [Array.length_toList]
  show 2 + 2 * z.length ≤ _
  omega
theorem textFrom_short : ∀ (ts : List Str) (k : Nat) (acc : Str), (textFrom k acc ts).length ≤ acc.length + (ts.map fun t => t.length + 2).sum
  | [], _, acc => by simp [textFrom]
  | t :: ts, k, acc => by
    unfold textFrom
    refine Nat.le_trans (textFrom_short ts _ _) ?_
    rw [strLen_append, strLen_append, List.map_cons, List.sum_cons]
    have : (((if k > 0 then ", " else "" : String) : Str)).length ≤ 2 := by split <;> decide
    omega
theorem tupleText_short (ts : List Str) : (tupleText ts).length ≤ (ts.map fun t => t.length + 2).sum + 4 := by
  unfold tupleText
  rw [strLen_append, strLen_append]
  have h1 : (("(" : String) : Str).length = 1 := rfl
  have h2 : ((if ts.length == 1 then ",)" else ")" : String) : Str).length ≤ 2 := by split <;> decide
  cases ts with
  | nil =>
    have : (Str.join ", " ([] : List Str)).length = 0 := rfl
    rw [this, h1]
    simp at h2 ⊢
    omega
  | cons t ts =>
    have h3 := join_length_add (t :: ts) (by simp)
    unfold piled at h3
    rw [h1]
    omega
mutual
theorem shown_short : ∀ d : D, nice d = true → d.shown.length ≤ wt d
  | .none, _ => Nat.le_refl _
  | .bool b, _ => by cases b <;> decide
  | .int i, _ => Nat.le_refl _
  | .str z, h => reprText_short h
  | .list xs, h => by
    show (listText (PyData.shownAll xs)).length ≤ wts xs + 4
    unfold listText
    rw [strLen_append]
    have h1 := textFrom_short (PyData.shownAll xs) 0 "["
    have h2 := shownAll_short xs h
    have h3 : (("[" : String) : Str).length = 1 := rfl
    have h4 : (("]" : String) : Str).length = 1 := rfl
    omega
  | .tuple xs, h => by
    show (tupleText (PyData.shownAll xs)).length ≤ wts xs + 4
    have h1 := tupleText_short (PyData.shownAll xs)
    have h2 := shownAll_short xs h
    omega
  | .dict _, h => Bool.noConfusion h
theorem shownAll_short : ∀ xs : List D, nices xs = true → ((PyData.shownAll xs).map fun t => t.length + 2).sum ≤ wts xs
  | [], _ => Nat.le_refl _
  | x :: xs, h => by
    unfold nices at h
    rw [Bool.and_eq_true] at h
    have h1 := shown_short x h.1
    have h2 := shownAll_short xs h.2
    unfold PyData.shownAll wts
    rw [List.map_cons, List.sum_cons]
    omega
end
mutual
theorem nice_plain : ∀ d : D, nice d = true → d.plain = true
  | .none, _ => rfl
  | .bool _, _ => rfl
  | .int _, _ => rfl
  | .str _, _ => rfl
  | .list xs, h => by
    simp only [PyData.plain]
    exact nices_plain xs h
  | .tuple xs, h => by
    simp only [PyData.plain]
    exact nices_plain xs h
  | .dict _, h => Bool.noConfusion h
theorem nices_plain : ∀ xs : List D, nices xs = true → PyData.plainAll xs = true
  | [], _ => rfl
  | x :: xs, h => by
    unfold nices at h
    rw [Bool.and_eq_true] at h
    simp only [PyData.plainAll, nice_plain x h.1, nices_plain xs h.2, Bool.and_self]
end
/-- what repr takes -/
def reprOk (d : D) : Bool := nice d && decide (wt d ≤ 10000000) && decide (d.depth ≤ 60)
theorem gRepr_ok {d : D} (h : reprOk d = true) : gRepr [d] = some (.str d.shown) := by
  unfold reprOk at h
  simp only [Bool.and_eq_true, decide_eq_true_eq] at h
  have h1 := shown_short d h.1.1
  unfold gRepr
  dsimp only
  rw [nice_showable d h.1.1, decide_eq_true (Nat.le_trans h1 h.1.2), decide_eq_true h.2, nice_plain d h.1.1]
  rfl
end Mir

set_option Elab.async false
set_option linter.all false
set_option maxRecDepth 100000
set_option maxHeartbeats 4000000
namespace Mir
open PySem PySem.Spec PyProof.Rows L2
/-! ### what a drawn value satisfies, piece by piece -/
def Ev {α : Type} (m : List Sl → FS → R α) (ρ : List Sl) (P : α → Prop) : Prop := ∀ f, FOk f → ∃ d f', m ρ f = .ok d f' ∧ P d ∧ FOk f'
def EvF (mf : List D → FS → R D) (ds : List D) (P : D → Prop) : Prop := ∀ f, FOk f → ∃ d f', mf ds f = .ok d f' ∧ P d ∧ FOk f'
def EvS (m : MS) (ρ : List Sl) (N : List Sl → Prop) (P : D → Prop) : Prop := ∀ f, FOk f → (∃ ρ' f', m ρ f = .nx ρ' f' ∧ N ρ' ∧ FOk f') ∨ ∃ d f', m ρ f = .ret d f' ∧ P d ∧ FOk f'
section
variable {ρ : List Sl}
theorem Ev.mono {α : Type} {m : List Sl → FS → R α} {P Q : α → Prop} (h : Ev m ρ P) (k : ∀ d, P d → Q d) : Ev m ρ Q := fun f hf => by
  obtain ⟨d, f', e, p, hf'⟩ := h f hf
  exact ⟨d, f', e, k d p, hf'⟩
theorem EvF.mono {mf : List D → FS → R D} {ds : List D} {P Q : D → Prop} (h : EvF mf ds P) (k : ∀ d, P d → Q d) : EvF mf ds Q := fun f hf => by
  obtain ⟨d, f', e, p, hf'⟩ := h f hf
  exact ⟨d, f', e, k d p, hf'⟩
theorem ev_c {d : D} : Ev (eC d) ρ (· = d) := fun f hf => ⟨d, f, rfl, rfl, hf⟩
theorem ev_var {i : Nat} {d : D} (h : ρ[i]? = some (.d d)) : Ev (eVar i) ρ (· = d) := fun f hf => ⟨d, f, eVar_ok h, rfl, hf⟩
theorem ev_bin {g : List D → Option D} {a b : ME} {P Q T : D → Prop} (ha : Ev a ρ P) (hb : Ev b ρ Q) (h : ∀ x y, P x → Q y → ∃ z, g [x, y] = some z ∧ T z) : Ev (eBin g a b) ρ T := fun f hf => by
  obtain ⟨x, f1, e1, p, hf1⟩ := ha f hf
  obtain ⟨y, f2, e2, q, hf2⟩ := hb f1 hf1
  obtain ⟨z, e3, t⟩ := h x y p q
  exact ⟨z, f2, eBin_ok e1 e2 e3, t, hf2⟩
theorem ev_un {g : List D → Option D} {a : ME} {P T : D → Prop} (ha : Ev a ρ P) (h : ∀ x, P x → ∃ z, g [x] = some z ∧ T z) : Ev (eUn g a) ρ T := fun f hf => by
  obtain ⟨x, f1, e1, p, hf1⟩ := ha f hf
  obtain ⟨z, e3, t⟩ := h x p
  exact ⟨z, f1, eUn_ok e1 e3, t, hf1⟩
theorem ev_list {g : List D → Option D} {ms : MA} {P : List D → Prop} {T : D → Prop} (ha : Ev ms ρ P) (h : ∀ xs, P xs → ∃ z, g xs = some z ∧ T z) : Ev (eList g ms) ρ T := fun f hf => by
  obtain ⟨x, f1, e1, p, hf1⟩ := ha f hf
  obtain ⟨z, e3, t⟩ := h x p
  exact ⟨z, f1, eList_ok e1 e3, t, hf1⟩
theorem ev_nil : Ev aNil ρ (· = []) := fun f hf => ⟨[], f, rfl, rfl, hf⟩
theorem ev_cons {m : ME} {ms : MA} {P : D → Prop} {Q : List D → Prop} (h : Ev m ρ P) (hs : Ev ms ρ Q) : Ev (aCons m ms) ρ (fun xs => ∃ d ds, xs = d :: ds ∧ P d ∧ Q ds) := fun f hf => by
  obtain ⟨x, f1, e1, p, hf1⟩ := h f hf
  obtain ⟨xs, f2, e2, q, hf2⟩ := hs f1 hf1
  exact ⟨x :: xs, f2, aCons_ok e1 e2, ⟨x, xs, rfl, p, q⟩, hf2⟩
theorem ev_tup {ms : MA} {P : List D → Prop} (h : Ev ms ρ P) (hl : ∀ xs, P xs → xs.length ≤ lim) : Ev (eTup ms) ρ (fun d => ∃ xs, d = .tuple xs ∧ P xs) := fun f hf => by
  obtain ⟨x, f1, e1, p, hf1⟩ := h f hf
  exact ⟨_, f1, eTup_ok e1 (hl x p), ⟨x, rfl, p⟩, hf1⟩
theorem ev_lst {ms : MA} {P : List D → Prop} (h : Ev ms ρ P) (hl : ∀ xs, P xs → xs.length ≤ lim) : Ev (eLst ms) ρ (fun d => ∃ xs, d = .list xs ∧ P xs) := fun f hf => by
  obtain ⟨x, f1, e1, p, hf1⟩ := h f hf
  exact ⟨_, f1, eLst_ok e1 (hl x p), ⟨x, rfl, p⟩, hf1⟩
theorem ev_aFd {i : Nat} {ms : MA} {P : List D → Prop} (hi : ρ[i]? = some .fd) (h : Ev ms ρ P) : Ev (aFd i ms) ρ P := fun f hf => by
  rw [aFd_ok hi]
  exact h f hf
theorem ev_callF {mf : List D → FS → R D} {ms : MA} {P : List D → Prop} {T : D → Prop} (h : Ev ms ρ P) (hm : ∀ xs, P xs → EvF mf xs T) : Ev (eCall true mf ms) ρ T := fun f hf => by
  obtain ⟨x, f1, e1, p, hf1⟩ := h f hf
  obtain ⟨d, f2, e2, t, hf2⟩ := hm x p f1 hf1
  exact ⟨d, f2, eCall_fd e1 e2, t, hf2⟩
theorem ev_call {mf : List D → FS → R D} {ms : MA} {P : List D → Prop} {T : D → Prop} (h : Ev ms ρ P) (hm : ∀ xs, P xs → EvF mf xs T) : Ev (eCall false mf ms) ρ T := fun f hf => by
  obtain ⟨x, f1, e1, p, hf1⟩ := h f hf
  obtain ⟨d, f2, e2, t, hf2⟩ := hm x p f1 hf1
  exact ⟨d, f1, eCall_ff e1 e2, t, hf1⟩
theorem ev_tB {m : ME} {P : Bool → Prop} (h : Ev m ρ (fun d => ∃ b, d = .bool b ∧ P b)) : Ev (tB m) ρ P := fun f hf => by
  obtain ⟨x, f1, e1, ⟨b, rfl, p⟩, hf1⟩ := h f hf
  exact ⟨b, f1, tB_ok e1, p, hf1⟩
theorem ev_if {t : MB} {a b : ME} {C : Bool → Prop} {P : D → Prop} (ht : Ev t ρ C) (ha : C true → Ev a ρ P) (hb : C false → Ev b ρ P) : Ev (eIf t a b) ρ P := fun f hf => by
  obtain ⟨c, f1, e1, p, hf1⟩ := ht f hf
  cases c with
  | true =>
    obtain ⟨d, f2, e2, q⟩ := ha p f1 hf1
    exact ⟨d, f2, (eIf_t e1).trans e2, q⟩
  | false =>
    obtain ⟨d, f2, e2, q⟩ := hb p f1 hf1
    exact ⟨d, f2, (eIf_f e1).trans e2, q⟩
theorem ev_or {a b : MB} (ha : Ev a ρ fun _ => True) (hb : Ev b ρ fun _ => True) : Ev (bOr a b) ρ fun _ => True := fun f hf => by
  obtain ⟨c, f1, e1, _, hf1⟩ := ha f hf
  cases c with
  | true => exact ⟨true, f1, bOr_t e1, trivial, hf1⟩
  | false =>
    obtain ⟨d, f2, e2, _, q⟩ := hb f1 hf1
    exact ⟨d, f2, (bOr_f e1).trans e2, trivial, q⟩
theorem ev_and {a b : MB} (ha : Ev a ρ fun _ => True) (hb : Ev b ρ fun _ => True) : Ev (bAnd a b) ρ fun _ => True := fun f hf => by
  obtain ⟨c, f1, e1, _, hf1⟩ := ha f hf
  cases c with
  | false => exact ⟨false, f1, bAnd_f e1, trivial, hf1⟩
  | true =>
    obtain ⟨d, f2, e2, _, q⟩ := hb f1 hf1
    exact ⟨d, f2, (bAnd_t e1).trans e2, trivial, q⟩
theorem ev_comp {i : Nat} {mi : MA} {me : ME} {C : List D → Prop} {P : D → Prop} (hi : Ev mi ρ C) (hl : ∀ ds, C ds → ds.length ≤ lim) (hw : okW ρ [i] = true) (he : ∀ ds, C ds → ∀ d ∈ ds, Ev me ((wipeR ρ [i]).set i (.d d)) P) :
    Ev (eComp [i] mi (gmName i) bYes me) ρ (fun d => ∃ ds ys, C ds ∧ d = .list ys ∧ ys.length = ds.length ∧ ∀ y ∈ ys, P y) := fun f hf => by
  obtain ⟨ds, f1, e1, c, hf1⟩ := hi f hf
  obtain ⟨ys, f2, e2, h2, h3, hf2⟩ := comp_wp (F := FOk) ds [] f1 hf1 fun d hd f hf => he ds c d hd f hf
  exact ⟨.list ys, f2, eComp_ok e1 (hl ds c) hw (by rw [e2, List.nil_append]), ⟨ds, ys, c, rfl, h2, h3⟩, hf2⟩
theorem ev_sub {i : Nat} {mi : MA} {mt : MB} {C : List D → Prop} (hlen : i < (wipeR ρ [i]).length) (hi : Ev mi ρ C) (hl : ∀ ds, C ds → ds.length ≤ lim) (hw : okW ρ [i] = true) (ht : ∀ ds, C ds → ∀ d ∈ ds, Ev mt ((wipeR ρ [i]).set i (.d d)) fun _ => True) :
    Ev (eComp [i] mi (gmName i) mt (eVar i)) ρ (fun d => ∃ ds ys, C ds ∧ d = .list ys ∧ ys.Sublist ds) := fun f hf => by
  obtain ⟨ds, f1, e1, c, hf1⟩ := hi f hf
  obtain ⟨ys, f2, e2, h2, hf2⟩ := comp_sub (F := FOk) hlen ds [] f1 hf1 fun d hd f hf => by
    obtain ⟨b, f', e, _, q⟩ := ht ds c d hd f hf
    exact ⟨b, f', e, q⟩
  exact ⟨.list ys, f2, eComp_ok e1 (hl ds c) hw (by rw [e2, List.nil_append]), ⟨ds, ys, c, rfl, h2⟩, hf2⟩
theorem ev_args {g : List D → Option (List D)} {ms : MA} {P Q : List D → Prop} (h : Ev ms ρ P) (k : ∀ xs, P xs → ∃ ys, g xs = some ys ∧ Q ys) : Ev (iArgs g ms) ρ Q := fun f hf => by
  obtain ⟨xs, f1, e1, p, hf1⟩ := h f hf
  obtain ⟨ys, e2, q⟩ := k xs p
  refine ⟨ys, f1, ?_, q, hf1⟩
  unfold iArgs
  rw [e1, R.bind_ok, e2]
  rfl
theorem ev_seq {m : ME} {P : D → Prop} {Q : List D → Prop} (h : Ev m ρ P) (k : ∀ d, P d → ∃ ys, itemsD d = some ys ∧ Q ys) : Ev (iSeq m) ρ Q := fun f hf => by
  obtain ⟨d, f1, e1, p, hf1⟩ := h f hf
  obtain ⟨ys, e2, q⟩ := k d p
  exact ⟨ys, f1, iSeq_ok e1 e2, q, hf1⟩
/-! statements -/
variable {N : List Sl → Prop} {P : D → Prop}
theorem evs_seq {a b : MS} {M : List Sl → Prop} (ha : EvS a ρ M P) (hb : ∀ ρ', M ρ' → EvS b ρ' N P) : EvS (sSeq a b) ρ N P := fun f hf => by
  rcases ha f hf with ⟨ρ', f1, e1, m, hf1⟩ | ⟨d, f1, e1, q⟩
  · rw [sSeq_nx e1]
    exact hb ρ' m f1 hf1
  · exact .inr ⟨d, f1, sSeq_ret e1, q⟩
theorem evs_skip (h : N ρ) : EvS sSkip ρ N P := fun f hf => .inl ⟨ρ, f, rfl, h, hf⟩
theorem evs_set {i : Nat} {m : ME} {Q : D → Prop} (h : Ev m ρ Q) (k : ∀ d, Q d → N (ρ.set i (.d d))) : EvS (sSet i m) ρ N P := fun f hf => by
  obtain ⟨d, f1, e1, q, hf1⟩ := h f hf
  exact .inl ⟨_, f1, sSet_ok e1, k d q, hf1⟩
theorem evs_ret {m : ME} (h : Ev m ρ P) : EvS (sRet m) ρ N P := fun f hf => by
  obtain ⟨d, f1, e1, q, hf1⟩ := h f hf
  exact .inr ⟨d, f1, sRet_ok e1, q, hf1⟩
theorem evs_if {t : MB} {a b : MS} {C : Bool → Prop} (ht : Ev t ρ C) (ha : C true → EvS a ρ N P) (hb : C false → EvS b ρ N P) : EvS (sIf t a b) ρ N P := fun f hf => by
  obtain ⟨c, f1, e1, p, hf1⟩ := ht f hf
  cases c with
  | true => rw [sIf_t e1]; exact ha p f1 hf1
  | false => rw [sIf_f e1]; exact hb p f1 hf1
theorem evs_par {i j : Nat} {ms : MA} {Q : D → D → Prop} (h : Ev ms ρ (fun xs => ∃ d e, xs = [d, e] ∧ Q d e)) (k : ∀ d e, Q d e → N ((ρ.set i (.d d)).set j (.d e))) : EvS (sPar i j ms) ρ N P := fun f hf => by
  obtain ⟨xs, f1, e1, ⟨d, e, rfl, q⟩, hf1⟩ := h f hf
  exact .inl ⟨_, f1, sPar_ok e1, k d e q, hf1⟩
theorem evs_asg {mg : MG} {m : ME} {Q : D → Prop} (h : Ev m ρ Q) (k : ∀ d, Q d → ∃ ρ', mg d ρ = some ρ' ∧ N ρ') : EvS (sAsg mg m) ρ N P := fun f hf => by
  obtain ⟨d, f1, e1, q, hf1⟩ := h f hf
  obtain ⟨ρ', e2, n⟩ := k d q
  refine .inl ⟨ρ', f1, ?_, n, hf1⟩
  unfold sAsg
  rw [e1]
  show (match mg d ρ with | some ρ' => SR.nx ρ' f1 | none => SR.bad) = _
  rw [e2]
theorem evF_of {n np : Nat} {ff : Bool} {m : MS} {ds : List D} (hl : ds.length = np) (h : EvS m (entry n ff ds) (fun _ => False) P) : EvF (mfun n np ff m) ds P := fun f hf => by
  rcases h f hf with ⟨_, _, _, q, _⟩ | ⟨d, f1, e1, q⟩
  · exact q.elim
  · exact ⟨d, f1, mfun_ret hl e1, q⟩
end
end Mir

set_option Elab.async false
set_option linter.all false
set_option maxRecDepth 100000
set_option maxHeartbeats 4000000
namespace Mir
open PySem PySem.Spec PyProof.Rows L2
/-! ### general mathematics of mirrors, gathered -/
variable {f : FS}
theorem sIf_b {t : MB} {a b : MS} {ρ : List Sl} {f f1 : FS} {c : Bool} (h : t ρ f = .ok c f1) : sIf t a b ρ f = if c = true then a ρ f1 else b ρ f1 := by unfold sIf; rw [h]; rfl
/-- a guard that tells False, then the rest -/
theorem guardF {t : MB} {rest : MS} {ρ : List Sl} {f : FS} {c x : Bool} (h : t ρ f = .ok c f) (h2 : c = false → rest ρ f = .ret (.bool x) f) : sSeq (sIf t (sRet (eC (.bool false))) sSkip) rest ρ f = .ret (.bool (!c && x)) f := by
  cases c with
  | true => exact sSeq_ret (by rw [sIf_b h]; rfl)
  | false => rw [sSeq_nx (a := sIf _ _ _) (by rw [sIf_b h]; rfl)]; exact h2 rfl
/-- an if that returns b, then the rest -/
theorem guardR {t : MB} {m : ME} {rest : MS} {ρ : List Sl} {f : FS} {c b x : Bool} (h : t ρ f = .ok c f) (h1 : c = true → m ρ f = .ok (.bool b) f) (h2 : c = false → rest ρ f = .ret (.bool x) f) : sSeq (sIf t (sRet m) sSkip) rest ρ f = .ret (.bool (if c then b else x)) f := by
  cases c with
  | true => exact sSeq_ret (by rw [sIf_b h]; exact sRet_ok (h1 rfl))
  | false => rw [sSeq_nx (a := sIf _ _ _) (by rw [sIf_b h]; rfl)]; exact h2 rfl
theorem isI_ok {T : String} {d : D} {b : Bool} {a : ME} {ρ : List Sl} (h : a ρ f = .ok d f) (h2 : gIsI T [d] = some (.bool b)) : eUn (gIsI T) a ρ f = .ok (.bool b) f := eUn_ok h h2
theorem signs_all {z : Str} {g : D → D} {p : Nat → Bool} (h : ∀ c, g (.str ⟨#[c]⟩) = .bool (p c)) : (signsD z).map g = z.cps.toList.map fun c => .bool (p c) := by
  unfold signsD
  rw [List.map_map]
  exact List.map_congr_left fun c _ => h c
theorem gLen_str {z : Str} (h : z.length ≤ lim) : gLen [.str z] = some (.int (z.length : Nat)) := by unfold gLen; dsimp only; rw [if_pos h]
theorem eChain_ok {g g' : List D → Option D} {a b c : ME} {ρ : List Sl} {x y z : D} {p q : Bool} (h1 : a ρ f = .ok x f) (h2 : b ρ f = .ok y f) (h3 : g [x, y] = some (.bool p)) (h4 : p = true → c ρ f = .ok z f) (h5 : g' [y, z] = some (.bool q)) : eChain g g' a b c ρ f = .ok (.bool (p && q)) f := by
  unfold eChain
  rw [h1]
  dsimp only [R.bind_ok]
  rw [h2]
  dsimp only [R.bind_ok]
  rw [h3]
  cases p with
  | true =>
    dsimp only
    rw [h4 rfl]
    dsimp only [R.bind_ok]
    rw [h5]
    rfl
  | false => rfl
theorem gEq_nil (xs : List D) (hp : PyData.plainAll xs = true := by first | assumption | exact plain_ints _ | exact small_plain _ (by assumption) | exact smalls_plain _ (by assumption) | exact sm1 (by assumption) | exact sm2 (by assumption) | exact sm3 (by assumption) | exact smT (by assumption) | exact smTl (by assumption) | exact pl_filter (smT (by assumption)) | exact pl_filter (pl_signs _) | exact pl_filter (pl_range _ _) | (simp [PyData.plain, PyData.plainAll]; done) | (simp [PyData.plain, PyData.plainAll]; assumption)) : gEq [.list xs, .list []] = some (.bool xs.isEmpty) := by
  have e := eqOk_nil hp
  cases xs <;> simp [gEq, e, PyData.eqv, PyData.eqvAll]
theorem gNe_nils (xs : List D) (hp : PyData.plainAll xs = true := by first | assumption | exact plain_ints _ | exact small_plain _ (by assumption) | exact smalls_plain _ (by assumption) | exact sm1 (by assumption) | exact sm2 (by assumption) | exact sm3 (by assumption) | exact smT (by assumption) | exact smTl (by assumption) | exact pl_filter (smT (by assumption)) | exact pl_filter (pl_signs _) | exact pl_filter (pl_range _ _) | (simp [PyData.plain, PyData.plainAll]; done) | (simp [PyData.plain, PyData.plainAll]; assumption)) : gNe [.list xs, .list []] = some (.bool (!xs.isEmpty)) := by
  cases xs with
  | nil => rfl
  | cons x xs => exact gNe_nil x xs hp
theorem gEq_tnil (xs : List D) (hp : PyData.plainAll xs = true := by first | assumption | exact plain_ints _ | exact small_plain _ (by assumption) | exact smalls_plain _ (by assumption) | exact sm1 (by assumption) | exact sm2 (by assumption) | exact sm3 (by assumption) | exact smT (by assumption) | exact smTl (by assumption) | exact pl_filter (smT (by assumption)) | exact pl_filter (pl_signs _) | exact pl_filter (pl_range _ _) | (simp [PyData.plain, PyData.plainAll]; done) | (simp [PyData.plain, PyData.plainAll]; assumption)) : gEq [.tuple xs, .tuple []] = some (.bool xs.isEmpty) := by
  have e : eqOk (.tuple xs) (.tuple []) = true := by
    unfold eqOk
    have : (PyData.tuple ([] : List D)).depth ≤ 64 := by simp [PyData.depth, PyData.depthAll]
    rw [decide_eq_true (Nat.le_trans (Nat.min_le_right _ _) this)]
    simp [PyData.plain, hp, PyData.plainAll]
  cases xs <;> simp [gEq, e, PyData.eqv, PyData.eqvAll]
/-- words -/
def inW (ws : List Str) : D → Bool
  | .str z => ws.any fun y => y == z
  | _ => false
theorem depth_strs (ws : List Str) : PyData.depthAll (ws.map .str) = 0 := by
  induction ws with
  | nil => simp [PyData.depthAll]
  | cons w ws ih => rw [List.map_cons]; simp [PyData.depthAll, PyData.depth, ih]
theorem plain_strs (ws : List Str) : PyData.plainAll (ws.map .str) = true := by
  induction ws with
  | nil => simp [PyData.plainAll]
  | cons w ws ih => rw [List.map_cons]; simp [PyData.plainAll, PyData.plain, ih]
theorem eqv_strs (ws : List Str) (d : D) : ((ws.map PyData.str).any fun y => PyData.eqv y d) = inW ws d := by
  rw [List.any_map]
  cases d with
  | str z => unfold inW; congr 1
  | _ => unfold inW; induction ws with
    | nil => rfl
    | cons w ws ih => rw [List.any_cons, ih]; simp [PyData.eqv]
theorem gIn_ws (ws : List Str) (d : D) (hp : d.plain = true := by first | assumption | exact plain_ints _ | exact small_plain _ (by assumption) | exact smalls_plain _ (by assumption) | exact sm1 (by assumption) | exact sm2 (by assumption) | exact sm3 (by assumption) | exact smT (by assumption) | exact smTl (by assumption) | exact pl_filter (smT (by assumption)) | exact pl_filter (pl_signs _) | exact pl_filter (pl_range _ _) | (simp [PyData.plain, PyData.plainAll]; done) | (simp [PyData.plain, PyData.plainAll]; assumption)) : gIn [d, .tuple (ws.map .str)] = some (.bool (inW ws d)) := by
  have e : inOk (ws.map .str) d = true := by unfold inOk; rw [depth_strs, plain_strs, hp]; simp
  show (if inOk (ws.map .str) d = true then _ else _) = _
  rw [if_pos e, eqv_strs]
theorem gNotIn_ws (ws : List Str) (d : D) (hp : d.plain = true := by first | assumption | exact plain_ints _ | exact small_plain _ (by assumption) | exact smalls_plain _ (by assumption) | exact sm1 (by assumption) | exact sm2 (by assumption) | exact sm3 (by assumption) | exact smT (by assumption) | exact smTl (by assumption) | exact pl_filter (smT (by assumption)) | exact pl_filter (pl_signs _) | exact pl_filter (pl_range _ _) | (simp [PyData.plain, PyData.plainAll]; done) | (simp [PyData.plain, PyData.plainAll]; assumption)) : gNotIn [d, .tuple (ws.map .str)] = some (.bool (!inW ws d)) := by
  have e : inOk (ws.map .str) d = true := by unfold inOk; rw [depth_strs, plain_strs, hp]; simp
  show (if inOk (ws.map .str) d = true then _ else _) = _
  rw [if_pos e, eqv_strs]
theorem gEq_w (w : Str) (d : D) (hp : d.plain = true := by first | assumption | exact plain_ints _ | exact small_plain _ (by assumption) | exact smalls_plain _ (by assumption) | exact sm1 (by assumption) | exact sm2 (by assumption) | exact sm3 (by assumption) | exact smT (by assumption) | exact smTl (by assumption) | exact pl_filter (smT (by assumption)) | exact pl_filter (pl_signs _) | exact pl_filter (pl_range _ _) | (simp [PyData.plain, PyData.plainAll]; done) | (simp [PyData.plain, PyData.plainAll]; assumption)) : gEq [d, .str w] = some (.bool (inW [w] d)) := by
  have e : eqOk d (.str w) = true := by unfold eqOk; rw [hp]; simp [PyData.depth, PyData.plain]
  cases d <;> simp [gEq, e, PyData.eqv, inW, Bool.beq_comm]
theorem gNe_w (w : Str) (d : D) (hp : d.plain = true := by first | assumption | exact plain_ints _ | exact small_plain _ (by assumption) | exact smalls_plain _ (by assumption) | exact sm1 (by assumption) | exact sm2 (by assumption) | exact sm3 (by assumption) | exact smT (by assumption) | exact smTl (by assumption) | exact pl_filter (smT (by assumption)) | exact pl_filter (pl_signs _) | exact pl_filter (pl_range _ _) | (simp [PyData.plain, PyData.plainAll]; done) | (simp [PyData.plain, PyData.plainAll]; assumption)) : gNe [d, .str w] = some (.bool (!inW [w] d)) := by
  have h := gEq_w w d hp
  have e : eqOk d (.str w) = true := by unfold eqOk; rw [hp]; simp [PyData.depth, PyData.plain]
  unfold gEq at h
  unfold gNe
  dsimp only at h ⊢
  rw [if_pos e] at h ⊢
  injection h with h
  injection h with h
  rw [h]
theorem filter_empty (p : D → Bool) (xs : List D) : (xs.filter fun d => !p d).isEmpty = xs.all p := by
  induction xs with
  | nil => rfl
  | cons x xs ih =>
    cases h : p x with
    | true => rw [List.filter_cons_of_neg (by simp [h]), ih, List.all_cons, h, Bool.true_and]
    | false => rw [List.filter_cons_of_pos (by simp [h]), List.all_cons, h]; rfl
theorem filter_empty_not (p : D → Bool) (xs : List D) : (!(xs.filter p).isEmpty) = xs.any p := by
  induction xs with
  | nil => rfl
  | cons x xs ih =>
    cases h : p x with
    | true => rw [List.filter_cons_of_pos h, List.any_cons, h]; rfl
    | false => rw [List.filter_cons_of_neg (by simp [h]), ih, List.any_cons, h, Bool.false_or]
def nthD (xs : List D) (k : Nat) : D := xs.getD k .none
theorem atI_nat {xs : List D} {k : Nat} (h : k < xs.length) : atI xs (k : Int) = some (nthD xs k) := by
  unfold atI ixN nthD
  rw [if_pos (by omega), if_pos (by omega)]
  simp [h]
theorem comp_mapG {mg : MG} {me : ME} {ρ : List Sl} {g : D → D} : ∀ (ds acc : List D), (∀ d ∈ ds, ∃ ρ', mg d ρ = some ρ' ∧ me ρ' f = .ok (g d) f) → compLoop mg bYes me ds ρ f acc = .ok (acc ++ ds.map g) f
  | [], acc, _ => by rw [List.map_nil, List.append_nil]; rfl
  | d :: ds, acc, h => by
    obtain ⟨ρ', e1, e2⟩ := h d List.mem_cons_self
    have ih := comp_mapG (mg := mg) (me := me) (ρ := ρ) (g := g) ds (acc ++ [g d]) (fun d' hd => h d' (List.mem_cons_of_mem _ hd))
    unfold compLoop
    simp only [e1, bYes, noX, R.bind_ok, if_true, e2]
    rw [ih, List.map_cons, List.append_assoc]
    rfl
theorem cut_1 (xs : List D) : cutD xs (some 1) none = xs.drop 1 := by
  unfold cutD
  rw [show (1 : Int) = ((1 : Nat) : Int) from rfl, HT.sIx_nat, HT.sIx_none]
  cases xs with
  | nil => rfl
  | cons x xs =>
    rw [List.length_cons, Nat.min_eq_left (by omega)]
    exact List.take_of_length_le (by simp)
theorem cmp_int (a b : Int) : ltOk (.int a) (.int b) = true := by simp [ltOk, eqOk, PySem.W.alike, PyData.depth, PyData.plain]
theorem nthD_mem {xs : List D} {k : Nat} (h : k < xs.length) : nthD xs k ∈ xs := by
  have e : nthD xs k = xs[k] := by unfold nthD; simp [h]
  rw [e]
  exact List.getElem_mem h
theorem isLen0 (xs : List D) : decide (((xs.length : Nat) : Int) = 0) = xs.isEmpty := by cases xs <;> simp <;> omega
theorem rng_ok {n : Nat} (h : n ≤ lim) : rngOk ((n : Nat) : Int) = true := by
  unfold rngOk
  have h : n ≤ 100000 := h
  rw [decide_eq_true (by omega), decide_eq_true (by omega)]
  rfl
theorem rngOk_1 : rngOk 1 = true := by decide +kernel
theorem rng2_ok {i j : Int} (h1 : rngOk i = true) (h2 : rngOk j = true) : rng2 [.int i, .int j] = some (rangeD i (j - i).toNat) := by
  unfold rng2
  dsimp only
  rw [h1, h2, Bool.and_self, if_pos rfl]
theorem rng1_ok {j : Int} (h2 : rngOk j = true) : rng1 [.int j] = some (rangeD 0 j.toNat) := by
  unfold rng1
  dsimp only
  rw [h2, if_pos rfl]
mutual
def small : D → Bool
  | .str z => decide (z.length ≤ lim)
  | .list xs => decide (xs.length ≤ lim) && smalls xs
  | .tuple xs => decide (xs.length ≤ lim) && smalls xs
  | .dict _ => false
  | _ => true
def smalls : List D → Bool
  | [] => true
  | x :: xs => small x && smalls xs
end
theorem smalls_mem {x : D} : ∀ {xs : List D}, smalls xs = true → x ∈ xs → small x = true
  | y :: ys, h, hx => by
    unfold smalls at h
    rw [Bool.and_eq_true] at h
    rcases List.mem_cons.mp hx with rfl | hx
    · exact h.1
    · exact smalls_mem h.2 hx
mutual
theorem small_plain : ∀ d : D, small d = true → d.plain = true
  | .none, _ => rfl
  | .bool _, _ => rfl
  | .int _, _ => rfl
  | .str _, _ => rfl
  | .list xs, h => by
    unfold small at h
    rw [Bool.and_eq_true] at h
    simp only [PyData.plain]
    exact smalls_plain xs h.2
  | .tuple xs, h => by
    unfold small at h
    rw [Bool.and_eq_true] at h
    simp only [PyData.plain]
    exact smalls_plain xs h.2
  | .dict _, h => Bool.noConfusion h
theorem smalls_plain : ∀ xs : List D, smalls xs = true → PyData.plainAll xs = true
  | [], _ => rfl
  | x :: xs, h => by
    unfold smalls at h
    rw [Bool.and_eq_true] at h
    simp only [PyData.plainAll, small_plain x h.1, smalls_plain xs h.2, Bool.and_self]
end
theorem small_tup {xs : List D} (h : small (.tuple xs) = true) : xs.length ≤ lim ∧ smalls xs = true := by
  unfold small at h
  rw [Bool.and_eq_true, decide_eq_true_eq] at h
  exact h
theorem small_str {d : D} (h : small d = true) : ∀ z, d = .str z → z.length ≤ lim := fun z e => by
  subst e
  unfold small at h
  exact of_decide_eq_true h
theorem small_len {d : D} (h : small d = true) : ∀ xs, d = .tuple xs → xs.length ≤ lim := fun z e => by
  subst e
  exact (small_tup h).1
theorem for_nx1 {mg : MG} {body : MS} {d : D} {ds : List D} {ρ ρ1 ρ2 : List Sl} {f f2 : FS} (h : mg d ρ = some ρ1) (h2 : body ρ1 f = .nx ρ2 f2) : forLoop mg body (d :: ds) ρ f = forLoop mg body ds ρ2 f2 := by
  conv => lhs; unfold forLoop
  simp only [h, h2]
theorem for_ret1 {mg : MG} {body : MS} {d e : D} {ds : List D} {ρ ρ1 : List Sl} {f f2 : FS} (h : mg d ρ = some ρ1) (h2 : body ρ1 f = .ret e f2) : forLoop mg body (d :: ds) ρ f = .ret e f2 := by
  conv => lhs; unfold forLoop
  simp only [h, h2]
theorem gIx0 (w : D) (rest : List D) : gIx [.tuple (w :: rest), .int 0] = some w := atI_nat (k := 0) (Nat.succ_pos _)
theorem inW_mem {ws : List Str} {w : D} (h : inW ws w = true) : ∃ z ∈ ws, w = .str z := by
  cases w with
  | str z =>
    unfold inW at h
    obtain ⟨y, hy, e⟩ := List.any_eq_true.mp h
    exact ⟨y, hy, by rw [eq_of_beq e]⟩
  | _ => exact Bool.noConfusion h
theorem gNe_int (a b : Int) : gNe [.int a, .int b] = some (.bool (!decide (a = b))) := by
  have h := gEq_int a b
  unfold gEq at h
  unfold gNe
  dsimp only at h ⊢
  split at h
  · rename_i q
    rw [if_pos q]
    injection h with h
    injection h with h
    rw [h]
  · cases h
theorem eCallK_ok {is : List Nat} {mf : List D → FS → R D} {ms mk : MA} {ρ : List Sl} {f1 f2 f3 : FS} {ds es : List D} {d : D} (h : ms ρ f = .ok ds f1) (h2 : mk ρ f1 = .ok es f2) (h3 : mf (pick is (ds ++ es)) f2 = .ok d f3) : eCallK is mf ms mk ρ f = .ok d f2 := by
  unfold eCallK
  rw [h]
  dsimp only [R.bind_ok]
  rw [h2]
  dsimp only [R.bind_ok]
  rw [h3]
theorem str_self (z : Str) : gEq [.str z, .str z] = some (.bool true) := by
  rw [gEq_w z (.str z) rfl]
  simp [inW]
def G (N k : Nat) (d : D) : Prop := small d = true ∧ nice d = true ∧ wt d ≤ N ∧ d.depth ≤ k
theorem G.mono {N k M j : Nat} {d : D} (h : G N k d) (h1 : N ≤ M) (h2 : k ≤ j) : G M j d := ⟨h.1, h.2.1, Nat.le_trans h.2.2.1 h1, Nat.le_trans h.2.2.2 h2⟩
theorem G.ok {N k : Nat} {d : D} (h : G N k d) (h1 : N ≤ 10000000) (h2 : k ≤ 60) : small d = true ∧ reprOk d = true := by
  refine ⟨h.1, ?_⟩
  unfold reprOk
  rw [h.2.1, decide_eq_true (Nat.le_trans h.2.2.1 h1), decide_eq_true (Nat.le_trans h.2.2.2 h2)]
  rfl
theorem G_all {N k : Nat} : ∀ {xs : List D}, (∀ x ∈ xs, G N k x) → smalls xs = true ∧ nices xs = true ∧ wts xs ≤ xs.length * (N + 2) ∧ PyData.depthAll xs ≤ k
  | [], _ => ⟨rfl, rfl, Nat.zero_le _, Nat.zero_le _⟩
  | x :: xs, h => by
    obtain ⟨a1, a2, a3, a4⟩ := h x List.mem_cons_self
    obtain ⟨b1, b2, b3, b4⟩ := G_all fun y hy => h y (List.mem_cons_of_mem _ hy)
    refine ⟨?_, ?_, ?_, ?_⟩
    · unfold smalls; rw [a1, b1]; rfl
    · unfold nices; rw [a2, b2]; rfl
    · unfold wts
      rw [List.length_cons, Nat.succ_mul]
      omega
    · unfold PyData.depthAll
      exact Nat.max_le.mpr ⟨a4, b4⟩
theorem G_tup {N k L : Nat} {xs : List D} (h : ∀ x ∈ xs, G N k x) (hl : xs.length ≤ L) (hL : L ≤ 1000) : G (L * (N + 2) + 4) (k + 1) (.tuple xs) := by
  obtain ⟨a1, a2, a3, a4⟩ := G_all h
  have hlim : xs.length ≤ lim := by have : lim = 100000 := rfl; omega
  refine ⟨?_, ?_, ?_, ?_⟩
  · unfold small; rw [a1, decide_eq_true hlim]; rfl
  · unfold nice; exact a2
  · unfold wt
    have := Nat.mul_le_mul_right (N + 2) hl
    omega
  · unfold PyData.depth; omega
theorem G_lst {N k L : Nat} {xs : List D} (h : ∀ x ∈ xs, G N k x) (hl : xs.length ≤ L) (hL : L ≤ 1000) : G (L * (N + 2) + 4) (k + 1) (.list xs) := by
  obtain ⟨a1, a2, a3, a4⟩ := G_all h
  have hlim : xs.length ≤ lim := by have : lim = 100000 := rfl; omega
  refine ⟨?_, ?_, ?_, ?_⟩
  · unfold small; rw [a1, decide_eq_true hlim]; rfl
  · unfold nice; exact a2
  · unfold wt
    have := Nat.mul_le_mul_right (N + 2) hl
    omega
  · unfold PyData.depth; omega
def Nm (z : Str) : Prop := plainS z = true ∧ z.length ≤ 8
theorem G_str {z : Str} (h : Nm z) : G 18 0 (.str z) := by
  obtain ⟨h1, h2⟩ := h
  refine ⟨?_, h1, ?_, Nat.le_refl _⟩
  · unfold small
    have : lim = 100000 := rfl
    exact decide_eq_true (by omega)
  · unfold wt; omega
/-- a check of closed values -/
def gB (N k : Nat) (d : D) : Bool := small d && nice d && decide (wt d ≤ N) && decide (d.depth ≤ k)
theorem gB_ok {N k : Nat} {d : D} (h : gB N k d = true) : G N k d := by
  unfold gB at h
  simp only [Bool.and_eq_true, decide_eq_true_eq] at h
  exact ⟨h.1.1.1, h.1.1.2, h.1.2, h.2⟩
theorem gB_all {N k : Nat} {xs : List D} (h : xs.all (gB N k) = true) : ∀ x ∈ xs, G N k x := fun x hx => gB_ok (List.all_eq_true.mp h x hx)
def IntIn (m : Int) (d : D) : Prop := ∃ r, d = .int r ∧ 0 ≤ r ∧ r < m
/-- a loop, by the number of turns done -/
theorem evs_for {ρ : List Sl} {N : List Sl → Prop} {P : D → Prop} {mi : MA} {mg : MG} {body : MS} {ds : List D} {J : Nat → List Sl → Prop} (hi : Ev mi ρ (· = ds)) (h0 : J 0 ρ) (hb : ∀ k d ρ', ds[k]? = some d → J k ρ' → ∃ ρ1, mg d ρ' = some ρ1 ∧ EvS body ρ1 (J (k + 1)) P) (hN : ∀ ρ', J ds.length ρ' → N ρ') :
    EvS (sFor mi mg body) ρ N P := fun f hf => by
  obtain ⟨ds0, f1, e1, eds, hf1⟩ := hi f hf
  rw [eds] at e1
  have go : ∀ (es : List D) (k : Nat) (ρ' : List Sl) (f : FS), (∀ i, es[i]? = ds[k + i]?) → k + es.length = ds.length → J k ρ' → FOk f → (∃ ρ2 f', forLoop mg body es ρ' f = .nx ρ2 f' ∧ N ρ2 ∧ FOk f') ∨ ∃ d f', forLoop mg body es ρ' f = .ret d f' ∧ P d ∧ FOk f' := by
    intro es
    induction es with
    | nil =>
      intro k ρ' f _ hk hj hf
      exact .inl ⟨ρ', f, rfl, hN ρ' (by rw [← hk]; exact hj), hf⟩
    | cons e es ih =>
      intro k ρ' f he hk hj hf
      obtain ⟨ρ1, m1, q⟩ := hb k e ρ' (by rw [← Nat.add_zero k, ← he 0]; rfl) hj
      rcases q f hf with ⟨ρ2, f2, e2, j2, hf2⟩ | ⟨d, f2, e2, q2⟩
      · rw [for_nx1 m1 e2]
        exact ih (k + 1) ρ2 f2 (fun i => by have := he (i + 1); rw [List.getElem?_cons_succ] at this; rw [this, show k + (i + 1) = k + 1 + i by omega]) (by rw [List.length_cons] at hk; omega) j2 hf2
      · exact .inr ⟨d, f2, for_ret1 m1 e2, q2⟩
  have := go ds 0 ρ f1 (fun i => by rw [Nat.zero_add]) (Nat.zero_add _) h0 hf1
  unfold sFor
  rw [e1]
  exact this
theorem ev_range {ρ : List Sl} {m : ME} {k : Int} (h : Ev m ρ (· = .int k)) (h0 : 0 ≤ k) (h1 : k ≤ 100) : Ev (iArgs rng1 (aCons m aNil)) ρ (· = rangeD 0 k.toNat) :=
  ev_args (ev_cons h ev_nil) fun xs q => by
    obtain ⟨_, _, rfl, rfl, rfl⟩ := q
    exact ⟨_, rng1_ok (by unfold rngOk; rw [decide_eq_true (by omega), decide_eq_true (by omega)]; rfl), rfl⟩
theorem sFor_ok {mi : MA} {mg : MG} {body : MS} {ρ : List Sl} {f f1 : FS} {ds : List D} (h : mi ρ f = .ok ds f1) : sFor mi mg body ρ f = forLoop mg body ds ρ f1 := by unfold sFor; rw [h]; rfl
end Mir

set_option Elab.async false
set_option linter.all false
set_option maxRecDepth 100000
set_option maxHeartbeats 4000000
namespace Mir
open PySem PySem.Spec PyProof.Rows L2
/-! ### numbers drawn: a small logic -/
def isI (d : D) : Prop := ∃ i, d = .int i
theorem IntIn.i {m : Int} {d : D} (h : IntIn m d) : isI d := let ⟨r, e, _⟩ := h; ⟨r, e⟩
section
variable {ρ : List Sl} {a b : ME}
theorem ev_i {d : D} {m : ME} (h : Ev m ρ (· = d)) (hd : isI d) : Ev m ρ isI := h.mono fun x e => e ▸ hd
theorem ev_int (h : Ev a ρ isI) : Ev (eList gInt (aCons a aNil)) ρ isI := ev_list (ev_cons h ev_nil) fun xs q => by
  obtain ⟨d, ds, rfl, ⟨i, rfl⟩, rfl⟩ := q
  exact ⟨_, gInt_int i, i, rfl⟩
theorem ev_add (ha : Ev a ρ isI) (hb : Ev b ρ isI) : Ev (eBin gAdd a b) ρ isI := ev_bin ha hb fun x y hx hy => by
  obtain ⟨i, rfl⟩ := hx
  obtain ⟨j, rfl⟩ := hy
  exact ⟨_, gAdd_int i j, _, rfl⟩
theorem ev_mod {p : Int} (ha : Ev a ρ isI) (hb : Ev b ρ (· = .int p)) (hp : 0 < p) : Ev (eBin gMod a b) ρ (IntIn p) := ev_bin ha hb fun x y hx hy => by
  obtain ⟨i, rfl⟩ := hx
  subst hy
  exact ⟨_, gMod_pos hp, _, rfl, Int.emod_nonneg _ (by omega), Int.emod_lt_of_pos _ hp⟩
theorem ev_fdiv {p : Int} (ha : Ev a ρ isI) (hb : Ev b ρ (· = .int p)) (hp : 0 < p) (h2 : p < 1073741824) : Ev (eBin gFDiv a b) ρ isI := ev_bin ha hb fun x y hx hy => by
  obtain ⟨i, rfl⟩ := hx
  subst hy
  exact ⟨_, gFDiv_pos hp h2, _, rfl⟩
theorem ev_mul {p : Int} (ha : Ev a ρ (IntIn p)) (hp : p ≤ 2 ^ 64) (hb : Ev b ρ isI) : Ev (eBin gMul a b) ρ isI := ev_bin ha hb fun x y hx hy => by
  obtain ⟨i, rfl, h1, h2⟩ := hx
  obtain ⟨j, rfl⟩ := hy
  exact ⟨_, gMul_l (by omega) (by omega), _, rfl⟩
theorem ev_mulc {c : Int} (hc : smallM c) (hb : Ev b ρ isI) : Ev (eBin gMul (eC (.int c)) b) ρ isI := ev_bin (ev_c (d := .int c)) hb fun x y hx hy => by
  subst hx
  obtain ⟨j, rfl⟩ := hy
  exact ⟨_, gMul_l hc.1 hc.2, _, rfl⟩
theorem ev_ci {c : Int} : Ev (eC (.int c)) ρ isI := ev_i ev_c ⟨c, rfl⟩
theorem ev_fd {i k : Nat} (h : ρ[i]? = some .fd) (hk : k ≠ 0) : Ev (eFd i k) ρ isI := fun f hf => ⟨_, f, eFd_ok h, by
  match k, hk with
  | 1, _ => exact ⟨_, rfl⟩
  | 2, _ => exact ⟨_, rfl⟩
  | _ + 3, _ => exact ⟨_, rfl⟩, hf⟩
theorem ev_gt (ha : Ev a ρ isI) (hb : Ev b ρ isI) : Ev (tB (eBin gGt a b)) ρ fun _ => True := ev_tB (ev_bin ha hb fun x y hx hy => by
  obtain ⟨i, rfl⟩ := hx
  obtain ⟨j, rfl⟩ := hy
  exact ⟨_, gGt_int i j, _, rfl, trivial⟩)
theorem ev_ge (ha : Ev a ρ isI) (hb : Ev b ρ isI) : Ev (tB (eBin gGe a b)) ρ fun _ => True := ev_tB (ev_bin ha hb fun x y hx hy => by
  obtain ⟨i, rfl⟩ := hx
  obtain ⟨j, rfl⟩ := hy
  exact ⟨_, gGe_int i j, _, rfl, trivial⟩)
theorem ev_lt (ha : Ev a ρ isI) (hb : Ev b ρ isI) : Ev (tB (eBin gLt a b)) ρ fun _ => True := ev_tB (ev_bin ha hb fun x y hx hy => by
  obtain ⟨i, rfl⟩ := hx
  obtain ⟨j, rfl⟩ := hy
  exact ⟨_, gLt_int i j, _, rfl, trivial⟩)
theorem ev_eq (ha : Ev a ρ isI) (hb : Ev b ρ isI) : Ev (tB (eBin gEq a b)) ρ fun _ => True := ev_tB (ev_bin ha hb fun x y hx hy => by
  obtain ⟨i, rfl⟩ := hx
  obtain ⟨j, rfl⟩ := hy
  exact ⟨_, gEq_int i j, _, rfl, trivial⟩)
theorem evs_put {i k : Nat} {m : ME} {P : D → Prop} (h : ρ[i]? = some .fd) (hk : k = 1 ∨ k = 2 ∨ k = 3) (hm : Ev m ρ isI) : EvS (sFdPut i k m) ρ (fun ρ' => ρ' = ρ) P := fun f hf => by
  obtain ⟨d, f1, e, ⟨n, rfl⟩, hf1⟩ := hm f hf
  rcases hk with rfl | rfl | rfl
  · exact .inl ⟨ρ, _, sFdPut_ok e h rfl, rfl, hf1⟩
  · exact .inl ⟨ρ, _, sFdPut_ok e h rfl, rfl, hf1⟩
  · exact .inl ⟨ρ, _, sFdPut_ok e h rfl, rfl, hf1⟩
/-- the length of the cells -/
theorem ev_cells {i : Nat} (h : ρ[i]? = some .fd) : Ev (eList gLen (aCons (eFd i 0) aNil)) ρ isI := fun f hf => ⟨_, f, eList_ok (aCons_ok (eFd_ok h) rfl) rfl, ⟨_, rfl⟩, hf⟩
/-- one of the cells -/
theorem ev_cell {i : Nat} {e0 : Int} {m : ME} (h : ρ[i]? = some .fd) (n : Int) (hm : ∀ f, m ρ f = .ok (.int n) f) :
    Ev (eIf (tB (eBin gNe (eFd i 0) (eLst (aNil)))) (eBin gIx (eFd i 0) (eBin gMod (eList gInt (aCons m (aNil))) (eList gLen (aCons (eFd i 0) (aNil))))) (eC (.int e0))) ρ isI := fun f hf => by
  obtain ⟨cells, x1, x2, x3⟩ := f
  cases hcs : cells with
  | nil => exact ⟨.int e0, _, (eIf_f (tB_ok (eBin_ok (eFd_ok h) (eLst_ok rfl (Nat.zero_le _)) rfl))).trans rfl, ⟨_, rfl⟩, by rw [hcs] at hf; exact hf⟩
  | cons c cs =>
    have hlen : (0 : Int) < ((c :: cs).map PyData.int).length := by rw [List.length_map, List.length_cons]; omega
    obtain ⟨x, ex, hx⟩ := atI_in (xs := (c :: cs).map PyData.int) (i := n % ((c :: cs).map PyData.int).length) (Int.emod_nonneg _ (by omega)) (Int.emod_lt_of_pos _ hlen)
    obtain ⟨y, _, rfl⟩ := List.mem_map.mp hx
    refine ⟨.int y, _, (eIf_t (tB_ok (eBin_ok (eFd_ok h) (eLst_ok rfl (Nat.zero_le _)) (gNe_nil _ _ (plain_ints (c :: cs)))))).trans ?_, ⟨_, rfl⟩, by rw [hcs] at hf; exact hf⟩
    exact eBin_ok (eFd_ok h) (eBin_ok (eList_ok (aCons_ok (hm _) rfl) (gInt_int n)) (eList_ok (aCons_ok (eFd_ok h) rfl) rfl) (gMod_pos hlen)) ex
end
end Mir

set_option Elab.async false
set_option linter.all false
set_option maxRecDepth 100000
set_option maxHeartbeats 4000000
namespace Mir
open PySem PySem.Spec PyProof.Rows L2
/-! ### drawn values, with what is known of the feed before and behind -/
def Hv {α : Type} (F F' : FS → Prop) (m : List Sl → FS → R α) (ρ : List Sl) (P : α → Prop) : Prop := ∀ f, F f → ∃ d f', m ρ f = .ok d f' ∧ P d ∧ F' f'
def HvF (F F' : FS → Prop) (mf : List D → FS → R D) (ds : List D) (P : D → Prop) : Prop := ∀ f, F f → ∃ d f', mf ds f = .ok d f' ∧ P d ∧ F' f'
/-- F': behind it; E: where it returns -/
def HvS (F F' E : FS → Prop) (m : MS) (ρ : List Sl) (N : List Sl → Prop) (P : D → Prop) : Prop := ∀ f, F f → (∃ ρ' f', m ρ f = .nx ρ' f' ∧ N ρ' ∧ F' f') ∨ ∃ d f', m ρ f = .ret d f' ∧ P d ∧ E f'
section
variable {ρ : List Sl} {F F1 F2 F3 : FS → Prop}
theorem Hv.mono {α : Type} {m : List Sl → FS → R α} {P Q : α → Prop} (h : Hv F F1 m ρ P) (k : ∀ d, P d → Q d) : Hv F F1 m ρ Q := fun f hf => by
  obtain ⟨d, f', e, p, hf'⟩ := h f hf
  exact ⟨d, f', e, k d p, hf'⟩
theorem Hv.to {α : Type} {m : List Sl → FS → R α} {P : α → Prop} (h : Hv F F1 m ρ P) (k : ∀ f, F1 f → F2 f) : Hv F F2 m ρ P := fun f hf => by
  obtain ⟨d, f', e, p, hf'⟩ := h f hf
  exact ⟨d, f', e, p, k f' hf'⟩
theorem HvF.mono {mf : List D → FS → R D} {ds : List D} {P Q : D → Prop} (h : HvF F F1 mf ds P) (k : ∀ d, P d → Q d) : HvF F F1 mf ds Q := fun f hf => by
  obtain ⟨d, f', e, p, hf'⟩ := h f hf
  exact ⟨d, f', e, k d p, hf'⟩
theorem HvF.to {mf : List D → FS → R D} {ds : List D} {P : D → Prop} (h : HvF F F1 mf ds P) (k : ∀ f, F1 f → F2 f) : HvF F F2 mf ds P := fun f hf => by
  obtain ⟨d, f', e, p, hf'⟩ := h f hf
  exact ⟨d, f', e, p, k f' hf'⟩
/-- what asks nothing of the feed and leaves it -/
theorem hv_p {α : Type} {m : List Sl → FS → R α} {d : α} {P : α → Prop} (h : ∀ f, m ρ f = .ok d f) (p : P d) : Hv F F m ρ P := fun f hf => ⟨d, f, h f, p, hf⟩
theorem hv_pe {α : Type} {m : List Sl → FS → R α} {P : α → Prop} (h : ∃ d, (∀ f, m ρ f = .ok d f) ∧ P d) : Hv F F m ρ P := let ⟨d, e, p⟩ := h; hv_p e p
theorem hv_c {d : D} : Hv F F (eC d) ρ (· = d) := fun f hf => ⟨d, f, rfl, rfl, hf⟩
theorem hv_var {i : Nat} {d : D} (h : ρ[i]? = some (.d d)) : Hv F F (eVar i) ρ (· = d) := fun f hf => ⟨d, f, eVar_ok h, rfl, hf⟩
theorem hv_bin {g : List D → Option D} {a b : ME} {P Q T : D → Prop} (ha : Hv F F1 a ρ P) (hb : Hv F1 F2 b ρ Q) (h : ∀ x y, P x → Q y → ∃ z, g [x, y] = some z ∧ T z) : Hv F F2 (eBin g a b) ρ T := fun f hf => by
  obtain ⟨x, f1, e1, p, hf1⟩ := ha f hf
  obtain ⟨y, f2, e2, q, hf2⟩ := hb f1 hf1
  obtain ⟨z, e3, t⟩ := h x y p q
  exact ⟨z, f2, eBin_ok e1 e2 e3, t, hf2⟩
theorem hv_un {g : List D → Option D} {a : ME} {P T : D → Prop} (ha : Hv F F1 a ρ P) (h : ∀ x, P x → ∃ z, g [x] = some z ∧ T z) : Hv F F1 (eUn g a) ρ T := fun f hf => by
  obtain ⟨x, f1, e1, p, hf1⟩ := ha f hf
  obtain ⟨z, e3, t⟩ := h x p
  exact ⟨z, f1, eUn_ok e1 e3, t, hf1⟩
theorem hv_list {g : List D → Option D} {ms : MA} {P : List D → Prop} {T : D → Prop} (ha : Hv F F1 ms ρ P) (h : ∀ xs, P xs → ∃ z, g xs = some z ∧ T z) : Hv F F1 (eList g ms) ρ T := fun f hf => by
  obtain ⟨x, f1, e1, p, hf1⟩ := ha f hf
  obtain ⟨z, e3, t⟩ := h x p
  exact ⟨z, f1, eList_ok e1 e3, t, hf1⟩
theorem hv_nil : Hv F F aNil ρ (· = []) := fun f hf => ⟨[], f, rfl, rfl, hf⟩
theorem hv_cons {m : ME} {ms : MA} {P : D → Prop} {Q : List D → Prop} (h : Hv F F1 m ρ P) (hs : Hv F1 F2 ms ρ Q) : Hv F F2 (aCons m ms) ρ (fun xs => ∃ d ds, xs = d :: ds ∧ P d ∧ Q ds) := fun f hf => by
  obtain ⟨x, f1, e1, p, hf1⟩ := h f hf
  obtain ⟨xs, f2, e2, q, hf2⟩ := hs f1 hf1
  exact ⟨x :: xs, f2, aCons_ok e1 e2, ⟨x, xs, rfl, p, q⟩, hf2⟩
theorem hv_one {m : ME} {P : D → Prop} (h : Hv F F1 m ρ P) : Hv F F1 (aCons m aNil) ρ (fun xs => ∃ d, xs = [d] ∧ P d) := (hv_cons h hv_nil).mono fun xs q => by
  obtain ⟨d, ds, rfl, p, rfl⟩ := q
  exact ⟨d, rfl, p⟩
theorem hv_tup {ms : MA} {P : List D → Prop} (h : Hv F F1 ms ρ P) (hl : ∀ xs, P xs → xs.length ≤ lim) : Hv F F1 (eTup ms) ρ (fun d => ∃ xs, d = .tuple xs ∧ P xs) := fun f hf => by
  obtain ⟨x, f1, e1, p, hf1⟩ := h f hf
  exact ⟨_, f1, eTup_ok e1 (hl x p), ⟨x, rfl, p⟩, hf1⟩
theorem hv_lst {ms : MA} {P : List D → Prop} (h : Hv F F1 ms ρ P) (hl : ∀ xs, P xs → xs.length ≤ lim) : Hv F F1 (eLst ms) ρ (fun d => ∃ xs, d = .list xs ∧ P xs) := fun f hf => by
  obtain ⟨x, f1, e1, p, hf1⟩ := h f hf
  exact ⟨_, f1, eLst_ok e1 (hl x p), ⟨x, rfl, p⟩, hf1⟩
theorem hv_aFd {i : Nat} {ms : MA} {P : List D → Prop} (hi : ρ[i]? = some .fd) (h : Hv F F1 ms ρ P) : Hv F F1 (aFd i ms) ρ P := fun f hf => by
  rw [aFd_ok hi]
  exact h f hf
theorem hv_callF {mf : List D → FS → R D} {ms : MA} {P : List D → Prop} {T : D → Prop} (h : Hv F F1 ms ρ P) (hm : ∀ xs, P xs → HvF F1 F2 mf xs T) : Hv F F2 (eCall true mf ms) ρ T := fun f hf => by
  obtain ⟨x, f1, e1, p, hf1⟩ := h f hf
  obtain ⟨d, f2, e2, t, hf2⟩ := hm x p f1 hf1
  exact ⟨d, f2, eCall_fd e1 e2, t, hf2⟩
theorem hv_call {mf : List D → FS → R D} {ms : MA} {P : List D → Prop} {T : D → Prop} (h : Hv F F1 ms ρ P) (hm : ∀ xs, P xs → HvF F1 F2 mf xs T) : Hv F F1 (eCall false mf ms) ρ T := fun f hf => by
  obtain ⟨x, f1, e1, p, hf1⟩ := h f hf
  obtain ⟨d, f2, e2, t, hf2⟩ := hm x p f1 hf1
  exact ⟨d, f1, eCall_ff e1 e2, t, hf1⟩
theorem hv_tB {m : ME} {P : Bool → Prop} (h : Hv F F1 m ρ (fun d => ∃ b, d = .bool b ∧ P b)) : Hv F F1 (tB m) ρ P := fun f hf => by
  obtain ⟨x, f1, e1, ⟨b, rfl, p⟩, hf1⟩ := h f hf
  exact ⟨b, f1, tB_ok e1, p, hf1⟩
theorem hv_if {t : MB} {a b : ME} {C : Bool → Prop} {P : D → Prop} (ht : Hv F F1 t ρ C) (ha : C true → Hv F1 F2 a ρ P) (hb : C false → Hv F1 F2 b ρ P) : Hv F F2 (eIf t a b) ρ P := fun f hf => by
  obtain ⟨c, f1, e1, p, hf1⟩ := ht f hf
  cases c with
  | true =>
    obtain ⟨d, f2, e2, q⟩ := ha p f1 hf1
    exact ⟨d, f2, (eIf_t e1).trans e2, q⟩
  | false =>
    obtain ⟨d, f2, e2, q⟩ := hb p f1 hf1
    exact ⟨d, f2, (eIf_f e1).trans e2, q⟩
theorem hv_and {a b : MB} (ha : Hv F F a ρ fun _ => True) (hb : Hv F F b ρ fun _ => True) : Hv F F (bAnd a b) ρ fun _ => True := fun f hf => by
  obtain ⟨c, f1, e1, _, hf1⟩ := ha f hf
  cases c with
  | false => exact ⟨false, f1, bAnd_f e1, trivial, hf1⟩
  | true =>
    obtain ⟨d, f2, e2, _, q⟩ := hb f1 hf1
    exact ⟨d, f2, (bAnd_t e1).trans e2, trivial, q⟩
theorem hv_args {g : List D → Option (List D)} {ms : MA} {P Q : List D → Prop} (h : Hv F F1 ms ρ P) (k : ∀ xs, P xs → ∃ ys, g xs = some ys ∧ Q ys) : Hv F F1 (iArgs g ms) ρ Q := fun f hf => by
  obtain ⟨xs, f1, e1, p, hf1⟩ := h f hf
  obtain ⟨ys, e2, q⟩ := k xs p
  refine ⟨ys, f1, ?_, q, hf1⟩
  unfold iArgs
  rw [e1, R.bind_ok, e2]
  rfl
theorem hv_seq {m : ME} {P : D → Prop} {Q : List D → Prop} (h : Hv F F1 m ρ P) (k : ∀ d, P d → ∃ ys, itemsD d = some ys ∧ Q ys) : Hv F F1 (iSeq m) ρ Q := fun f hf => by
  obtain ⟨d, f1, e1, p, hf1⟩ := h f hf
  obtain ⟨ys, e2, q⟩ := k d p
  exact ⟨ys, f1, iSeq_ok e1 e2, q, hf1⟩
/-! statements -/
variable {N : List Sl → Prop} {P : D → Prop} {E : FS → Prop}
theorem hvs_seq {a b : MS} {M : List Sl → Prop} (ha : HvS F F1 E a ρ M P) (hb : ∀ ρ', M ρ' → HvS F1 F2 E b ρ' N P) : HvS F F2 E (sSeq a b) ρ N P := fun f hf => by
  rcases ha f hf with ⟨ρ', f1, e1, m, hf1⟩ | ⟨d, f1, e1, q⟩
  · rw [sSeq_nx e1]
    exact hb ρ' m f1 hf1
  · exact .inr ⟨d, f1, sSeq_ret e1, q⟩
theorem hvs_skip (h : N ρ) : HvS F F E sSkip ρ N P := fun f hf => .inl ⟨ρ, f, rfl, h, hf⟩
theorem HvS.mono {a : MS} {M : List Sl → Prop} (h : HvS F F1 E a ρ M P) (k : ∀ ρ', M ρ' → N ρ') : HvS F F1 E a ρ N P := fun f hf => by
  rcases h f hf with ⟨ρ', f1, e1, m, hf1⟩ | q
  · exact .inl ⟨ρ', f1, e1, k ρ' m, hf1⟩
  · exact .inr q
theorem HvS.to {a : MS} (h : HvS F F1 E a ρ N P) (k : ∀ f, F1 f → F2 f) : HvS F F2 E a ρ N P := fun f hf => by
  rcases h f hf with ⟨ρ', f1, e1, m, hf1⟩ | q
  · exact .inl ⟨ρ', f1, e1, m, k f1 hf1⟩
  · exact .inr q
theorem hvs_set {i : Nat} {m : ME} {Q : D → Prop} (h : Hv F F1 m ρ Q) (k : ∀ d, Q d → N (ρ.set i (.d d))) : HvS F F1 E (sSet i m) ρ N P := fun f hf => by
  obtain ⟨d, f1, e1, q, hf1⟩ := h f hf
  exact .inl ⟨_, f1, sSet_ok e1, k d q, hf1⟩
theorem hvs_ret {m : ME} (h : Hv F E m ρ P) : HvS F F1 E (sRet m) ρ N P := fun f hf => by
  obtain ⟨d, f1, e1, q, hf1⟩ := h f hf
  exact .inr ⟨d, f1, sRet_ok e1, q, hf1⟩
theorem hvs_if {t : MB} {a b : MS} {C : Bool → Prop} (ht : Hv F F1 t ρ C) (ha : C true → HvS F1 F2 E a ρ N P) (hb : C false → HvS F1 F2 E b ρ N P) : HvS F F2 E (sIf t a b) ρ N P := fun f hf => by
  obtain ⟨c, f1, e1, p, hf1⟩ := ht f hf
  cases c with
  | true => rw [sIf_t e1]; exact ha p f1 hf1
  | false => rw [sIf_f e1]; exact hb p f1 hf1
theorem hvs_asg {mg : MG} {m : ME} {Q : D → Prop} (h : Hv F F1 m ρ Q) (k : ∀ d, Q d → ∃ ρ', mg d ρ = some ρ' ∧ N ρ') : HvS F F1 E (sAsg mg m) ρ N P := fun f hf => by
  obtain ⟨d, f1, e1, q, hf1⟩ := h f hf
  obtain ⟨ρ', e2, n⟩ := k d q
  refine .inl ⟨ρ', f1, ?_, n, hf1⟩
  unfold sAsg
  rw [e1]
  show (match mg d ρ with | some ρ' => SR.nx ρ' f1 | none => SR.bad) = _
  rw [e2]
theorem hvs_par {i j : Nat} {ms : MA} {Q : D → D → Prop} (h : Hv F F1 ms ρ (fun xs => ∃ d e, xs = [d, e] ∧ Q d e)) (k : ∀ d e, Q d e → N ((ρ.set i (.d d)).set j (.d e))) : HvS F F1 E (sPar i j ms) ρ N P := fun f hf => by
  obtain ⟨xs, f1, e1, ⟨d, e, rfl, q⟩, hf1⟩ := h f hf
  exact .inl ⟨_, f1, sPar_ok e1, k d e q, hf1⟩
/-- what leaves the feed and goes on to a known state -/
theorem hvs_p {a : MS} {ρ' : List Sl} (h : ∀ f, a ρ f = .nx ρ' f) (n : N ρ') : HvS F F E a ρ N P := fun f hf => .inl ⟨ρ', f, h f, n, hf⟩
theorem hvF_of {n np : Nat} {ff : Bool} {m : MS} {ds : List D} (hl : ds.length = np) (h : HvS F F1 E m (entry n ff ds) (fun _ => False) P) : HvF F E (mfun n np ff m) ds P := fun f hf => by
  rcases h f hf with ⟨_, _, _, q, _⟩ | ⟨d, f1, e1, q⟩
  · exact q.elim
  · exact ⟨d, f1, mfun_ret hl e1, q⟩
/-- a loop, by the number of turns done; what it walks may be drawn -/
theorem hvs_for {mi : MA} {mg : MG} {body : MS} {C : List D → Prop} {J : List D → Nat → List Sl → Prop} {FF : Nat → FS → Prop} (hi : Hv F (FF 0) mi ρ C) (h0 : ∀ ds, C ds → J ds 0 ρ)
    (hb : ∀ ds, C ds → ∀ k d ρ', k < ds.length → ds[k]? = some d → J ds k ρ' → ∃ ρ1, mg d ρ' = some ρ1 ∧ HvS (FF k) (FF (k + 1)) E body ρ1 (J ds (k + 1)) P)
    (hN : ∀ ds, C ds → ∀ ρ', J ds ds.length ρ' → N ρ') (hF : ∀ ds, C ds → ∀ f, FF ds.length f → F2 f) : HvS F F2 E (sFor mi mg body) ρ N P := fun f hf => by
  obtain ⟨ds, f1, e1, c, hf1⟩ := hi f hf
  have go : ∀ (es : List D) (k : Nat) (ρ' : List Sl) (f : FS), (∀ i, es[i]? = ds[k + i]?) → k + es.length = ds.length → J ds k ρ' → FF k f → (∃ ρ2 f', forLoop mg body es ρ' f = .nx ρ2 f' ∧ N ρ2 ∧ F2 f') ∨ ∃ d f', forLoop mg body es ρ' f = .ret d f' ∧ P d ∧ E f' := by
    intro es
    induction es with
    | nil =>
      intro k ρ' f _ hk hj hf
      rw [List.length_nil, Nat.add_zero] at hk
      subst hk
      exact .inl ⟨ρ', f, rfl, hN ds c ρ' hj, hF ds c f hf⟩
    | cons e es ih =>
      intro k ρ' f he hk hj hf
      have hlt : k < ds.length := by rw [List.length_cons] at hk; omega
      obtain ⟨ρ1, m1, q⟩ := hb ds c k e ρ' hlt (by rw [← Nat.add_zero k, ← he 0]; rfl) hj
      rcases q f hf with ⟨ρ2, f2, e2, j2, hf2⟩ | ⟨d, f2, e2, q2⟩
      · rw [for_nx1 m1 e2]
        exact ih (k + 1) ρ2 f2 (fun i => by have := he (i + 1); rw [List.getElem?_cons_succ] at this; rw [this, show k + (i + 1) = k + 1 + i by omega]) (by rw [List.length_cons] at hk; omega) j2 hf2
      · exact .inr ⟨d, f2, for_ret1 m1 e2, q2⟩
  have := go ds 0 ρ f1 (fun i => by rw [Nat.zero_add]) (Nat.zero_add _) (h0 ds c) hf1
  unfold sFor
  rw [e1]
  exact this
end
/-! ### numbers -/
section
variable {ρ : List Sl} {a b : ME} {F F1 F2 : FS → Prop}
theorem hv_i {d : D} {m : ME} (h : Hv F F1 m ρ (· = d)) (hd : isI d) : Hv F F1 m ρ isI := h.mono fun x e => e ▸ hd
theorem hv_ci {c : Int} : Hv F F (eC (.int c)) ρ isI := hv_i hv_c ⟨c, rfl⟩
theorem hv_int (h : Hv F F1 a ρ isI) : Hv F F1 (eList gInt (aCons a aNil)) ρ isI := hv_list (hv_one h) fun xs q => by
  obtain ⟨d, rfl, ⟨i, rfl⟩⟩ := q
  exact ⟨_, gInt_int i, i, rfl⟩
theorem hv_add (ha : Hv F F1 a ρ isI) (hb : Hv F1 F2 b ρ isI) : Hv F F2 (eBin gAdd a b) ρ isI := hv_bin ha hb fun x y hx hy => by
  obtain ⟨i, rfl⟩ := hx
  obtain ⟨j, rfl⟩ := hy
  exact ⟨_, gAdd_int i j, _, rfl⟩
theorem hv_mod {p : Int} (ha : Hv F F1 a ρ isI) (hb : Hv F1 F2 b ρ (· = .int p)) (hp : 0 < p) : Hv F F2 (eBin gMod a b) ρ (IntIn p) := hv_bin ha hb fun x y hx hy => by
  obtain ⟨i, rfl⟩ := hx
  subst hy
  exact ⟨_, gMod_pos hp, _, rfl, Int.emod_nonneg _ (by omega), Int.emod_lt_of_pos _ hp⟩
theorem hv_fdiv {p : Int} (ha : Hv F F1 a ρ isI) (hb : Hv F1 F2 b ρ (· = .int p)) (hp : 0 < p) (h2 : p < 1073741824) : Hv F F2 (eBin gFDiv a b) ρ isI := hv_bin ha hb fun x y hx hy => by
  obtain ⟨i, rfl⟩ := hx
  subst hy
  exact ⟨_, gFDiv_pos hp h2, _, rfl⟩
theorem hv_cmp {g : List D → Option D} (hg : ∀ i j : Int, ∃ b, g [.int i, .int j] = some (.bool b)) (ha : Hv F F1 a ρ isI) (hb : Hv F1 F2 b ρ isI) : Hv F F2 (tB (eBin g a b)) ρ fun _ => True := hv_tB (hv_bin ha hb fun x y hx hy => by
  obtain ⟨i, rfl⟩ := hx
  obtain ⟨j, rfl⟩ := hy
  obtain ⟨c, e⟩ := hg i j
  exact ⟨_, e, _, rfl, trivial⟩)
theorem hv_gt (ha : Hv F F1 a ρ isI) (hb : Hv F1 F2 b ρ isI) : Hv F F2 (tB (eBin gGt a b)) ρ fun _ => True := hv_cmp (fun i j => ⟨_, gGt_int i j⟩) ha hb
theorem hv_ge (ha : Hv F F1 a ρ isI) (hb : Hv F1 F2 b ρ isI) : Hv F F2 (tB (eBin gGe a b)) ρ fun _ => True := hv_cmp (fun i j => ⟨_, gGe_int i j⟩) ha hb
theorem hv_lt (ha : Hv F F1 a ρ isI) (hb : Hv F1 F2 b ρ isI) : Hv F F2 (tB (eBin gLt a b)) ρ fun _ => True := hv_cmp (fun i j => ⟨_, gLt_int i j⟩) ha hb
theorem hv_fd {i k : Nat} (h : ρ[i]? = some .fd) (hk : k ≠ 0) : Hv F F (eFd i k) ρ isI := fun f hf => ⟨_, f, eFd_ok h, by
  match k, hk with
  | 1, _ => exact ⟨_, rfl⟩
  | 2, _ => exact ⟨_, rfl⟩
  | _ + 3, _ => exact ⟨_, rfl⟩, hf⟩
/-- a number between bounds -/
def IntB (lo hi : Int) (d : D) : Prop := ∃ r, d = .int r ∧ lo ≤ r ∧ r ≤ hi
theorem IntB.i {lo hi : Int} {d : D} (h : IntB lo hi d) : isI d := let ⟨r, e, _⟩ := h; ⟨r, e⟩
theorem IntIn.bnd {m : Int} {d : D} (h : IntIn m d) : IntB 0 (m - 1) d := let ⟨r, e, h1, h2⟩ := h; ⟨r, e, h1, by omega⟩
theorem hv_addB {l1 h1 l2 h2 : Int} (ha : Hv F F1 a ρ (IntB l1 h1)) (hb : Hv F1 F2 b ρ (IntB l2 h2)) : Hv F F2 (eBin gAdd a b) ρ (IntB (l1 + l2) (h1 + h2)) := hv_bin ha hb fun x y hx hy => by
  obtain ⟨i, rfl, q1, q2⟩ := hx
  obtain ⟨j, rfl, q3, q4⟩ := hy
  exact ⟨_, gAdd_int i j, _, rfl, by omega, by omega⟩
theorem hv_cB {c : Int} : Hv F F (eC (.int c)) ρ (IntB c c) := hv_c.mono fun d e => e ▸ ⟨c, rfl, Int.le_refl _, Int.le_refl _⟩
theorem hv_c0 {c : Int} (h : 0 ≤ c) : Hv F F (eC (.int c)) ρ (IntB 0 c) := hv_c.mono fun d e => e ▸ ⟨c, rfl, h, Int.le_refl _⟩
theorem hv_mulB {h1 h2 : Int} (ha : Hv F F1 a ρ (IntB 0 h1)) (hb : Hv F1 F2 b ρ (IntB 0 h2)) (hs : h1 < 2 ^ 64) : Hv F F2 (eBin gMul a b) ρ (IntB 0 (h1 * h2)) := hv_bin ha hb fun x y hx hy => by
  obtain ⟨i, rfl, q1, q2⟩ := hx
  obtain ⟨j, rfl, q3, q4⟩ := hy
  exact ⟨_, gMul_l (by omega) (by omega), _, rfl, Int.mul_nonneg q1 q3, Int.mul_le_mul q2 q4 q3 (by omega)⟩
theorem gPow_ok {i : Int} {k : Int} (h : -(2 ^ 64) < i) (h2 : i < 2 ^ 64) (h3 : 0 ≤ k) (h4 : k ≤ 1000000) : gPow [.int i, .int k] = some (.int (i ^ k.toNat)) := by
  unfold gPow
  dsimp only
  rw [decide_eq_true h3, decide_eq_true h4, decide_eq_true (show i.natAbs < 2 ^ 64 by omega)]
  rfl
theorem hv_powB {h1 k : Int} (ha : Hv F F1 a ρ (IntB 0 h1)) (hs : h1 < 2 ^ 64) (h3 : 0 ≤ k) (h4 : k ≤ 1000000) : Hv F F1 (eBin gPow a (eC (.int k))) ρ isI := hv_bin ha hv_c fun x y hx hy => by
  obtain ⟨i, rfl, q1, q2⟩ := hx
  subst hy
  exact ⟨_, gPow_ok (by omega) (by omega) h3 h4, _, rfl⟩
end
/-! ### at most n were drawn -/
def FN (n : Nat) (f : FS) : Prop := FOk f ∧ 0 ≤ f.drawn ∧ f.drawn ≤ n
theorem FN.le {n m : Nat} (h : n ≤ m) : ∀ f, FN n f → FN m f := fun f q => ⟨q.1, q.2.1, by have := q.2.2; omega⟩
section
variable {ρ : List Sl} {n : Nat} {E : FS → Prop}
theorem hvs_put {i k : Nat} {m : ME} {P : D → Prop} (h : ρ[i]? = some .fd) (hk : k = 1 ∨ k = 2) (hm : Hv (FN n) (FN n) m ρ isI) : HvS (FN n) (FN n) E (sFdPut i k m) ρ (fun ρ' => ρ' = ρ) P := fun f hf => by
  obtain ⟨d, f1, e, ⟨z, rfl⟩, hf1⟩ := hm f hf
  rcases hk with rfl | rfl
  · exact .inl ⟨ρ, _, sFdPut_ok e h rfl, rfl, hf1⟩
  · exact .inl ⟨ρ, _, sFdPut_ok e h rfl, rfl, hf1⟩
/-- i = feed[count] + 1; feed[count] = i -/
theorem hvs_count {i j : Nat} {rest : MS} {N : List Sl → Prop} {P : D → Prop} (h : ρ[i]? = some .fd) (hij : j ≠ i) (hj : j < ρ.length) (k : ∀ z : Int, 1 ≤ z → z ≤ n + 1 → HvS (FN (n + 1)) (FN (n + 1)) E rest (ρ.set j (.d (.int z))) N P) :
    HvS (FN n) (FN (n + 1)) E (sSeq (sSet j (eBin gAdd (eFd i 3) (eC (.int 1)))) (sSeq (sFdPut i 3 (eVar j)) rest)) ρ N P := fun f hf => by
  obtain ⟨h1, h2, h3⟩ := hf
  rw [sSeq_nx (sSet_ok (eBin_ok (eFd_ok h) rfl (gAdd_int f.drawn 1)))]
  rw [sSeq_nx (sFdPut_ok (n := f.drawn + 1) (f1 := f) (f2 := { f with drawn := f.drawn + 1 }) (eVar_ok (by rw [List.getElem?_set]; simp [hj])) (by rw [List.getElem?_set_ne hij]; exact h) rfl)]
  exact k _ (by omega) (by omega) _ ⟨h1, by show 0 ≤ f.drawn + 1; omega, by show f.drawn + 1 ≤ ((n + 1 : Nat) : Int); omega⟩
theorem hv_cellsN {i : Nat} {d : D} (h : ρ[i]? = some (.d d)) (hd : ∃ cs : List Int, d = .list (cs.map .int) ∧ cs.length ≤ 63) : Hv (FN n) (FN n) (eList gLen (aCons (eVar i) aNil)) ρ isI := by
  obtain ⟨cs, rfl, hl⟩ := hd
  exact hv_p (d := .int (((cs.map PyData.int).length : Nat) : Int)) (fun f => eList_ok (aCons_ok (eVar_ok h) rfl) rfl) ⟨_, rfl⟩
/-- one of the cells, read before -/
theorem hv_cellV {F : FS → Prop} {i : Nat} {e0 : Int} {m : ME} {cs : List Int} (h : ρ[i]? = some (.d (.list (cs.map .int)))) (hl : cs.length ≤ 63) (z : Int) (hm : ∀ f, m ρ f = .ok (.int z) f) :
    Hv F F (eIf (tB (eBin gNe (eVar i) (eLst (aNil)))) (eBin gIx (eVar i) (eBin gMod (eList gInt (aCons m (aNil))) (eList gLen (aCons (eVar i) (aNil))))) (eC (.int e0))) ρ isI := fun f hf => by
  cases cs with
  | nil => exact ⟨.int e0, f, (eIf_f (tB_ok (eBin_ok (eVar_ok h) (eLst_ok rfl (Nat.zero_le _)) rfl))).trans rfl, ⟨_, rfl⟩, hf⟩
  | cons c cs =>
    have hlen : (0 : Int) < ((c :: cs).map PyData.int).length := by rw [List.length_map, List.length_cons]; omega
    have hl2 : ((c :: cs).map PyData.int).length ≤ lim := by rw [List.length_map]; have : lim = 100000 := rfl; omega
    obtain ⟨x, ex, hx⟩ := atI_in (xs := (c :: cs).map PyData.int) (i := z % ((c :: cs).map PyData.int).length) (Int.emod_nonneg _ (by omega)) (Int.emod_lt_of_pos _ hlen)
    obtain ⟨y, _, rfl⟩ := List.mem_map.mp hx
    refine ⟨.int y, f, (eIf_t (tB_ok (eBin_ok (eVar_ok h) (eLst_ok rfl (Nat.zero_le _)) (gNe_nil _ _ (plain_ints (c :: cs)))))).trans ?_, ⟨_, rfl⟩, hf⟩
    exact eBin_ok (eVar_ok h) (eBin_ok (eList_ok (aCons_ok (hm _) rfl) (gInt_int z)) (eList_ok (d := .int (((c :: cs).map PyData.int).length : Nat)) (aCons_ok (eVar_ok h) rfl) rfl) (gMod_pos hlen)) ex
end
end Mir

set_option Elab.async false
set_option linter.all false
set_option maxRecDepth 100000
set_option maxHeartbeats 4000000
namespace Mir
open PySem PySem.Spec PyProof.Rows L2
/-! ### comprehensions, more closely -/
/-- two lists, element by element -/
inductive A2 {α β : Type} (R : α → β → Prop) : List α → List β → Prop where
  | nil : A2 R [] []
  | cons {a b as bs} : R a b → A2 R as bs → A2 R (a :: as) (b :: bs)
theorem A2.length {α β : Type} {R : α → β → Prop} : ∀ {as : List α} {bs : List β}, A2 R as bs → bs.length = as.length
  | _, _, .nil => rfl
  | _, _, .cons _ h => by rw [List.length_cons, List.length_cons, h.length]
theorem A2.mem {α β : Type} {R : α → β → Prop} : ∀ {as : List α} {bs : List β}, A2 R as bs → ∀ b ∈ bs, ∃ a ∈ as, R a b
  | _, _, .nil, b, hb => nomatch hb
  | _, _, .cons h k, b, hb => by
    rcases List.mem_cons.mp hb with rfl | hb
    · exact ⟨_, List.mem_cons_self, h⟩
    · obtain ⟨a, ha, q⟩ := k.mem b hb
      exact ⟨a, List.mem_cons_of_mem _ ha, q⟩
theorem A2.map {α β γ : Type} {R : α → β → Prop} {f : α → γ} {g : β → γ} (h : ∀ a b, R a b → g b = f a) : ∀ {as : List α} {bs : List β}, A2 R as bs → bs.map g = as.map f
  | _, _, .nil => rfl
  | _, _, .cons r k => by rw [List.map_cons, List.map_cons, h _ _ r, k.map h]
theorem comp_rel {i : Nat} {me : ME} {ρ : List Sl} {Rr : D → D → Prop} {F : FS → Prop} : ∀ (ds acc : List D) (f : FS), F f → (∀ d ∈ ds, ∀ f, F f → ∃ y f', me (ρ.set i (.d d)) f = .ok y f' ∧ Rr d y ∧ F f') →
    ∃ ys f', compLoop (gmName i) bYes me ds ρ f acc = .ok (acc ++ ys) f' ∧ A2 Rr ds ys ∧ F f'
  | [], acc, f, hf, _ => ⟨[], f, by rw [List.append_nil]; rfl, .nil, hf⟩
  | d :: ds, acc, f, hf, h => by
    obtain ⟨y, f1, e, hp, hf1⟩ := h d List.mem_cons_self f hf
    obtain ⟨ys, f2, e2, hl, hf2⟩ := comp_rel ds (acc ++ [y]) f1 hf1 fun d' hd => h d' (List.mem_cons_of_mem _ hd)
    refine ⟨y :: ys, f2, ?_, .cons hp hl, hf2⟩
    unfold compLoop
    simp only [gmName, bYes, noX, R.bind_ok, if_true, e]
    rw [e2, List.append_assoc]
    rfl
theorem comp_keep {i : Nat} {mt : MB} {ρ : List Sl} {F : FS → Prop} {Kp : D → Prop} (hi : i < ρ.length) : ∀ (ds acc : List D) (f : FS), F f → (∀ d ∈ ds, ∀ f, F f → ∃ b f', mt (ρ.set i (.d d)) f = .ok b f' ∧ (Kp d → b = true) ∧ F f') →
    ∃ ys f', compLoop (gmName i) mt (eVar i) ds ρ f acc = .ok (acc ++ ys) f' ∧ ys.Sublist ds ∧ (∀ d ∈ ds, Kp d → d ∈ ys) ∧ F f'
  | [], acc, f, hf, _ => ⟨[], f, by rw [List.append_nil]; rfl, .slnil, (fun d hd => nomatch hd), hf⟩
  | d :: ds, acc, f, hf, h => by
    have hv : ∀ f, eVar i (ρ.set i (.d d)) f = .ok d f := fun f => by unfold eVar; rw [List.getElem?_set_self hi]
    obtain ⟨b, f1, e, hk, hf1⟩ := h d List.mem_cons_self f hf
    have h' := fun d' hd => h d' (List.mem_cons_of_mem d hd)
    cases b with
    | true =>
      obtain ⟨ys, f2, e2, hs, hk2, hf2⟩ := comp_keep hi ds (acc ++ [d]) f1 hf1 h'
      refine ⟨d :: ys, f2, ?_, hs.cons₂ d, fun x hx q => ?_, hf2⟩
      · unfold compLoop
        simp only [gmName, noX, R.bind_ok, e, hv, if_true]
        rw [e2, List.append_assoc]
        rfl
      · rcases List.mem_cons.mp hx with rfl | hx
        · exact List.mem_cons_self
        · exact List.mem_cons_of_mem _ (hk2 x hx q)
    | false =>
      obtain ⟨ys, f2, e2, hs, hk2, hf2⟩ := comp_keep hi ds acc f1 hf1 h'
      refine ⟨ys, f2, ?_, hs.cons d, fun x hx q => ?_, hf2⟩
      · unfold compLoop
        simp only [gmName, noX, R.bind_ok, e]
        rw [if_neg (by simp), e2]
      · rcases List.mem_cons.mp hx with rfl | hx
        · exact absurd (hk q) (by simp)
        · exact hk2 x hx q
section
variable {ρ : List Sl}
theorem ev_compR {i : Nat} {mi : MA} {me : ME} {C : List D → Prop} {Rr : D → D → Prop} (hi : Ev mi ρ C) (hl : ∀ ds, C ds → ds.length ≤ lim) (hw : okW ρ [i] = true) (he : ∀ ds, C ds → ∀ d ∈ ds, Ev me ((wipeR ρ [i]).set i (.d d)) (Rr d)) :
    Ev (eComp [i] mi (gmName i) bYes me) ρ (fun d => ∃ ds ys, C ds ∧ d = .list ys ∧ A2 Rr ds ys) := fun f hf => by
  obtain ⟨ds, f1, e1, c, hf1⟩ := hi f hf
  obtain ⟨ys, f2, e2, h2, hf2⟩ := comp_rel (F := FOk) (Rr := Rr) ds [] f1 hf1 fun d hd f hf => he ds c d hd f hf
  exact ⟨.list ys, f2, eComp_ok e1 (hl ds c) hw (by rw [e2, List.nil_append]), ⟨ds, ys, c, rfl, h2⟩, hf2⟩
theorem ev_keep {i : Nat} {mi : MA} {mt : MB} {C : List D → Prop} {Kp : D → Prop} (hlen : i < (wipeR ρ [i]).length) (hi : Ev mi ρ C) (hl : ∀ ds, C ds → ds.length ≤ lim) (hw : okW ρ [i] = true) (ht : ∀ ds, C ds → ∀ d ∈ ds, Ev mt ((wipeR ρ [i]).set i (.d d)) fun b => Kp d → b = true) :
    Ev (eComp [i] mi (gmName i) mt (eVar i)) ρ (fun d => ∃ ds ys, C ds ∧ d = .list ys ∧ ys.Sublist ds ∧ ∀ d ∈ ds, Kp d → d ∈ ys) := fun f hf => by
  obtain ⟨ds, f1, e1, c, hf1⟩ := hi f hf
  obtain ⟨ys, f2, e2, h2, h3, hf2⟩ := comp_keep (F := FOk) (Kp := Kp) hlen ds [] f1 hf1 fun d hd f hf => by
    obtain ⟨b, f', e, k, q⟩ := ht ds c d hd f hf
    exact ⟨b, f', e, k, q⟩
  exact ⟨.list ys, f2, eComp_ok e1 (hl ds c) hw (by rw [e2, List.nil_append]), ⟨ds, ys, c, rfl, h2, h3⟩, hf2⟩
theorem ev_orT {a b : MB} {K : Prop} {A : Bool → Prop} (ha : Ev a ρ A) (hb : Ev b ρ fun _ => True) (hk : K → ∀ x, A x → x = true) : Ev (bOr a b) ρ fun c => K → c = true := fun f hf => by
  obtain ⟨c, f1, e1, p, hf1⟩ := ha f hf
  cases c with
  | true => exact ⟨true, f1, bOr_t e1, fun _ => rfl, hf1⟩
  | false =>
    obtain ⟨d, f2, e2, _, q⟩ := hb f1 hf1
    exact ⟨d, f2, (bOr_f e1).trans e2, fun k => absurd (hk k _ p) (by simp), q⟩
end
/-! ### ascending -/
def ascP (xs : List D) : Prop := xs.Pairwise fun a b => PySem.W.dataLt a b = true
theorem range_ascP (n : Nat) : ascP (rangeD 0 n) := by
  unfold ascP rangeD
  rw [List.pairwise_map]
  refine List.Pairwise.imp (fun {a b} h => ?_) (List.pairwise_lt_range (n := n))
  rw [PySem.W.dataLt_int, decide_eq_true_eq]
  omega
theorem sorted_ascP (ps : List (Str × Str)) (nd : ps.Nodup) : ascP ((ps.mergeSort (PySem.W.dataLe false pairD)).map pairD) := by
  have pm := List.mergeSort_perm ps (PySem.W.dataLe false pairD)
  have nd2 : (ps.mergeSort (PySem.W.dataLe false pairD)).Nodup := pm.nodup_iff.mpr nd
  have pw := List.pairwise_mergeSort (le := PySem.W.dataLe false pairD) (dle_trans (k := pairD)) (dle_total (k := pairD)) ps
  unfold ascP
  rw [List.pairwise_map]
  refine List.Pairwise.imp (fun {a b} h => ?_) (pw.and nd2)
  obtain ⟨h1, h2⟩ := h
  show tlt (pairD a) (pairD b) = true
  cases e : tlt (pairD a) (pairD b) with
  | true => rfl
  | false =>
    rw [dle_iff] at h1
    exact absurd (pairD_toks (PyProof.Rows.lex_total _ _ e h1)) h2
end Mir

set_option Elab.async false
set_option linter.all false
set_option maxRecDepth 100000
set_option maxHeartbeats 4000000
namespace Mir
open PySem PySem.Spec PyProof.Rows L2 TL
/-! ### what a small value's parts are -/
theorem smT {xs : List D} (h : small (.tuple xs) = true) : PyData.plainAll xs = true := smalls_plain _ (small_tup h).2
theorem sm_all {xs : List D} (h : smalls xs = true) : ∀ x ∈ xs, x.plain = true := fun x hx => small_plain x (smalls_mem h hx)
theorem sm1 {a : D} {xs : List D} (h : small (.tuple (a :: xs)) = true) : a.plain = true := sm_all (small_tup h).2 _ (by simp)
theorem sm2 {a b : D} {xs : List D} (h : small (.tuple (a :: b :: xs)) = true) : b.plain = true := sm_all (small_tup h).2 _ (by simp)
theorem sm3 {a b c : D} {xs : List D} (h : small (.tuple (a :: b :: c :: xs)) = true) : c.plain = true := sm_all (small_tup h).2 _ (by simp)
theorem smTl {a : D} {xs : List D} (h : small (.tuple (a :: xs)) = true) : PyData.plainAll xs = true := by
  have := smT h
  simp only [PyData.plainAll, Bool.and_eq_true] at this
  exact this.2
theorem pl_filter {p : D → Bool} : ∀ {xs : List D}, PyData.plainAll xs = true → PyData.plainAll (xs.filter p) = true
  | [], _ => rfl
  | x :: xs, h => by
    simp only [PyData.plainAll, Bool.and_eq_true] at h
    cases q : p x with
    | true => rw [List.filter_cons_of_pos q]; simp only [PyData.plainAll, h.1, pl_filter h.2, Bool.and_self]
    | false => rw [List.filter_cons_of_neg (by simp [q])]; exact pl_filter h.2
theorem pl_signs (z : Str) : PyData.plainAll (signsD z) = true := by
  unfold signsD
  induction z.cps.toList with
  | nil => rfl
  | cons c cs ih => rw [List.map_cons]; simp only [PyData.plainAll, PyData.plain, ih, Bool.and_self]
theorem pl_range (lo : Int) (n : Nat) : PyData.plainAll (rangeD lo n) = true := by
  unfold rangeD
  induction List.range n with
  | nil => rfl
  | cons c cs ih => rw [List.map_cons]; simp only [PyData.plainAll, PyData.plain, ih, Bool.and_self]
/-! ### what the predicates tell -/
def pInt : D → Bool
  | .int _ => true
  | _ => false
def pNum : D → Bool
  | .int i => decide (0 ≤ i)
  | _ => false
def letters : List Nat := ("abcdefghijklmnopqrstuvwxyz" : Str).cps.toList
variable {f : FS}
theorem ge0 {d : D} (h : pInt d = true) : gGe [d, .int 0] = some (.bool (pNum d)) := by
  cases d <;> first | exact gGe_int _ _ | cases h
/-! names -/
def pName : D → Bool
  | .str z => decide (1 ≤ z.length) && decide (z.length ≤ 8) && z.cps.toList.all fun c => decide (c ∈ letters)
  | _ => false
theorem in_letters (c : Nat) : gIn [.str ⟨#[c]⟩, c_LETTERS] = some (.bool (decide (c ∈ letters))) := rfl
theorem t_is_name (d : D) (hd : ∀ z, d = .str z → z.length ≤ lim) : f_is_name [d] f = .ok (.bool (pName d)) f := by
  have g1 : bNot (tT (eUn (gIsI "str") (eVar 0))) [.d d, .no] f = .ok (!d.isStr) f := bNot_ok (tT_ok (isI_ok rfl (b := d.isStr) rfl) rfl)
  cases d with
  | str z =>
    have hz := hd z rfl
    have L : eList gLen (aCons (eVar 0) aNil) [.d (.str z), .no] f = .ok (.int (z.length : Nat)) f := eList_ok (aCons_ok rfl rfl) (gLen_str hz)
    refine (mfun_ret rfl (guardF (bOr_ok g1 fun _ => bOr_ok (tB_ok (eBin_ok L rfl (gLt_int _ _))) fun _ => tB_ok (eBin_ok L rfl (gGt_int _ _))) (x := z.cps.toList.all fun c => decide (c ∈ letters)) fun _ => ?_)).trans ?_
    · refine sRet_ok (eList_ok (aCons_ok (eComp_ok (iSeq_ok rfl rfl) (f2 := f) (ys := z.cps.toList.map fun c => .bool (decide (c ∈ letters))) ?_ rfl ?_) rfl) (gAll_map _ _))
      · show (signsD z).length ≤ lim
        unfold signsD
        rw [List.length_map, Array.length_toList]
        exact hz
      · refine (comp_map (g := fun d => match d with | .str s => (gIn [.str s, c_LETTERS]).getD .none | _ => .none) _ _ fun d hd => ?_).trans ?_
        · obtain ⟨c, _, rfl⟩ := List.mem_map.mp hd
          exact eBin_ok rfl rfl (in_letters c)
        · rw [List.nil_append, signs_all (p := fun c => decide (c ∈ letters)) fun c => rfl]
    · have e : (!(!(PyData.str z).isStr || (decide (((z.length : Nat) : Int) < 1) || decide (8 < ((z.length : Nat) : Int))))) = (decide (1 ≤ z.length) && decide (z.length ≤ 8)) := by
        have h1 : decide (((z.length : Nat) : Int) < 1) = !decide (1 ≤ z.length) := by by_cases h : 1 ≤ z.length <;> simp [h] <;> omega
        have h2 : decide (8 < ((z.length : Nat) : Int)) = !decide (z.length ≤ 8) := by by_cases h : z.length ≤ 8 <;> simp [h] <;> omega
        rw [h1, h2]
        show (!(!true || (!decide (1 ≤ z.length) || !decide (z.length ≤ 8)))) = _
        cases decide (1 ≤ z.length) <;> cases decide (z.length ≤ 8) <;> rfl
      rw [e]
      rfl
  | _ => exact mfun_ret rfl (sSeq_ret ((sIf_b (bOr_ok (y := false) g1 fun h => Bool.noConfusion h)).trans rfl))
/-! tuples of some length -/
def isLen (n : Int) : D → Bool
  | .tuple xs => decide (((xs.length : Nat) : Int) = n)
  | _ => false
theorem isLen2 {d : D} (h : isLen 2 d = true) : ∃ a b, d = .tuple [a, b] := by
  cases d with
  | tuple xs =>
    have h : ((xs.length : Nat) : Int) = 2 := of_decide_eq_true h
    match xs, h with
    | [a, b], _ => exact ⟨a, b, rfl⟩
    | [], h => simp at h
    | [_], h => simp at h
    | _ :: _ :: _ :: _, h => simp at h; omega
  | _ => exact Bool.noConfusion h
theorem isLen3 {d : D} (h : isLen 3 d = true) : ∃ a b c, d = .tuple [a, b, c] := by
  cases d with
  | tuple xs =>
    have h : ((xs.length : Nat) : Int) = 3 := of_decide_eq_true h
    match xs, h with
    | [a, b, c], _ => exact ⟨a, b, c, rfl⟩
    | [], h => simp at h
    | [_], h => simp at h
    | [_, _], h => simp at h
    | _ :: _ :: _ :: _ :: _, h => simp at h; omega
  | _ => exact Bool.noConfusion h
def pPair : D → Bool
  | .tuple [a, b] => inW ["none", "open", "marked"] a && inW ["none", "open", "marked"] b
  | _ => false
/-! pairs of ends, begins -/
def pBegin : D → Bool
  | .tuple [a, b] => inW ["open", "marked"] a && inW ["open", "marked"] b
  | _ => false
theorem begin_not {d : D} (h : isLen 2 d = false) : pBegin d = false := by
  cases d with
  | tuple xs =>
    match xs, h with
    | [a, b], h => exact Bool.noConfusion h
    | [], _ => rfl
    | [_], _ => rfl
    | _ :: _ :: _ :: _, _ => rfl
  | _ => rfl
theorem pair_not {d : D} (h : isLen 2 d = false) : pPair d = false := by
  cases d with
  | tuple xs =>
    match xs, h with
    | [a, b], h => exact Bool.noConfusion h
    | [], _ => rfl
    | [_], _ => rfl
    | _ :: _ :: _ :: _, _ => rfl
  | _ => rfl
theorem hold_open (a : D) : (inW ["none", "open", "marked"] a && !inW ["none"] a) = inW ["open", "marked"] a := by
  cases a with
  | str z =>
    unfold inW
    simp only [List.any_cons, List.any_nil, Bool.or_false]
    by_cases h : ("none" : Str) = z
    · subst h; rfl
    · have e : (("none" : Str) == z) = false := beq_eq_false_iff_ne.mpr h
      rw [e, Bool.false_or, Bool.not_false, Bool.and_true]
  | _ => rfl
/-! ascending -/
def asc (xs : List D) : Bool := (List.range (xs.length - 1)).all fun k => PySem.W.dataLt (nthD xs k) (nthD xs (k + 1))
/-- the neighbours can be compared -/
def cmpOk (xs : List D) : Prop := ∀ k, k + 1 < xs.length → ltOk (nthD xs k) (nthD xs (k + 1)) = true
theorem zip_next (xs : List D) : xs.zip (xs.drop 1) = (List.range (xs.length - 1)).map fun k => (nthD xs k, nthD xs (k + 1)) := by
  apply List.ext_getElem
  · simp
  · intro i h1 h2
    have h3 : i < xs.length - 1 := by simpa using h2
    have h4 : i < xs.length := by omega
    have h5 : 1 + i < xs.length := by omega
    have h6 : i + 1 < xs.length := by omega
    simp [nthD, h4, h6, Nat.add_comm 1 i]
/-! sets of targets -/
def pTargets : D → Bool
  | .tuple xs => !xs.isEmpty && (xs.all pNum && asc xs)
  | _ => false
theorem cmp_nums {xs : List D} (h : xs.all pNum = true) : cmpOk xs := fun k hk => by
  have h1 := List.all_eq_true.mp h _ (nthD_mem (xs := xs) (k := k) (by omega))
  have h2 := List.all_eq_true.mp h _ (nthD_mem hk)
  generalize nthD xs k = x at h1
  generalize nthD xs (k + 1) = y at h2
  cases x <;> first | exact Bool.noConfusion h1 | (cases y <;> first | exact Bool.noConfusion h2 | exact cmp_int _ _)
theorem gGe_ok {a b : D} (h : ltOk a b = true) : gGe [a, b] = some (.bool (!PySem.W.dataLt a b)) := by
  unfold gGe
  dsimp only
  rw [if_pos h]
theorem range_asc (xs : List D) : ((rangeD 1 (((xs.length : Nat) : Int) - 1).toNat).filter fun d => match d with | .int k => !PySem.W.dataLt (nthD xs (k.toNat - 1)) (nthD xs k.toNat) | _ => false).isEmpty = asc xs := by
  have e : (((xs.length : Nat) : Int) - 1).toNat = xs.length - 1 := by omega
  unfold asc rangeD
  rw [e]
  induction (List.range (xs.length - 1)) with
  | nil => rfl
  | cons k ks ih =>
    have q : (1 + ((k : Nat) : Int)).toNat = k + 1 := by omega
    rw [List.map_cons, List.all_cons, ← ih]
    cases h : PySem.W.dataLt (nthD xs k) (nthD xs (k + 1)) with
    | true => rw [List.filter_cons_of_neg (by simp only [q, Nat.add_sub_cancel, h]; simp), Bool.true_and]
    | false => rw [List.filter_cons_of_pos (by simp only [q, Nat.add_sub_cancel, h]; simp)]; rfl
/-! plain data of moderate size -/
/-! asides -/
def pAside : D → Bool
  | .tuple [a, b] => inW ["copy", "start"] a && pName b
  | _ => false
theorem aside_not {d : D} (h : isLen 2 d = false) : pAside d = false := by
  cases d with
  | tuple xs =>
    match xs, h with
    | [a, b], h => exact Bool.noConfusion h
    | [], _ => rfl
    | [_], _ => rfl
    | _ :: _ :: _ :: _, _ => rfl
  | _ => rfl
def pAsides : D → Bool
  | .tuple xs => xs.all pAside && asc xs
  | _ => false
theorem aside_form {d : D} (h : pAside d = true) : ∃ a b, d = .tuple [.str a, .str b] := by
  have h2 : isLen 2 d = true := by
    cases q : isLen 2 d with
    | true => rfl
    | false => rw [aside_not q] at h; exact Bool.noConfusion h
  obtain ⟨a, b, rfl⟩ := isLen2 h2
  have h : (inW ["copy", "start"] a && pName b) = true := h
  rw [Bool.and_eq_true] at h
  cases a <;> first | exact Bool.noConfusion h.1 | (cases b <;> first | exact Bool.noConfusion h.2 | exact ⟨_, _, rfl⟩)
theorem cmp_aside {x y : D} (h1 : pAside x = true) (h2 : pAside y = true) : ltOk x y = true := by
  obtain ⟨a, b, rfl⟩ := aside_form h1
  obtain ⟨c, d, rfl⟩ := aside_form h2
  simp [ltOk, eqOk, PySem.W.alike, PySem.W.alikeAll, PyData.plain, PyData.plainAll, PyData.depth, PyData.depthAll]
theorem cmp_asides {xs : List D} (h : xs.all pAside = true) : cmpOk xs := fun k hk =>
  cmp_aside (List.all_eq_true.mp h _ (nthD_mem (xs := xs) (k := k) (by omega))) (List.all_eq_true.mp h _ (nthD_mem hk))
def okA (xs : List D) (k : Nat) : Bool := pAside (nthD xs k) && (decide (k = 0) || PySem.W.dataLt (nthD xs (k - 1)) (nthD xs k))
theorem okA_all (xs : List D) : (List.range xs.length).all (okA xs) = (xs.all pAside && asc xs) := by
  have e1 : xs.all pAside = (List.range xs.length).all fun k => pAside (nthD xs k) := by
    have : xs = (List.range xs.length).map (nthD xs) := by
      apply List.ext_getElem
      · simp
      · intro i h1 h2
        simp [nthD, h1]
    conv => lhs; rw [this]
    rw [List.all_map]
    rfl
  rw [Bool.eq_iff_iff]
  rw [Bool.and_eq_true, e1, List.all_eq_true, List.all_eq_true]
  unfold asc
  rw [List.all_eq_true]
  refine ⟨fun h => ⟨fun k hk => ?_, fun k hk => ?_⟩, fun h k hk => ?_⟩
  · have := h k hk
    unfold okA at this
    exact (Bool.and_eq_true_iff.mp this).1
  · have hk' : k + 1 < xs.length := by have := List.mem_range.mp hk; omega
    have := h (k + 1) (List.mem_range.mpr hk')
    unfold okA at this
    have q := (Bool.and_eq_true_iff.mp this).2
    rw [decide_eq_false (by omega), Bool.false_or, Nat.add_sub_cancel] at q
    exact q
  · unfold okA
    rw [h.1 k hk, Bool.true_and]
    have hk := List.mem_range.mp hk
    by_cases h0 : k = 0
    · rw [decide_eq_true h0]; rfl
    · have q := h.2 (k - 1) (List.mem_range.mpr (by omega))
      rw [show k - 1 + 1 = k by omega] at q
      rw [q, Bool.or_true]
/-! instructions -/
def p1 (p : D → Bool) : List D → Bool
  | [t] => p t
  | _ => false
def p2 (p q : D → Bool) : List D → Bool
  | [a, b] => p a && q b
  | _ => false
def pInstr : D → Bool
  | .tuple (w :: rest) => if inW ["go"] w then p1 pTargets rest else if inW ["copy", "start"] w then p2 pName pNum rest else if inW ["mark", "close"] w then p2 (inW ["r", "w"]) pNum rest else
      if inW ["read", "write", "wait"] w then p1 pNum rest else inW ["stay", "end"] w && rest.isEmpty
  | _ => false
theorem len_eq (n : Nat) (m : Int) : ∀ {xs : List D}, xs.length = n → decide (((xs.length : Nat) : Int) = m) = decide ((n : Int) = m) := fun h => by rw [h]
/-- the thing has n elements, and then .. -/
theorem lenAnd1 {p : D → Bool} {w : D} {rest : List D} {ρ : List Sl} {m1 m2 : ME} (h0 : m1 ρ f = .ok (.int (((w :: rest).length : Nat) : Int)) f) (h : ∀ t, rest = [t] → m2 ρ f = .ok (.bool (p t)) f) : eAnd (eBin gEq m1 (eC (.int 2))) m2 ρ f = .ok (.bool (p1 p rest)) f := by
  have g := eBin_ok (b := eC (.int 2)) h0 rfl (gEq_int _ 2)
  match rest, h, g with
  | [t], h, g => exact (eAnd_t g).trans (h t rfl)
  | [], _, g => exact eAnd_f g
  | _ :: _ :: r, _, g =>
    rw [decide_eq_false (by simp only [List.length_cons]; omega)] at g
    exact eAnd_f g
theorem lenAnd2 {p q : D → Bool} {w : D} {rest : List D} {ρ : List Sl} {m1 m2 : ME} (h0 : m1 ρ f = .ok (.int (((w :: rest).length : Nat) : Int)) f) (h : ∀ a b, rest = [a, b] → m2 ρ f = .ok (.bool (p a && q b)) f) : eAnd (eBin gEq m1 (eC (.int 3))) m2 ρ f = .ok (.bool (p2 p q rest)) f := by
  have g := eBin_ok (b := eC (.int 3)) h0 rfl (gEq_int _ 3)
  match rest, h, g with
  | [a, b], h, g => exact (eAnd_t g).trans (h a b rfl)
  | [], _, g => exact eAnd_f g
  | [_], _, g => exact eAnd_f g
  | _ :: _ :: _ :: r, _, g =>
    rw [decide_eq_false (by simp only [List.length_cons]; omega)] at g
    exact eAnd_f g
theorem lenRet0 {w : D} {rest : List D} {ρ : List Sl} {m1 : ME} (h0 : m1 ρ f = .ok (.int (((w :: rest).length : Nat) : Int)) f) : eBin gEq m1 (eC (.int 1)) ρ f = .ok (.bool rest.isEmpty) f := by
  have g := eBin_ok (b := eC (.int 1)) h0 rfl (gEq_int _ 1)
  rw [g]
  cases rest with
  | nil => rfl
  | cons a r => rw [decide_eq_false (by simp only [List.length_cons]; omega)]; rfl
/-- what the law tells of an instruction, in its own order -/
def lInstr (w : D) (rest : List D) : Bool := if inW ["stay", "end"] w then rest.isEmpty else if inW ["read", "write", "wait"] w then p1 pNum rest else if inW ["go"] w then p1 pTargets rest else
  !!(p2 (fun _ => true) pNum rest) && (if inW ["mark", "close"] w then p2 (inW ["r", "w"]) (fun _ => true) rest else inW ["copy", "start"] w && p2 pName (fun _ => true) rest)
theorem p2_and (p q : D → Bool) (rest : List D) : (p2 (fun _ => true) q rest && p2 p (fun _ => true) rest) = p2 p q rest := by
  match rest with
  | [a, b] => show ((true && q b) && (p a && true)) = (p a && q b); cases p a <;> cases q b <;> rfl
  | [] => rfl
  | [_] => rfl
  | _ :: _ :: _ :: _ => rfl
theorem lInstr_eq (w : D) (rest : List D) : lInstr w rest = pInstr (.tuple (w :: rest)) := by
  unfold lInstr pInstr
  dsimp only
  rw [Bool.not_not]
  cases h1 : inW ["stay", "end"] w with
  | true =>
    obtain ⟨z, hz, rfl⟩ := inW_mem h1
    have hz : z = "stay" ∨ z = "end" := by simpa using hz
    rcases hz with rfl | rfl <;> rfl
  | false =>
    cases h2 : inW ["read", "write", "wait"] w with
    | true =>
      obtain ⟨z, hz, rfl⟩ := inW_mem h2
      have hz : z = "read" ∨ z = "write" ∨ z = "wait" := by simpa using hz
      rcases hz with rfl | rfl | rfl <;> rfl
    | false =>
      cases h3 : inW ["go"] w with
      | true => rfl
      | false =>
        cases h4 : inW ["mark", "close"] w with
        | true =>
          obtain ⟨z, hz, rfl⟩ := inW_mem h4
          have hz : z = "mark" ∨ z = "close" := by simpa using hz
          rcases hz with rfl | rfl <;> exact p2_and _ _ rest
        | false =>
          cases h5 : inW ["copy", "start"] w with
          | true =>
            simp only [Bool.false_eq_true, if_false, if_true, Bool.true_and]
            exact p2_and _ _ rest
          | false =>
            simp only [Bool.false_eq_true, if_false, Bool.false_and, Bool.and_false]
theorem notStr_instr {w : D} {rest : List D} (h : w.isStr = false) : pInstr (.tuple (w :: rest)) = false := by
  cases w <;> first | exact Bool.noConfusion h | rfl
theorem lRet0 {rest : List D} {ρ : List Sl} {m1 : ME} (h0 : m1 ρ f = .ok (.tuple rest) f) (hp : PyData.plainAll rest = true := by first | assumption | exact plain_ints _ | exact small_plain _ (by assumption) | exact smalls_plain _ (by assumption) | exact sm1 (by assumption) | exact sm2 (by assumption) | exact sm3 (by assumption) | exact smT (by assumption) | exact smTl (by assumption) | exact pl_filter (smT (by assumption)) | exact pl_filter (pl_signs _) | exact pl_filter (pl_range _ _) | (simp [PyData.plain, PyData.plainAll]; done) | (simp [PyData.plain, PyData.plainAll]; assumption)) : eBin gEq m1 (eTup aNil) ρ f = .ok (.bool rest.isEmpty) f := eBin_ok h0 (eTup_ok rfl (Nat.zero_le _)) (gEq_tnil _)
theorem lenR1 {p : D → Bool} {rest : List D} {ρ : List Sl} {m1 m2 : ME} (h0 : m1 ρ f = .ok (.int ((rest.length : Nat) : Int)) f) (h : ∀ t, rest = [t] → m2 ρ f = .ok (.bool (p t)) f) : eAnd (eBin gEq m1 (eC (.int 1))) m2 ρ f = .ok (.bool (p1 p rest)) f := by
  have g := eBin_ok (b := eC (.int 1)) h0 rfl (gEq_int _ 1)
  match rest, h, g with
  | [t], h, g => exact (eAnd_t g).trans (h t rfl)
  | [], _, g => exact eAnd_f g
  | _ :: _ :: r, _, g =>
    rw [decide_eq_false (by simp only [List.length_cons]; omega)] at g
    exact eAnd_f g
/-! roles -/
def pPl : D → D → Bool
  | .tuple xs, as => !xs.isEmpty && (xs.all pInstr && pAsides as)
  | _, _ => false
def pRole3 (n pl as : D) : Bool := pName n && pPl pl as
def pRole : D → Bool
  | .tuple [n, pl, as] => pRole3 n pl as
  | _ => false
theorem role_not {d : D} (h : isLen 3 d = false) : pRole d = false := by
  cases d with
  | tuple xs =>
    match xs, h with
    | [a, b, c], h => exact Bool.noConfusion h
    | [], _ => rfl
    | [_], _ => rfl
    | [_, _], _ => rfl
    | _ :: _ :: _ :: _ :: _, _ => rfl
  | _ => rfl
/-! steps -/
def pM1 : D → Bool
  | .int i => decide (i = -1)
  | _ => false
def pStep3 (p w n : D) : Bool := pNum p && (pInt n && (if inW ["go", "aside"] w then pNum n else inW ["copy", "start", "mark", "close", "read", "write", "wait", "end"] w && pM1 n))
def pStep : D → Bool
  | .tuple [p, w, n] => pStep3 p w n
  | _ => false
theorem step_not {d : D} (h : isLen 3 d = false) : pStep d = false := by
  cases d with
  | tuple xs =>
    match xs, h with
    | [a, b, c], h => exact Bool.noConfusion h
    | [], _ => rfl
    | [_], _ => rfl
    | [_, _], _ => rfl
    | _ :: _ :: _ :: _ :: _, _ => rfl
  | _ => rfl
theorem step_words {w : D} (h : inW ["go", "aside"] w = false) : (inW ["go", "copy", "start", "mark", "close", "read", "write", "wait", "stay", "end"] w && !inW ["stay"] w) = inW ["copy", "start", "mark", "close", "read", "write", "wait", "end"] w := by
  cases hq : inW ["go", "copy", "start", "mark", "close", "read", "write", "wait", "stay", "end"] w with
  | true =>
    obtain ⟨z, hz, rfl⟩ := inW_mem hq
    have hz : z = "go" ∨ z = "copy" ∨ z = "start" ∨ z = "mark" ∨ z = "close" ∨ z = "read" ∨ z = "write" ∨ z = "wait" ∨ z = "stay" ∨ z = "end" := by simpa using hz
    rcases hz with rfl | rfl | rfl | rfl | rfl | rfl | rfl | rfl | rfl | rfl <;> first | rfl | exact Bool.noConfusion h
  | false =>
    cases hr : inW ["copy", "start", "mark", "close", "read", "write", "wait", "end"] w with
    | false => rfl
    | true =>
      obtain ⟨z, hz, rfl⟩ := inW_mem hr
      have hz : z = "copy" ∨ z = "start" ∨ z = "mark" ∨ z = "close" ∨ z = "read" ∨ z = "write" ∨ z = "wait" ∨ z = "end" := by simpa using hz
      rcases hz with rfl | rfl | rfl | rfl | rfl | rfl | rfl | rfl <;> exact Bool.noConfusion hq
theorem eq_m1 {n : D} (h : pInt n = true) : gEq [n, .int (-1)] = some (.bool (pM1 n)) := by
  cases n <;> first | exact gEq_int _ _ | exact Bool.noConfusion h
theorem step_str {p w n : D} (h : w.isStr = false) : pStep3 p w n = false := by
  have e : ∀ ws, inW ws w = false := fun ws => by cases w <;> first | exact Bool.noConfusion h | rfl
  unfold pStep3
  rw [e, e]
  cases pNum p <;> cases pInt n <;> rfl
variable {f : FS}
/-! ### loops that stop at the first fault -/
def firstO {α : Type} (o : Nat → Option α) : Nat → Nat → Option α
  | _, 0 => none
  | k, n + 1 => match o k with
    | some e => some e
    | none => firstO o (k + 1) n
def Stops (r : SR) : Prop := (∃ d f, r = .ret d f) ∨ ∃ x f, r = .exc x f
theorem for_stop {mg : MG} {body : MS} {d : D} {ds : List D} {ρ ρ1 : List Sl} {r : SR} (h : mg d ρ = some ρ1) (h2 : body ρ1 f = r) (s : Stops r) : forLoop mg body (d :: ds) ρ f = r := by
  conv => lhs; unfold forLoop
  rcases s with ⟨e, f1, rfl⟩ | ⟨x, f1, rfl⟩ <;> simp only [h, h2]
theorem for_first {α : Type} {mg : MG} {body : MS} {J : Nat → List Sl → Prop} {o : Nat → Option α} {out : α → SR} (hs : ∀ e, Stops (out e)) : ∀ (ds : List D) (k : Nat) (ρ : List Sl),
    (∀ j d ρ, ds[j]? = some d → J (k + j) ρ → ∃ ρ1, mg d ρ = some ρ1 ∧ match o (k + j) with | none => ∃ ρ2, body ρ1 f = .nx ρ2 f ∧ J (k + j + 1) ρ2 | some e => body ρ1 f = out e) → J k ρ →
    match firstO o k ds.length with | none => ∃ ρ', forLoop mg body ds ρ f = .nx ρ' f ∧ J (k + ds.length) ρ' | some e => forLoop mg body ds ρ f = out e
  | [], k, ρ, _, h => ⟨ρ, rfl, h⟩
  | d :: ds, k, ρ, hb, h => by
    obtain ⟨ρ1, m1, q⟩ := hb 0 d ρ rfl h
    rw [Nat.add_zero] at q
    rw [List.length_cons]
    unfold firstO
    cases e : o k with
    | some x =>
      rw [e] at q
      exact for_stop m1 q (hs x)
    | none =>
      rw [e] at q
      obtain ⟨ρ2, b2, j2⟩ := q
      have ih := for_first hs ds (k + 1) ρ2 (fun j d' ρ' e' h' => by
        have := hb (j + 1) d' ρ' (by simpa using e') (by rw [show k + (j + 1) = k + 1 + j by omega]; exact h')
        rw [show k + (j + 1) = k + 1 + j by omega] at this
        exact this) j2
      dsimp only
      rw [for_nx1 m1 b2, show k + (ds.length + 1) = k + 1 + ds.length by omega]
      exact ih
/-! ### instructions -/
theorem inW1 {w : Str} {d : D} (h : inW [w] d = true) : d = .str w := by
  obtain ⟨z, hz, rfl⟩ := inW_mem h
  rw [List.mem_singleton.mp hz]
theorem inWn {ws : List Str} {d : D} (h : inW ws d = true) : ∃ w ∈ ws, d = .str w := inW_mem h
theorem p1_form {p : D → Bool} {xs : List D} (h : p1 p xs = true) : ∃ a, xs = [a] ∧ p a = true := by
  match xs, h with
  | [a], h => exact ⟨a, rfl, h⟩
theorem p2_form {p q : D → Bool} {xs : List D} (h : p2 p q xs = true) : ∃ a b, xs = [a, b] ∧ p a = true ∧ q b = true := by
  match xs, h with
  | [a, b], h =>
    have h : (p a && q b) = true := h
    rw [Bool.and_eq_true] at h
    exact ⟨a, b, rfl, h.1, h.2⟩
theorem num_form {d : D} (h : pNum d = true) : ∃ j, d = .int j := by
  cases d with
  | int j => exact ⟨j, rfl⟩
  | _ => exact Bool.noConfusion h
theorem name_form {d : D} (h : pName d = true) : ∃ z, d = .str z := by
  cases d with
  | str j => exact ⟨j, rfl⟩
  | _ => exact Bool.noConfusion h
inductive InsF : D → Prop
  | stay {w : Str} (h : w ∈ (["stay", "end"] : List Str)) : InsF (.tuple [.str w])
  | go {ts : List D} (h : ts.all pNum = true) : InsF (.tuple [.str "go", .tuple ts])
  | birth {w z : Str} {j : Int} (h : w ∈ (["copy", "start"] : List Str)) : InsF (.tuple [.str w, .str z, .int j])
  | mark {w z : Str} {j : Int} (h : w ∈ (["mark", "close"] : List Str)) : InsF (.tuple [.str w, .str z, .int j])
  | read {w : Str} {j : Int} (h : w ∈ (["read", "write", "wait"] : List Str)) : InsF (.tuple [.str w, .int j])
theorem insF {d : D} (h : pInstr d = true) : InsF d := by
  unfold pInstr at h
  split at h
  · rename_i w rest
    split at h
    · rename_i hw
      obtain ⟨a, rfl, ha⟩ := p1_form h
      rw [inW1 hw]
      unfold pTargets at ha
      split at ha
      · rename_i ts
        simp only [Bool.and_eq_true] at ha
        exact .go ha.2.1
      · exact Bool.noConfusion ha
    · split at h
      · rename_i hw
        obtain ⟨a, b, rfl, h1, h2⟩ := p2_form h
        obtain ⟨x, hx, rfl⟩ := inWn hw
        obtain ⟨z, rfl⟩ := name_form h1
        obtain ⟨j, rfl⟩ := num_form h2
        exact .birth hx
      · split at h
        · rename_i hw
          obtain ⟨a, b, rfl, h1, h2⟩ := p2_form h
          obtain ⟨x, hx, rfl⟩ := inWn hw
          obtain ⟨z, _, rfl⟩ := inWn h1
          obtain ⟨j, rfl⟩ := num_form h2
          exact .mark hx
        · split at h
          · rename_i hw
            obtain ⟨a, rfl, h1⟩ := p1_form h
            obtain ⟨x, hx, rfl⟩ := inWn hw
            obtain ⟨j, rfl⟩ := num_form h1
            exact .read hx
          · rw [Bool.and_eq_true] at h
            obtain ⟨x, hx, rfl⟩ := inWn h.1
            cases rest with
            | nil => exact .stay hx
            | cons => exact Bool.noConfusion h.2
  · exact Bool.noConfusion h
def tgts : D → List D
  | .tuple [_, .tuple ts] => ts
  | .tuple [_, j] => [j]
  | .tuple [_, _, j] => [j]
  | _ => []
theorem tgts_num {d : D} (h : InsF d) : ∀ t ∈ tgts d, ∃ j, t = .int j := by
  cases h with
  | stay h => intro t ht; cases ht
  | go h => exact fun t ht => num_form (List.all_eq_true.mp h t ht)
  | birth h => intro t ht; rw [List.mem_singleton.mp ht]; exact ⟨_, rfl⟩
  | mark h => intro t ht; rw [List.mem_singleton.mp ht]; exact ⟨_, rfl⟩
  | read h => intro t ht; rw [List.mem_singleton.mp ht]; exact ⟨_, rfl⟩
variable {f : FS}
/-! ### small things -/
theorem mfun_exc {n np : Nat} {ff : Bool} {m : MS} {ds : List D} {f f1 : FS} {x : XV} (hl : ds.length = np) (h : m (entry n ff ds) f = .exc x f1) : mfun n np ff m ds f = .exc x f1 := by unfold mfun; rw [if_pos hl, h]; rfl
theorem mfun_nx {n np : Nat} {ff : Bool} {m : MS} {ds : List D} {f f1 : FS} {ρ : List Sl} (hl : ds.length = np) (h : m (entry n ff ds) f = .nx ρ f1) : mfun n np ff m ds f = .ok .none f1 := by unfold mfun; rw [if_pos hl, h]; rfl
theorem sSeq_exc {a b : MS} {ρ : List Sl} {f f1 : FS} {x : XV} (h : a ρ f = .exc x f1) : sSeq a b ρ f = .exc x f1 := by unfold sSeq; rw [h]
theorem sDrop_ok {m : ME} {ρ : List Sl} {f f1 : FS} {d : D} (h : m ρ f = .ok d f1) : sDrop m ρ f = .nx ρ f1 := by unfold sDrop; rw [h]; rfl
theorem sDrop_exc {m : ME} {ρ : List Sl} {f f1 : FS} {x : XV} (h : m ρ f = .exc x f1) : sDrop m ρ f = .exc x f1 := by unfold sDrop; rw [h]; rfl
theorem eCall_exc {mf : List D → FS → R D} {ms : MA} {ρ : List Sl} {f f1 f2 : FS} {ds : List D} {x : XV} (h : ms ρ f = .ok ds f1) (h2 : mf ds f1 = .exc x f2) : eCall false mf ms ρ f = .exc x f1 := by
  unfold eCall; rw [h]; dsimp only [R.bind_ok]; rw [h2]; rfl
theorem sRaise_ok {k n : Nat} {ms : MA} {ρ : List Sl} {f f1 : FS} {ds : List D} (h : ms ρ f = .ok ds f1) (hl : ds.length = n) : sRaise k n ms ρ f = .exc ⟨k, ds.reverse⟩ f1 := by
  unfold sRaise; rw [h]; dsimp only [sBind]; rw [if_pos hl]
theorem sIf_skip {t : MB} {a : MS} {ρ : List Sl} {f f1 : FS} (h : t ρ f = .ok false f1) : sIf t a sSkip ρ f = .nx ρ f1 := sIf_f h
theorem enum_at {rs : List D} {j : Nat} {d : D} (h : (enumD rs)[j]? = some d) : j < rs.length ∧ d = .tuple [.int (j : Nat), nthD rs j] := by
  unfold enumD at h
  rw [List.getElem?_map] at h
  cases e : (List.range rs.length)[j]? with
  | none => rw [e] at h; cases h
  | some i =>
    rw [e] at h
    obtain ⟨h1, h2⟩ := List.getElem?_eq_some_iff.mp e
    rw [List.getElem_range] at h2
    rw [List.length_range] at h1
    subst h2
    exact ⟨h1, (Option.some.inj h).symm⟩
theorem range_at {n j : Nat} {d : D} (h : (rangeD 0 n)[j]? = some d) : j < n ∧ d = .int (j : Nat) := by
  unfold rangeD at h
  rw [List.getElem?_map] at h
  cases e : (List.range n)[j]? with
  | none => rw [e] at h; cases h
  | some i =>
    rw [e] at h
    obtain ⟨h1, h2⟩ := List.getElem?_eq_some_iff.mp e
    rw [List.getElem_range] at h2
    rw [List.length_range] at h1
    subst h2
    refine ⟨h1, ?_⟩
    refine (Option.some.inj h).symm.trans ?_
    show PyData.int (0 + (j : Int)) = _
    rw [Int.zero_add]
theorem enum_len (rs : List D) : (enumD rs).length = rs.length := by unfold enumD; rw [List.length_map, List.length_range]
theorem range_len (n : Nat) : (rangeD 0 n).length = n := by unfold rangeD; rw [List.length_map, List.length_range]
theorem take_next {α : Type} {g : D → α} {rs : List D} {k : Nat} (h : k < rs.length) : (rs.take (k + 1)).map g = (rs.take k).map g ++ [g (nthD rs k)] := by
  have e : nthD rs k = rs[k] := by unfold nthD; simp [h]
  rw [List.take_succ_eq_append_getElem h, List.map_append, e]
  rfl
theorem cont_inW (ks : List Str) (z : Str) : ks.contains z = inW ks (.str z) := by
  show _ = ks.any fun y => y == z
  induction ks with
  | nil => rfl
  | cons k ks ih => rw [List.contains_cons, List.any_cons, ih, Bool.beq_comm]
theorem gIn_strs (ns : List Str) (z : Str) : gIn [.str z, .list (ns.map .str)] = some (.bool (inW ns (.str z))) := by
  have e : inOk (ns.map .str) (.str z) = true := by unfold inOk; rw [depth_strs, plain_strs]; simp [PyData.plain]
  show (if inOk (ns.map .str) (.str z) = true then _ else _) = _
  rw [if_pos e, eqv_strs]
theorem gNotIn_strs (ns : List Str) (z : Str) : gNotIn [.str z, .list (ns.map .str)] = some (.bool (!inW ns (.str z))) := by
  have e : inOk (ns.map .str) (.str z) = true := by unfold inOk; rw [depth_strs, plain_strs]; simp [PyData.plain]
  show (if inOk (ns.map .str) (.str z) = true then _ else _) = _
  rw [if_pos e, eqv_strs]
theorem nth_small {rs : List D} (hs : smalls rs = true) {k : Nat} (h : k < rs.length) : small (nthD rs k) = true := smalls_mem hs (nthD_mem h)
theorem sPutM_ok {i : Nat} {mk mv : ME} {ρ : List Sl} {f f1 f2 : FS} {ks : List Str} {xs : List D} {d : D} {k : Str} (hi : ρ[i]? = some (.m ks xs)) (hv : mv ρ f = .ok d f1) (hk : mk ρ f1 = .ok (.str k) f2) (hl : ks.length < lim) : sPutM i mk mv ρ f = .nx (ρ.set i (.m (putKs ks k) (putXs ks xs k d))) f2 := by
  unfold sPutM
  rw [hi]
  dsimp only
  rw [hv]
  dsimp only [sBind]
  rw [hk]
  dsimp only [sBind]
  rw [if_pos hl]
/-! ### roles -/
theorem role_form {d : D} (h : pRole d = true) : ∃ z pl as, d = .tuple [.str z, .tuple pl, .tuple as] ∧ pl.all pInstr = true ∧ as.all pAside = true := by
  unfold pRole at h
  split at h
  · rename_i n pl as
    unfold pRole3 at h
    rw [Bool.and_eq_true] at h
    obtain ⟨z, rfl⟩ := name_form h.1
    have h2 := h.2
    unfold pPl at h2
    split at h2
    · rename_i pl as
      simp only [Bool.and_eq_true] at h2
      have h3 := h2.2.2
      unfold pAsides at h3
      split at h3
      · rw [Bool.and_eq_true] at h3
        exact ⟨z, _, _, rfl, h2.2.1, h3.1⟩
      · exact Bool.noConfusion h3
    · exact Bool.noConfusion h2
  · exact Bool.noConfusion h
def roleName : D → Str
  | .tuple (.str z :: _) => z
  | _ => ""
def nms (rs : List D) (k : Nat) : List Str := (rs.take k).map roleName
abbrev Fa := Str × D
def exO (f : FS) (e : Fa) : SR := .exc ⟨0, [e.2, .str e.1]⟩ f
def reO (f : FS) (e : Fa) : SR := .ret (.tuple [.str e.1, e.2]) f
theorem raise2 {ms : MA} {ρ : List Sl} {w : Str} {a : D} (h : ms ρ f = .ok [.str w, a] f) : sRaise 0 2 ms ρ f = exO f (w, a) := sRaise_ok h rfl
theorem exO_s (f : FS) (e : Fa) : Stops (exO f e) := .inr ⟨_, _, rfl⟩
theorem reO_s (f : FS) (e : Fa) : Stops (reO f e) := .inl ⟨_, _, rfl⟩
def oForm (rs : List D) (k : Nat) : Option Fa := if pRole (nthD rs k) = false then some ("role", .int k) else if inW (nms rs k) (.str (roleName (nthD rs k))) = true then some ("twice", .int k) else none
theorem nms_len (rs : List D) {k : Nat} (h : k ≤ rs.length) : (nms rs k).length = k := by unfold nms; rw [List.length_map, List.length_take, Nat.min_eq_left h]
theorem nms_next {rs : List D} {k : Nat} (h : k < rs.length) : nms rs (k + 1) = nms rs k ++ [roleName (nthD rs k)] := take_next h
theorem role_ix0 {d : D} (h : pRole d = true) : gIx [d, .int 0] = some (.str (roleName d)) := by
  obtain ⟨z, pl, as, rfl, _⟩ := role_form h
  rfl
theorem putKs_new {ks : List Str} {z : Str} (h : inW ks (.str z) = false) : putKs ks z = ks ++ [z] := by
  rw [← cont_inW] at h
  unfold putKs
  rw [if_neg (by simpa using h)]
variable {f : FS}
/-! ### one role's places and asides -/
def geN (n : Nat) : D → Bool
  | .int j => decide ((n : Int) ≤ j)
  | _ => false
theorem gAny_map {α : Type} (xs : List α) (p : α → Bool) : gAny [.list (xs.map fun x => .bool (p x))] = some (.bool (xs.any p)) := by
  show (bools _).map _ = _
  rw [bools_map]
  show some (PyData.bool ((xs.map p).any id)) = _
  rw [List.any_map]
  rfl
def badName (ns : List Str) : D → Bool
  | .tuple [.str w, .str z, .int _] => inW ["copy", "start"] (.str w) && !inW ns (.str z)
  | _ => false
def oPlace (ns : List Str) (k : Int) (pl : List D) (p : Nat) : Option Fa := if (tgts (nthD pl p)).any (geN pl.length) = true then some ("target", .tuple [.int k, .int (p : Nat)]) else if badName ns (nthD pl p) = true then some ("name", .tuple [.int k, .int (p : Nat)]) else none
def badAside (ns : List Str) : D → Bool
  | .tuple [_, .str z] => !inW ns (.str z)
  | _ => false
def oAside (ns : List Str) (k : Int) (as : List D) (n : Nat) : Option Fa := if badAside ns (nthD as n) = true then some ("aside", .tuple [.int k, .int (n : Nat)]) else none
theorem ins_len {i : D} (h : InsF i) : (tgts i).length ≤ 1 ∨ ∃ ts, i = .tuple [.str "go", .tuple ts] := by
  cases h with
  | go h => exact .inr ⟨_, rfl⟩
  | stay h => exact .inl (Nat.zero_le _)
  | birth h => exact .inl (Nat.le_refl _)
  | mark h => exact .inl (Nat.le_refl _)
  | read h => exact .inl (Nat.le_refl _)
theorem tgts_lim {i : D} (h : InsF i) (hs : small i = true) : (tgts i).length ≤ lim := by
  rcases ins_len h with q | ⟨ts, rfl⟩
  · exact Nat.le_trans q (by decide)
  · exact (small_tup (sm_in (small_tup hs).2)).1
where sm_in {a b : D} (h : smalls [a, b] = true) : small b = true := smalls_mem h (by simp)
theorem ge_ok {t : D} {n : Nat} (h : ∃ j, t = .int j) : gGe [t, .int (n : Nat)] = some (.bool (geN n t)) := by
  obtain ⟨j, rfl⟩ := h
  exact gGe_int _ _
/-- in a birth's place -/
theorem birth_ix {i : D} (h : InsF i) : ∃ w, gIx [i, .int 0] = some (.str w) ∧ (inW ["copy", "start"] (.str w) = true → ∃ z, gIx [i, .int 1] = some (.str z) ∧ ∀ ns, badName ns i = !inW ns (.str z)) ∧ (inW ["copy", "start"] (.str w) = false → ∀ ns, badName ns i = false) := by
  cases h with
  | stay h => simp only [List.mem_cons, List.not_mem_nil, or_false] at h; exact ⟨_, rfl, fun q => (by rcases h with rfl | rfl <;> exact absurd q (by decide)), fun _ _ => rfl⟩
  | go h => exact ⟨_, rfl, fun q => absurd q (by decide), fun _ _ => rfl⟩
  | birth h =>
    rename_i w z j
    refine ⟨w, rfl, fun q => ⟨z, rfl, fun ns => ?_⟩, fun q ns => ?_⟩
    · show (inW ["copy", "start"] (.str w) && !inW ns (.str z)) = _
      rw [q, Bool.true_and]
    · show (inW ["copy", "start"] (.str w) && !inW ns (.str z)) = _
      rw [q, Bool.false_and]
  | mark h =>
    simp only [List.mem_cons, List.not_mem_nil, or_false] at h
    refine ⟨_, rfl, fun q => (by rcases h with rfl | rfl <;> exact absurd q (by decide)), fun q ns => ?_⟩
    show (inW ["copy", "start"] (.str _) && !inW ns (.str _)) = _
    rw [q, Bool.false_and]
  | read h => simp only [List.mem_cons, List.not_mem_nil, or_false] at h; exact ⟨_, rfl, fun q => (by rcases h with rfl | rfl | rfl <;> exact absurd q (by decide)), fun _ _ => rfl⟩
/-- a value that holds the names -/
def Names (kvs : List (D × D)) (ns : List Str) : Prop := ∃ ks, keysS kvs = some ks ∧ ∀ z, ks.contains z = inW ns (.str z)
theorem notIn2 {kvs : List (D × D)} {ns : List Str} (h : Names kvs ns) (z : Str) : gNotIn2 [.str z, .dict kvs] = some (.bool (!inW ns (.str z))) := by
  obtain ⟨ks, h1, h2⟩ := h
  show (keysS kvs).map _ = _
  rw [h1, Option.map_some, h2]
theorem births_in (w : Str) : gIn [.str w, c_BIRTHS] = some (.bool (inW ["copy", "start"] (.str w))) := gIn_ws ["copy", "start"] (.str w) rfl
theorem aside_ix {a : D} (h : pAside a = true) : ∃ z, gIx [a, .int 1] = some (.str z) ∧ ∀ ns, badAside ns a = !inW ns (.str z) := by
  obtain ⟨x, y, rfl⟩ := aside_form h
  exact ⟨y, rfl, fun _ => rfl⟩
variable {f : FS}
/-! ### the law's side of one role -/
def oRole (ns : List Str) (k : Int) : D → Option Fa
  | .tuple [_, .tuple pl, .tuple as] => match firstO (oPlace ns k pl) 0 pl.length with
    | some e => some e
    | none => firstO (oAside ns k as) 0 as.length
  | _ => none
theorem nth_ix {rs : List D} {k : Nat} (h : k < rs.length) : gIx [.tuple rs, .int (k : Nat)] = some (nthD rs k) := atI_nat h
theorem all_len {rs : List D} (hl : rs.length ≤ lim) {i : Nat} {ρ : List Sl} (h0 : ρ[i]? = some (.d (.tuple rs))) : iArgs rng1 (aCons (eList gLen (aCons (eVar i) aNil)) aNil) ρ f = .ok (rangeD 0 rs.length) f := by
  unfold iArgs
  rw [aCons_ok (d := .int ((rs.length : Nat) : Int)) (ds := []) (eList_ok (aCons_ok (eVar_ok h0) rfl) rfl) rfl]
  rw [R.bind_ok, rng1_ok (rng_ok hl)]
  rfl
variable {f : FS}
/-! ### the whole: the fault of a value -/
theorem firstO_none {α : Type} {o : Nat → Option α} : ∀ {n k : Nat}, firstO o k n = none → ∀ j, j < n → o (k + j) = none
  | 0, _, _, j, h => by omega
  | n + 1, k, e, j, h => by
    unfold firstO at e
    cases q : o k with
    | some x => rw [q] at e; cases e
    | none =>
      rw [q] at e
      cases j with
      | zero => exact q
      | succ j =>
        rw [show k + (j + 1) = k + 1 + j by omega]
        exact firstO_none e j (by omega)
theorem form_role {rs : List D} {k : Nat} (h : oForm rs k = none) : pRole (nthD rs k) = true := by
  unfold oForm at h
  cases q : pRole (nthD rs k) with
  | true => rfl
  | false => rw [q, if_pos rfl] at h; cases h
theorem forms_roles {rs : List D} (h : firstO (oForm rs) 0 rs.length = none) : rs.all pRole = true := by
  refine List.all_eq_true.mpr fun r hr => ?_
  obtain ⟨k, hk, e⟩ := List.getElem_of_mem hr
  have q := form_role (firstO_none h k hk)
  rw [Nat.zero_add] at q
  have e2 : nthD rs k = r := by unfold nthD; simp [hk, e]
  rw [e2] at q
  exact q
def oRoles (rs : List D) (k : Nat) : Option Fa := oRole (rs.map roleName) (k : Nat) (nthD rs k)
def fault : D → Option Fa
  | .tuple [.tuple [a, b], .tuple (r :: rs)] => if pBegin (.tuple [a, b]) = false then some (("begin" : Str), PyData.int (-1)) else match firstO (oForm (r :: rs)) 0 (r :: rs).length with
    | some e => some e
    | none => firstO (oRoles (r :: rs)) 0 (r :: rs).length
  | _ => some (("shape" : Str), PyData.int (-1))
def pShape : D → Bool
  | .tuple [.tuple [_, _], .tuple (_ :: _)] => true
  | _ => false
theorem fault_shape {d : D} (h : pShape d = false) : fault d = some (("shape" : Str), PyData.int (-1)) := by
  unfold fault
  split
  · exact Bool.noConfusion h
  · rfl
theorem shape_form {d : D} (h : pShape d = true) : ∃ a b r rs, d = .tuple [.tuple [a, b], .tuple (r :: rs)] := by
  unfold pShape at h
  split at h
  · exact ⟨_, _, _, _, rfl⟩
  · exact Bool.noConfusion h
theorem shape_not {d : D} (h : isLen 2 d = false) : pShape d = false := by
  cases q : pShape d with
  | false => rfl
  | true =>
    obtain ⟨_, _, _, _, rfl⟩ := shape_form q
    exact Bool.noConfusion h
theorem shape2 {x y : D} : pShape (.tuple [x, y]) = (isLen 2 x && (y.isTuple && match y with | .tuple xs => decide ((0 : Int) < ((xs.length : Nat) : Int)) | _ => false)) := by
  cases h : isLen 2 x with
  | false =>
    rw [Bool.false_and]
    cases q : pShape (.tuple [x, y]) with
    | false => rfl
    | true =>
      obtain ⟨_, _, _, _, e⟩ := shape_form q
      injection e with e
      injection e with e _
      subst e
      exact Bool.noConfusion h
  | true =>
    obtain ⟨a, b, rfl⟩ := isLen2 h
    cases y with
    | tuple ys =>
      cases ys with
      | nil => rfl
      | cons z zs =>
        show true = _
        simp [PyData.isTuple]
    | _ => rfl
theorem len_not {a : ME} {ρ : List Sl} {d : D} (h : a ρ f = .ok d f) : bOr (bNot (tT (eUn (gIsI "tuple") a))) (tB (eBin gNe (eList gLen (aCons a (aNil))) (eC (.int 2)))) ρ f = .ok (!isLen 2 d) f := by
  cases d with
  | tuple xs =>
    refine (bOr_f (bNot_ok (tT_ok (isI_ok (b := true) h rfl) rfl))).trans (tB_ok (eBin_ok (eList_ok (aCons_ok (ms := aNil) h rfl) rfl) rfl (gNe_int _ _)))
  | _ => exact bOr_t (bNot_ok (tT_ok (isI_ok (b := false) h rfl) rfl))
/-! ### the names of a program -/
def keysOf (rs : List D) (ks : List Str) : List Str := rs.foldl (fun a r => putKs a (roleName r)) ks
theorem dc_names {ρ : List Sl} (hρ : ∀ d : D, (ρ.set 5 (.d d))[5]? = some (.d d)) : ∀ (rs : List D) (ks : List Str) (xs : List D), rs.all pRole = true → xs.length = ks.length →
    ∃ ys, ys.length = (keysOf rs ks).length ∧ dcLoop (gmName 5) (bYes) (eBin gIx (eVar 5) (eC (.int 0))) (eC (.bool true)) rs ρ f ks xs = .ok (keysOf rs ks, ys) f
  | [], ks, xs, _, h => ⟨xs, h, rfl⟩
  | r :: rs, ks, xs, hr, h => by
    rw [List.all_cons, Bool.and_eq_true] at hr
    obtain ⟨ys, h1, h2⟩ := dc_names hρ rs (putKs ks (roleName r)) (putXs ks xs (roleName r) (.bool true)) hr.2 (putXs_len h)
    refine ⟨ys, h1, ?_⟩
    have e0 : eBin gIx (eVar 5) (eC (.int 0)) (ρ.set 5 (.d r)) f = .ok (.str (roleName r)) f := eBin_ok (eVar_ok (hρ r)) rfl (role_ix0 hr.1)
    unfold dcLoop
    show (noX (bYes (ρ.set 5 (.d r)) f)).bind _ = _
    dsimp only [bYes, noX, R.bind_ok]
    rw [if_pos rfl, e0]
    dsimp only [noX, R.bind_ok]
    show (noX (R.ok (PyData.bool true) f)).bind _ = _
    dsimp only [noX, R.bind_ok]
    exact h2
theorem putKs_mem (ks : List Str) (k z : Str) : z ∈ putKs ks k ↔ z ∈ ks ∨ z = k := by
  unfold putKs
  by_cases e : k ∈ ks
  · rw [if_pos e]; exact ⟨.inl, fun q => q.elim id fun w => w ▸ e⟩
  · rw [if_neg e, List.mem_append, List.mem_singleton]
theorem keysOf_mem (z : Str) : ∀ (rs : List D) (ks : List Str), z ∈ keysOf rs ks ↔ z ∈ ks ∨ z ∈ rs.map roleName
  | [], ks => by simp [keysOf]
  | r :: rs, ks => by
    show z ∈ keysOf rs (putKs ks (roleName r)) ↔ _
    rw [keysOf_mem z rs, putKs_mem, List.map_cons, List.mem_cons, or_assoc]
theorem names_of {rs : List D} {ys : List D} (h : ys.length = (keysOf rs []).length) : Names (dctD (keysOf rs []) ys) (rs.map roleName) := by
  refine ⟨_, keysS_of _ _ h, fun z => ?_⟩
  rw [← cont_inW]
  have := keysOf_mem z rs []
  by_cases q : z ∈ rs.map roleName
  · have q2 := this.mpr (.inr q)
    rw [List.contains_iff_mem.mpr q, List.contains_iff_mem.mpr q2]
  · have q2 : z ∉ keysOf rs [] := fun w => (this.mp w).elim (fun v => nomatch v) q
    have e1 : (rs.map roleName).contains z = false := by
      cases e : (rs.map roleName).contains z with
      | false => rfl
      | true => exact absurd (List.contains_iff_mem.mp e) q
    have e2 : (keysOf rs []).contains z = false := by
      cases e : (keysOf rs []).contains z with
      | false => rfl
      | true => exact absurd (List.contains_iff_mem.mp e) q2
    rw [e1, e2]
variable {f : FS}
/-! ### both sides tell the fault -/
theorem small_role {d : D} (hs : small d = true) {z : Str} {pl as : List D} (e : d = .tuple [.str z, .tuple pl, .tuple as]) : (pl.length ≤ lim ∧ smalls pl = true) ∧ as.length ≤ lim ∧ smalls as = true := by
  subst e
  have h := (small_tup hs).2
  exact ⟨small_tup (smalls_mem h (by simp)), small_tup (smalls_mem h (by simp))⟩
theorem small_prog {x : D} {rs : List D} (hs : small (.tuple [x, .tuple rs]) = true) : small x = true ∧ small (.tuple rs) = true := ⟨smalls_mem (small_tup hs).2 (by simp), smalls_mem (small_tup hs).2 (by simp)⟩
theorem oRole_eq (ns : List Str) (k : Int) (z : Str) (pl as : List D) : oRole ns k (.tuple [.str z, .tuple pl, .tuple as]) = match firstO (oPlace ns k pl) 0 pl.length with | some e => some e | none => firstO (oAside ns k as) 0 as.length := rfl
variable {f : FS}
def rolesN : D → Int
  | .tuple [_, .tuple rs] => (rs.length : Nat)
  | _ => 0
theorem fault_whole (a b r : D) (rs : List D) : fault (.tuple [.tuple [a, b], .tuple (r :: rs)]) = if pBegin (.tuple [a, b]) = false then some (("begin" : Str), PyData.int (-1)) else match firstO (oForm (r :: rs)) 0 (r :: rs).length with | some e => some e | none => firstO (oRoles (r :: rs)) 0 (r :: rs).length := rfl
def dcNames : ME := eDc [5] (iSeq (eVar 3)) (gmName 5) (bYes) (eBin gIx (eVar 5) (eC (.int 0))) (eC (.bool true))
theorem dc_ok {d x : D} {rs : List D} (hl : rs.length ≤ lim) (hr : rs.all pRole = true) : ∃ ys, ys.length = (keysOf rs []).length ∧ dcNames [.d d, .no, .d x, .d (.tuple rs), .no, .no] f = .ok (.dict (dctD (keysOf rs []) ys)) f := by
  obtain ⟨ys, h1, h2⟩ := dc_names (f := f) (ρ := [.d d, .no, .d x, .d (.tuple rs), .no, .no]) (fun _ => rfl) rs [] [] hr rfl
  refine ⟨ys, h1, ?_⟩
  unfold dcNames eDc
  rw [iSeq_ok (m := eVar 3) (ρ := [.d d, .no, .d x, .d (.tuple rs), .no, .no]) (f := f) (d := .tuple rs) (ds := rs) rfl rfl]
  dsimp only [R.bind_ok]
  rw [if_pos (by rw [decide_eq_true hl]; rfl)]
  show (noX (dcLoop _ _ _ _ rs [.d d, .no, .d x, .d (.tuple rs), .no, .no] f [] [])).bind _ = _
  rw [h2]
  rfl
/-! ### the law's side -/
variable {f : FS}
theorem sAppOk {i : Nat} {m : ME} {ρ : List Sl} {f f1 : FS} {xs : List D} {d : D} (hi : ρ[i]? = some (.l xs)) (h : m ρ f = .ok d f1) (hl : xs.length < lim) : sApp i m ρ f = .nx (ρ.set i (.l (xs ++ [d]))) f1 := by
  unfold sApp
  rw [hi]
  dsimp only
  rw [h]
  dsimp only [sBind]
  rw [if_pos hl]
def faultD (o : Option Fa) : D := match o with
  | none => .none
  | some e => .tuple [.str e.1, e.2]
variable {f : FS}
/-! ### the fault's form -/
theorem firstO_some {α : Type} {o : Nat → Option α} {e : α} : ∀ {n k : Nat}, firstO o k n = some e → ∃ j, j < n ∧ o (k + j) = some e
  | 0, _, h => nomatch h
  | n + 1, k, h => by
    unfold firstO at h
    cases q : o k with
    | some x => rw [q] at h; cases h; exact ⟨0, Nat.succ_pos n, q⟩
    | none =>
      rw [q] at h
      obtain ⟨j, h1, h2⟩ := firstO_some h
      exact ⟨j + 1, by omega, by rw [show k + (j + 1) = k + 1 + j by omega]; exact h2⟩
theorem int_small {k : Nat} (h : k ≤ lim) : G 10 0 (.int (k : Nat)) := by
  have h : k ≤ 100000 := h
  refine ⟨rfl, ?_, ?_, Nat.le_refl _⟩
  · show decide ((k : Int).natAbs.log2 < 1920) = true
    rw [Int.natAbs_natCast]
    refine decide_eq_true ?_
    by_cases z : k = 0
    · subst z; decide
    · exact (Nat.log2_lt z).mpr (Nat.lt_of_le_of_lt h (Nat.lt_of_lt_of_le (by decide : 100000 < 2 ^ 20) (Nat.pow_le_pow_right (by decide) (by decide))))
  · show (Str.ofString (toString ((k : Nat) : Int))).length ≤ 10
    rw [PySem.ofString_length]
    exact (Nat.length_repr_le_iff (n := k) (by decide : 0 < 10)).mpr (Nat.lt_of_le_of_lt h (by decide))
def FaOk (e : Fa) : Prop := G 30 0 (.str e.1) ∧ G 60 1 e.2
theorem fa_int {w : Str} {k : Nat} (hw : gB 30 0 (.str w) = true) (h : k ≤ lim) : FaOk (w, .int (k : Nat)) := ⟨gB_ok hw, (int_small h).mono (by decide) (by decide)⟩
theorem fa_pair {w : Str} {k p : Nat} (hw : gB 30 0 (.str w) = true) (h : k ≤ lim) (h2 : p ≤ lim) : FaOk (w, .tuple [.int (k : Nat), .int (p : Nat)]) :=
  ⟨gB_ok hw, (G_tup (N := 10) (k := 0) (L := 2) (fun x hx => by
    rcases List.mem_cons.mp hx with rfl | hx
    · exact int_small h
    · rw [List.mem_singleton.mp hx]; exact int_small h2) (by show 2 ≤ 2; decide) (by decide)).mono (by decide) (by decide)⟩
theorem oPlace_ok {ns : List Str} {k p : Nat} {pl : List D} {e : Fa} (hk : k ≤ lim) (hp : p ≤ lim) (h : oPlace ns (k : Nat) pl p = some e) : FaOk e := by
  unfold oPlace at h
  split at h
  · cases h; exact fa_pair (by decide +kernel) hk hp
  · split at h
    · cases h; exact fa_pair (by decide +kernel) hk hp
    · cases h
theorem oAside_ok {ns : List Str} {k p : Nat} {as : List D} {e : Fa} (hk : k ≤ lim) (hp : p ≤ lim) (h : oAside ns (k : Nat) as p = some e) : FaOk e := by
  unfold oAside at h
  split at h
  · cases h; exact fa_pair (by decide +kernel) hk hp
  · cases h
theorem oForm_ok {rs : List D} {k : Nat} {e : Fa} (hk : k ≤ lim) (h : oForm rs k = some e) : FaOk e := by
  unfold oForm at h
  split at h
  · cases h; exact fa_int (by decide +kernel) hk
  · split at h
    · cases h; exact fa_int (by decide +kernel) hk
    · cases h
theorem oRole_ok {ns : List Str} {k : Nat} {d : D} {e : Fa} (hs : small d = true) (hk : k ≤ lim) (h : oRole ns (k : Nat) d = some e) : FaOk e := by
  unfold oRole at h
  split at h
  · rename_i x pl as
    have h1 := (small_tup (smalls_mem (small_tup hs).2 (by simp) : small (.tuple pl) = true)).1
    have h2 := (small_tup (smalls_mem (small_tup hs).2 (by simp) : small (.tuple as) = true)).1
    split at h
    · rename_i e' q
      cases h
      obtain ⟨j, hj, ho⟩ := firstO_some q
      exact oPlace_ok hk (by omega) ho
    · obtain ⟨j, hj, ho⟩ := firstO_some h
      exact oAside_ok hk (by omega) ho
  · cases h
theorem fault_ok {d : D} {e : Fa} (hs : small d = true) (h : fault d = some e) : FaOk e := by
  cases hsh : pShape d with
  | false =>
    rw [fault_shape hsh] at h
    cases h
    exact ⟨gB_ok (by decide +kernel), gB_ok (by decide +kernel)⟩
  | true =>
    obtain ⟨a, b, r, rs, rfl⟩ := shape_form hsh
    obtain ⟨sb, sr⟩ := small_prog hs
    obtain ⟨hl, hss⟩ := small_tup sr
    rw [fault_whole] at h
    split at h
    · cases h
      exact ⟨gB_ok (by decide +kernel), gB_ok (by decide +kernel)⟩
    · split at h
      · rename_i e' q
        cases h
        obtain ⟨j, hj, ho⟩ := firstO_some q
        exact oForm_ok (by omega) ho
      · obtain ⟨j, hj, ho⟩ := firstO_some h
        rw [Nat.zero_add] at ho
        exact oRole_ok (nth_small hss hj) (by omega) ho
/-! ### the law's question of one value -/
def due (d : D) : D := match fault d with
  | none => .tuple [.str "told", .int (rolesN d)]
  | some e => .tuple [.str "paper", .str e.1, e.2]
theorem mem2 {P : D → Prop} {a b : D} (ha : P a) (hb : P b) : ∀ x ∈ [a, b], P x := fun x hx => by
  rcases List.mem_cons.mp hx with rfl | hx
  · exact ha
  · rw [List.mem_singleton.mp hx]; exact hb
theorem mem3 {P : D → Prop} {a b c : D} (ha : P a) (hb : P b) (hc : P c) : ∀ x ∈ [a, b, c], P x := fun x hx => by
  rcases List.mem_cons.mp hx with rfl | hx
  · exact ha
  · exact mem2 hb hc x hx
theorem due_ok {d : D} (hs : small d = true) : G 200 2 (due d) := by
  unfold due
  cases e : fault d with
  | some e' =>
    obtain ⟨h1, h2⟩ := fault_ok hs e
    exact (G_tup (N := 60) (k := 1) (L := 3) (mem3 (gB_ok (by decide +kernel)) (h1.mono (by decide) (by decide)) h2) (by show 3 ≤ 3; decide) (by decide)).mono (by decide) (by decide)
  | none =>
    cases hsh : pShape d with
    | false => rw [fault_shape hsh] at e; cases e
    | true =>
      obtain ⟨a, b, r, rs, rfl⟩ := shape_form hsh
      have hl := (small_tup (small_prog hs).2).1
      exact (G_tup (N := 60) (k := 1) (L := 2) (mem2 (gB_ok (by decide +kernel)) ((int_small hl).mono (by decide) (by decide))) (by show 2 ≤ 2; decide) (by decide)).mono (by decide) (by decide)
theorem due2_ok {d : D} (hs : small d = true) : reprOk (.list [due d, due d]) = true := ((G_lst (N := 200) (k := 2) (L := 2) (mem2 (due_ok hs) (due_ok hs)) (by show 2 ≤ 2; decide) (by decide)).ok (by decide) (by decide)).2
theorem heard_ok {tol : Str} {ncl : Nat} {gx : XV → Option D} {m : ME} {ρ : List Sl} {f f1 : FS} {d : D} (h : m ρ f = .ok d f1) : eHeard tol ncl gx m ρ f = .ok (.tuple [.str tol, d]) f1 := by unfold eHeard; rw [h]
theorem heard_exc {tol : Str} {ncl : Nat} {gx : XV → Option D} {m : ME} {ρ : List Sl} {f f1 : FS} {x : XV} {d : D} (h : m ρ f = .exc x f1) (hc : x.cls < ncl) (hg : gx x = some d) : eHeard tol ncl gx m ρ f = .ok d f1 := by
  unfold eHeard
  rw [h]
  dsimp only
  rw [if_pos hc, hg]
  rfl
/-! ### what is drawn is small and showable -/
/-! draws, picks -/
section
variable {ρ : List Sl}
end
def IsNm (d : D) : Prop := ∃ z, d = .str z ∧ Nm z
theorem nm_mem {ws : List Str} (h : (ws.all fun z => plainS z && decide (z.length ≤ 8)) = true) : ∀ x ∈ ws.map PyData.str, IsNm x := fun x hx => by
  obtain ⟨z, hz, rfl⟩ := List.mem_map.mp hx
  have q := List.all_eq_true.mp h z hz
  rw [Bool.and_eq_true, decide_eq_true_eq] at q
  exact ⟨z, rfl, q.1, q.2⟩
theorem IsNm.G {d : D} (h : IsNm d) : G 18 0 d := by
  obtain ⟨z, rfl, h⟩ := h
  exact G_str h
theorem joinL_all {p : Nat → Bool} : ∀ ls : List (List Nat), (ls.all fun l => l.all p) = true → (joinL [] ls).all p = true
  | [], _ => rfl
  | [l], h => by
    rw [List.all_cons, Bool.and_eq_true] at h
    exact h.1
  | l :: m :: r, h => by
    rw [List.all_cons, Bool.and_eq_true] at h
    have ih := joinL_all (m :: r) h.2
    unfold joinL
    rw [List.nil_append, List.all_append, h.1, ih]
    rfl
theorem join_plain (zs : List Str) (h : ∀ z ∈ zs, plainS z = true ∧ z.length = 1) : plainS (Txt.join "" zs) = true ∧ (Txt.join "" zs).length ≤ zs.length := by
  have e : Txt.join "" zs = Str.join "" zs := StrLaws.glued_eq_join "" zs
  rw [e]
  constructor
  · have t := tl_join "" zs
    have e0 : tl ("" : Str) = [] := rfl
    rw [e0] at t
    unfold plainS
    show (tl (Str.join "" zs)).all _ = true
    rw [t]
    refine joinL_all _ (List.all_eq_true.mpr fun l hl => ?_)
    obtain ⟨z, hz, rfl⟩ := List.mem_map.mp hl
    exact (h z hz).1
  · refine Nat.le_trans (StrLaws.join_length_le "" zs) ?_
    have e0 : ("" : Str).length = 0 := rfl
    rw [e0, Nat.mul_zero, Nat.add_zero]
    have : ∀ zs : List Str, (∀ z ∈ zs, plainS z = true ∧ z.length = 1) → (zs.map (·.length)).sum = zs.length := by
      intro zs
      induction zs with
      | nil => intro _; rfl
      | cons z zs ih =>
        intro h
        rw [List.map_cons, List.sum_cons, ih fun y hy => h y (List.mem_cons_of_mem _ hy), (h z List.mem_cons_self).2, List.length_cons]
        omega
    exact Nat.le_of_eq (this zs h)
theorem strs_of : ∀ {ds : List D}, (∀ d ∈ ds, ∃ z, d = .str z ∧ plainS z = true ∧ z.length = 1) → ∃ zs, strsD ds = some zs ∧ zs.length = ds.length ∧ ∀ z ∈ zs, plainS z = true ∧ z.length = 1
  | [], _ => ⟨[], rfl, rfl, fun z hz => nomatch hz⟩
  | d :: ds, h => by
    obtain ⟨z, rfl, hz⟩ := h d List.mem_cons_self
    obtain ⟨zs, e, hl, ha⟩ := strs_of fun y hy => h y (List.mem_cons_of_mem _ hy)
    refine ⟨z :: zs, ?_, by rw [List.length_cons, hl, List.length_cons], fun y hy => ?_⟩
    · show (strsD ds).map _ = _
      rw [e]
      rfl
    · rcases List.mem_cons.mp hy with rfl | hy
      · exact hz
      · exact ha y hy
theorem gJoin_nm {ys : List D} (h : ∀ d ∈ ys, ∃ z, d = .str z ∧ plainS z = true ∧ z.length = 1) (hl : ys.length ≤ 8) : ∃ d, gJoin [.str "", .list ys] = some d ∧ IsNm d := by
  obtain ⟨zs, e, hz, ha⟩ := strs_of h
  obtain ⟨p1, p2⟩ := join_plain zs ha
  refine ⟨.str (Txt.join "" zs), ?_, _, rfl, p1, by omega⟩
  show (strsD ys).bind _ = _
  rw [e, Option.bind_some, if_pos]
  have e0 : ("" : Str).length = 0 := rfl
  have : ∀ zs : List Str, (∀ z ∈ zs, plainS z = true ∧ z.length = 1) → (zs.map (·.length)).sum = zs.length := by
    intro zs
    induction zs with
    | nil => intro _; rfl
    | cons z zs ih =>
      intro h
      rw [List.map_cons, List.sum_cons, ih fun y hy => h y (List.mem_cons_of_mem _ hy), (h z List.mem_cons_self).2, List.length_cons]
      omega
  rw [this zs ha, e0]
  have : lim = 100000 := rfl
  omega
def menu18 : List Str := ["main", "kid", "server", "a", "ab", "aba", "b", "zz", "read", "stay", "role", "aside", "begin", "copy", "open", "abcdefgh", "w", "r"]
theorem letter_nm {r : Int} (h0 : 0 ≤ r) (h1 : r < 26) : ∃ d, gIx [.str "abcdefghijklmnopqrstuvwxyz", .int r] = some d ∧ ∃ z, d = .str z ∧ plainS z = true ∧ z.length = 1 := by
  have key : ((List.range 26).all fun k => match gIx [.str "abcdefghijklmnopqrstuvwxyz", .int ((k : Nat) : Int)] with | some (.str z) => plainS z && decide (z.length = 1) | _ => false) = true := by decide +kernel
  have q := List.all_eq_true.mp key r.toNat (List.mem_range.mpr (by omega))
  rw [show ((r.toNat : Nat) : Int) = r by omega] at q
  split at q
  · rename_i z e
    rw [Bool.and_eq_true, decide_eq_true_eq] at q
    exact ⟨_, e, z, rfl, q⟩
  · cases q
/-! ### sets of targets, instructions -/
theorem int_G {m : Int} {d : D} (hm : m ≤ 13) (h : IntIn m d) : G 10 0 d := by
  obtain ⟨r, rfl, a, b⟩ := h
  have key : ((List.range 13).all fun k => gB 10 0 (.int ((k : Nat) : Int))) = true := by decide +kernel
  have q := List.all_eq_true.mp key r.toNat (List.mem_range.mpr (by omega))
  rw [show ((r.toNat : Nat) : Int) = r by omega] at q
  exact gB_ok q
theorem range_in {m : Int} (h0 : 0 ≤ m) {d : D} (h : d ∈ rangeD 0 m.toNat) : IntIn m d := by
  obtain ⟨k, hk, rfl⟩ := List.mem_map.mp h
  have := List.mem_range.mp hk
  exact ⟨0 + k, rfl, by omega, by omega⟩
/-- a value that is a tuple, not empty, of moderate things -/
def Tp (N k L : Nat) (d : D) : Prop := ∃ xs, d = .tuple xs ∧ xs ≠ [] ∧ xs.length ≤ L ∧ ∀ x ∈ xs, G N k x
def NmL (ns : List D) : Prop := ns ≠ [] ∧ ns.length ≤ 12 ∧ ∀ x ∈ ns, IsNm x
theorem ev_lit {ρ : List Sl} {m : ME} {d : D} (h : ∀ f, m ρ f = .ok d f) : Ev m ρ (· = d) := fun f hf => ⟨d, f, h f, rfl, hf⟩
theorem ev_tup3 {ρ : List Sl} {a b c : ME} {N k : Nat} (ha : Ev a ρ (G N k)) (hb : Ev b ρ (G N k)) (hc : Ev c ρ (G N k)) : Ev (eTup (aCons a (aCons b (aCons c aNil)))) ρ (Tp N k 3) :=
  (ev_tup (ev_cons ha (ev_cons hb (ev_cons hc ev_nil))) fun xs q => by
    obtain ⟨_, _, rfl, _, _, _, rfl, _, _, _, rfl, _, rfl⟩ := q
    show 3 ≤ lim
    decide).mono fun d q => by
    obtain ⟨_, rfl, a, _, rfl, ha, b, _, rfl, hb, c, _, rfl, hc, rfl⟩ := q
    exact ⟨[a, b, c], rfl, by simp, by simp, fun x hx => by
      rcases List.mem_cons.mp hx with rfl | hx
      · exact ha
      · rcases List.mem_cons.mp hx with rfl | hx
        · exact hb
        · rcases List.mem_cons.mp hx with rfl | hx
          · exact hc
          · cases hx⟩
theorem ev_tup2 {ρ : List Sl} {a b : ME} {N k : Nat} (ha : Ev a ρ (G N k)) (hb : Ev b ρ (G N k)) : Ev (eTup (aCons a (aCons b aNil))) ρ (Tp N k 3) :=
  (ev_tup (ev_cons ha (ev_cons hb ev_nil)) fun xs q => by
    obtain ⟨_, _, rfl, _, _, _, rfl, _, rfl⟩ := q
    show 2 ≤ lim
    decide).mono fun d q => by
    obtain ⟨_, rfl, a, _, rfl, ha, b, _, rfl, hb, rfl⟩ := q
    exact ⟨[a, b], rfl, by simp, by simp, fun x hx => by
      rcases List.mem_cons.mp hx with rfl | hx
      · exact ha
      · rcases List.mem_cons.mp hx with rfl | hx
        · exact hb
        · cases hx⟩
theorem ev_tup1 {ρ : List Sl} {a : ME} {N k : Nat} (ha : Ev a ρ (G N k)) : Ev (eTup (aCons a aNil)) ρ (Tp N k 3) :=
  (ev_tup (ev_cons ha ev_nil) fun xs q => by
    obtain ⟨_, _, rfl, _, rfl⟩ := q
    show 1 ≤ lim
    decide).mono fun d q => by
    obtain ⟨_, rfl, a, _, rfl, ha, rfl⟩ := q
    exact ⟨[a], rfl, by simp, by simp, fun x hx => by
      rcases List.mem_cons.mp hx with rfl | hx
      · exact ha
      · cases hx⟩
/-! asides, roles -/
def IsPair (d : D) : Prop := ∃ a b : Str, d = .tuple [.str a, .str b] ∧ Nm a ∧ Nm b
theorem IsPair.tp {d : D} (h : IsPair d) : Tp 200 1 3 d := by
  obtain ⟨a, b, rfl, ha, hb⟩ := h
  exact ⟨_, rfl, by simp, by simp, fun x hx => by
    rcases List.mem_cons.mp hx with rfl | hx
    · exact (G_str ha).mono (by decide) (by decide)
    · rcases List.mem_cons.mp hx with rfl | hx
      · exact (G_str hb).mono (by decide) (by decide)
      · cases hx⟩
theorem pairs2_of : ∀ {ds : List D}, (∀ d ∈ ds, IsPair d) → ∃ ps, pairs2 ds = some ps ∧ ps.length = ds.length ∧ ∀ p ∈ ps, Nm p.1 ∧ Nm p.2
  | [], _ => ⟨[], rfl, rfl, fun p hp => nomatch hp⟩
  | d :: ds, h => by
    obtain ⟨a, b, rfl, ha, hb⟩ := h d List.mem_cons_self
    obtain ⟨ps, e, hl, hp⟩ := pairs2_of fun y hy => h y (List.mem_cons_of_mem _ hy)
    refine ⟨(a, b) :: ps, ?_, by rw [List.length_cons, hl, List.length_cons], fun p q => ?_⟩
    · show (some (a, b)).bind _ = _
      rw [Option.bind_some, e]
      rfl
    · rcases List.mem_cons.mp q with rfl | q
      · exact ⟨ha, hb⟩
      · exact hp p q
theorem dedup2_mem : ∀ (xs acc : List (Str × Str)) (p : Str × Str), p ∈ dedup2 xs acc → p ∈ xs ∨ p ∈ acc
  | [], acc, p, h => .inr h
  | x :: xs, acc, p, h => by
    unfold dedup2 at h
    rcases dedup2_mem xs _ p h with q | q
    · exact .inl (List.mem_cons_of_mem _ q)
    · split at q
      · exact .inr q
      · rcases List.mem_append.mp q with q | q
        · exact .inr q
        · rw [List.mem_singleton] at q
          subst q
          exact .inl List.mem_cons_self
theorem dedup2_len : ∀ (xs acc : List (Str × Str)), (dedup2 xs acc).length ≤ xs.length + acc.length
  | [], acc => by unfold dedup2; simp
  | x :: xs, acc => by
    unfold dedup2
    refine Nat.le_trans (dedup2_len xs _) ?_
    rw [List.length_cons]
    by_cases q : x ∈ acc
    · rw [if_pos q]; omega
    · rw [if_neg q, List.length_append, List.length_singleton]; omega
theorem sortSet_ok {ds : List D} (h : ∀ d ∈ ds, IsPair d) (hl : ds.length ≤ 4) : ∃ z, gSortSet [.list ds] = some z ∧ ∃ xs, z = .list xs ∧ xs.length ≤ 4 ∧ ∀ x ∈ xs, IsPair x := by
  obtain ⟨ps, e, hp, hm⟩ := pairs2_of h
  refine ⟨_, by show (pairs2 ds).bind _ = _; rw [e, Option.bind_some, if_pos (by omega)], _, rfl, ?_, fun x hx => ?_⟩
  · rw [List.length_map, List.length_mergeSort]
    have := dedup2_len ps []
    simp at this
    omega
  · obtain ⟨p, hp2, rfl⟩ := List.mem_map.mp hx
    have := (List.mergeSort_perm (dedup2 ps []) (PySem.W.dataLe false pairD)).mem_iff.mp hp2
    rcases dedup2_mem ps [] p this with q | q
    · exact ⟨p.1, p.2, rfl, hm p q⟩
    · cases q
/-- a tuple of pairs -/
def AsT (d : D) : Prop := ∃ xs, d = .tuple xs ∧ xs.length ≤ 4 ∧ ∀ x ∈ xs, IsPair x
def IsRole (d : D) : Prop := ∃ (z : Str) (pl as : List D), d = .tuple [.str z, .tuple pl, .tuple as] ∧ Nm z ∧ pl ≠ [] ∧ pl.length ≤ 12 ∧ (∀ x ∈ pl, Tp 200 1 3 x) ∧ as.length ≤ 4 ∧ ∀ x ∈ as, IsPair x
theorem Tp.G {N k L : Nat} {d : D} (h : Tp N k L d) (hL : L ≤ 1000) : Mir.G (L * (N + 2) + 4) (k + 1) d := by
  obtain ⟨xs, rfl, _, hl, hg⟩ := h
  exact G_tup hg hl hL
theorem IsRole.G {d : D} (h : IsRole d) : Mir.G 40000 4 d := by
  obtain ⟨z, pl, as, rfl, hz, _, hl, hp, ha, hap⟩ := h
  refine (G_tup (N := 10000) (k := 3) (L := 3) (fun x hx => ?_) (by simp) (by decide)).mono (by decide) (by decide)
  rcases List.mem_cons.mp hx with rfl | hx
  · exact (G_str hz).mono (by decide) (by decide)
  · rcases List.mem_cons.mp hx with rfl | hx
    · exact (G_tup (fun x hx => (hp x hx).G (by decide)) hl (by decide)).mono (by decide) (by decide)
    · rcases List.mem_cons.mp hx with rfl | hx
      · exact (G_tup (fun x hx => (hap x hx).tp.G (by decide)) ha (by decide)).mono (by decide) (by decide)
      · cases hx
def Tip (d : D) : Prop := ∃ a b, d = .tuple [a, b] ∧ G 18 0 a ∧ G 18 0 b
def IsProg (d : D) : Prop := ∃ tip rs, d = .tuple [tip, .tuple rs] ∧ Tip tip ∧ rs ≠ [] ∧ rs.length ≤ 5 ∧ ∀ x ∈ rs, IsRole x
/-! a value twisted -/
def Part (xs : List D) (L : Nat) (d : D) : Prop := ∃ ys, d = .tuple ys ∧ ys.length ≤ L ∧ ∀ y ∈ ys, y ∈ xs
theorem part_cut (xs : List D) (lo hi : Option Int) : Part xs xs.length (.tuple (cutD xs lo hi)) := by
  refine ⟨_, rfl, ?_, fun y hy => ?_⟩
  · unfold cutD
    rw [List.length_take, List.length_drop]
    omega
  · unfold cutD at hy
    exact List.mem_of_mem_drop (List.mem_of_mem_take hy)
theorem ev_upTo {ρ : List Sl} {m n : ME} {xs : List D} (hm : Ev m ρ (· = .tuple xs)) (hn : Ev n ρ (fun d => ∃ i, d = .int i)) : Ev (eSl m oNo (oAt n)) ρ (Part xs xs.length) := fun f hf => by
  obtain ⟨_, f1, e1, rfl, hf1⟩ := hm f hf
  obtain ⟨_, f2, e2, ⟨i, rfl⟩, hf2⟩ := hn f1 hf1
  refine ⟨_, f2, ?_, part_cut xs none (some i), hf2⟩
  unfold eSl
  rw [e1, R.bind_ok]
  show ((oAt n ρ f1).bind fun u f3 => ofO (gSl none u [.tuple xs]) f3) = _
  unfold oAt
  rw [e2]
  rfl
theorem ev_from {ρ : List Sl} {m n : ME} {xs : List D} (hm : Ev m ρ (· = .tuple xs)) (hn : Ev n ρ (fun d => ∃ i, d = .int i)) : Ev (eSl m (oAt n) oNo) ρ (Part xs xs.length) := fun f hf => by
  obtain ⟨_, f1, e1, rfl, hf1⟩ := hm f hf
  obtain ⟨_, f2, e2, ⟨i, rfl⟩, hf2⟩ := hn f1 hf1
  refine ⟨_, f2, ?_, part_cut xs (some i) none, hf2⟩
  unfold eSl
  rw [e1, R.bind_ok]
  unfold oAt
  rw [e2]
  rfl
theorem part_add {xs : List D} {L M : Nat} {x y : D} (h : Part xs L x) (h2 : Part xs M y) (hl : L + M ≤ 1000) : ∃ z, gAdd [x, y] = some z ∧ Part xs (L + M) z := by
  obtain ⟨as, rfl, a1, a2⟩ := h
  obtain ⟨bs, rfl, b1, b2⟩ := h2
  have hlim : lim = 100000 := rfl
  refine ⟨.tuple (as ++ bs), by show (if as.length + bs.length ≤ lim then _ else _) = _; rw [if_pos (by omega)], _, rfl, by rw [List.length_append]; omega, fun y hy => ?_⟩
  rcases List.mem_append.mp hy with q | q
  · exact a2 y q
  · exact b2 y q
theorem Part.mono {xs zs : List D} {L M : Nat} {d : D} (h : Part xs L d) (h1 : ∀ x ∈ xs, x ∈ zs) (h2 : L ≤ M) : Part zs M d := by
  obtain ⟨ys, rfl, a, b⟩ := h
  exact ⟨ys, rfl, by omega, fun y hy => h1 y (b y hy)⟩
def odd16 : List D := [.none, .bool true, .bool false, .int 0, .int 1, .int (-1), .str "", .str "a", .str "r", .list [], .tuple [], .str "open", .str "none", .tuple [.int 0], .tuple [.str "copy", .str "a"], .int (10 ^ 59)]
/-! odd values -/
def bnd : Nat → Nat
  | 0 => 100
  | j + 1 => 6 * (bnd j + 2) + 4
def GT (j : Nat) (d : D) : Prop := G (bnd j) j d
theorem bnd_ge : ∀ j, 100 ≤ bnd j
  | 0 => Nat.le_refl _
  | j + 1 => by have := bnd_ge j; unfold bnd; omega
theorem GT_tup {j : Nat} {xs : List D} (hl : xs.length ≤ 6) (h : ∀ x ∈ xs, GT j x) : GT (j + 1) (.tuple xs) := G_tup h hl (by decide)
theorem GT_lst {j : Nat} {xs : List D} (hl : xs.length ≤ 6) (h : ∀ x ∈ xs, GT j x) : GT (j + 1) (.list xs) := G_lst h hl (by decide)
theorem GT_str {j : Nat} {z : Str} (h : plainS z = true) (hl : z.length ≤ 40) : GT j (.str z) := by
  have := bnd_ge j
  refine ⟨?_, h, ?_, Nat.zero_le _⟩
  · unfold small
    have : lim = 100000 := rfl
    exact decide_eq_true (by omega)
  · unfold wt; omega
theorem GT_cl {j : Nat} {d : D} (h : gB 100 j d = true) : GT j d := (gB_ok h).mono (bnd_ge j) (Nat.le_refl _)
theorem GT_nil {j : Nat} : ∀ x ∈ ([] : List D), GT j x := fun x hx => nomatch hx
theorem GT_cons {j : Nat} {y : D} {ys : List D} (h : GT j y) (hs : ∀ x ∈ ys, GT j x) : ∀ x ∈ y :: ys, GT j x := fun x hx => by
  rcases List.mem_cons.mp hx with rfl | hx
  · exact h
  · exact hs x hx
def oddA (z : Str) : List D := [.none, .list [], .list [.tuple [.str "copy", .str z]], .tuple [.tuple [.str "copy", .str z], .tuple [.str "copy", .str z]], .tuple [.str "copy", .str z], .tuple [.tuple [.str "start", .str z], .tuple [.str "copy", .str z]], .tuple [.tuple [.str "read", .str z]], .tuple [.list [.str "copy", .str z]], .tuple [.tuple [.str "copy", .str z, .int 0]], .str "copy",
    .tuple [.tuple [.str "copy", .str ""]], .tuple [.tuple [.str (z ++ "A"), .str "copy"]], .tuple [.tuple [.str "copy", .str z], .none], .tuple [.tuple [.str "copy", .str "A"]], .tuple [.str "copy"], .int 0, .tuple [.tuple [.str "copy", .int 0]]]
def oi0 (z : Str) : List D := [.none, .tuple [], .list [], .str "stay", .tuple [.str "stay", .int 0], .tuple [.str "end", .int 0], .tuple [.str "go", .tuple []], .tuple [.str "go", .int 0], .tuple [.str "go", .tuple [.int 1, .int 0]], .tuple [.str "go", .tuple [.int 0, .int 0]], .tuple [.str "go", .list [.int 0]], .tuple [.str "go", .tuple [.list [.int 0]]], .tuple [.str "go", .tuple [.int 0, .list [.int 1]]]]
def oi1 (z : Str) : List D := [.tuple [.str "go", .tuple [.bool true]], .tuple [.str "go", .tuple [.int 0], .int 0], .tuple [.str "copy", .str z], .tuple [.str "copy", .str z, .bool true], .tuple [.str "copy", .str z, .int (-1)], .tuple [.str "copy", .str "A", .int 0]]
def oi2 (z : Str) : List D := [.tuple [.str "copy", .none, .int 0], .tuple [.str "start", .str z, .int 0, .int 0], .tuple [.str "start", .str "", .int 0], .tuple [.str "mark", .str "x", .int 0], .tuple [.str "mark", .str "w"], .tuple [.str "mark", .int 0, .str "w"]]
def oi3 (z : Str) : List D := [.tuple [.str "mark", .tuple [.str "w"], .int 0], .tuple [.str "close", .str "r", .none], .tuple [.str "close", .str "r", .str "0"], .tuple [.str "close", .str "rw", .int 0], .tuple [.str "read"], .tuple [.str "read", .int (-1)]]
def oi4 (z : Str) : List D := [.tuple [.str "read", .bool true], .tuple [.str "read", .int 0, .int 0], .tuple [.str "write", .none], .tuple [.str "wait", .tuple [.int 0]], .list [.str "read", .int 0], .tuple [.str "Read", .int 0], .tuple [.str "kill", .int 0]]
def oi5 (z : Str) : List D := [.tuple [.str "aside", .int 0], .tuple [.int 0], .tuple [.tuple [.str "read"], .int 0], .tuple [.str "read", .str "0"], .tuple [.str "start", .str "abcdefghi", .int 0], .tuple [.str "wait", .bool false], .tuple [.str "go", .tuple [.int 0, .none]]]
section
variable {ρ : List Sl} {i : Nat}
/-- a call of one argument -/
theorem ev_call1 {m : ME} {mf : List D → FS → R D} {P Q : D → Prop} (h0 : ρ[i]? = some .fd) (hm : Ev m ρ P) (h : ∀ d, P d → EvF mf [d] Q) : Ev (eCall true mf (aFd i (aCons m aNil))) ρ Q :=
  ev_callF (ev_aFd h0 (ev_cons hm ev_nil)) fun ys q => by
    obtain ⟨d, _, rfl, hd, rfl⟩ := q
    exact h d hd
theorem ev_call0 {mf : List D → FS → R D} {Q : D → Prop} (h0 : ρ[i]? = some .fd) (h : EvF mf [] Q) : Ev (eCall true mf (aFd i aNil)) ρ Q :=
  ev_callF (ev_aFd h0 ev_nil) fun ys q => by subst q; exact h
end
/-- a tuple that may be twisted -/
def Tw (d : D) : Prop := ∃ xs, d = .tuple xs ∧ xs.length ≤ 12 ∧ ∀ x ∈ xs, G 8000 3 x
theorem Tw.G {d : D} (h : Tw d) : Mir.G 400000 5 d := by
  obtain ⟨xs, rfl, a, b⟩ := h
  exact (G_tup b a (by decide)).mono (by decide) (by decide)
/-- a list of so many, each of them P -/
def LsP (P : D → Prop) (n : Nat) (d : D) : Prop := ∃ xs, d = .list xs ∧ xs.length = n ∧ ∀ x ∈ xs, P x
theorem ls_add {P : D → Prop} {n m : Nat} {x y : D} (h : LsP P n x) (h2 : LsP P m y) (hl : n + m ≤ 1000) : ∃ z, gAdd [x, y] = some z ∧ LsP P (n + m) z := by
  obtain ⟨as, rfl, a1, a2⟩ := h
  obtain ⟨bs, rfl, b1, b2⟩ := h2
  have hlim : lim = 100000 := rfl
  refine ⟨.list (as ++ bs), by show (if as.length + bs.length ≤ lim then _ else _) = _; rw [if_pos (by omega)], _, rfl, by rw [List.length_append]; omega, fun y hy => ?_⟩
  rcases List.mem_append.mp hy with q | q
  · exact a2 y q
  · exact b2 y q
theorem g3m {N k : Nat} {a b c : D} (ha : G N k a) (hb : G N k b) (hc : G N k c) : G (3 * (N + 2) + 4) (k + 1) (.tuple [a, b, c]) := G_tup (L := 3) (fun x hx => by
  rcases List.mem_cons.mp hx with rfl | hx
  · exact ha
  · rcases List.mem_cons.mp hx with rfl | hx
    · exact hb
    · rcases List.mem_cons.mp hx with rfl | hx
      · exact hc
      · cases hx) (by simp) (by decide)
theorem ev_tup3G {ρ : List Sl} {a b c : ME} {N k : Nat} (ha : Ev a ρ (G N k)) (hb : Ev b ρ (G N k)) (hc : Ev c ρ (G N k)) : Ev (eTup (aCons a (aCons b (aCons c aNil)))) ρ (G (3 * (N + 2) + 4) (k + 1)) :=
  (ev_tup3 ha hb hc).mono fun d q => by
    obtain ⟨xs, rfl, _, hl, hg⟩ := q
    exact G_tup hg hl (by decide)
/-! ### lists and tuples of bounded things -/
def AG (N k n : Nat) (xs : List D) : Prop := xs.length = n ∧ ∀ x ∈ xs, G N k x
def LG (N k n : Nat) (d : D) : Prop := ∃ xs, d = .list xs ∧ AG N k n xs
def TG (N k L : Nat) (d : D) : Prop := ∃ xs, d = .tuple xs ∧ xs.length ≤ L ∧ ∀ x ∈ xs, G N k x
section
variable {ρ : List Sl} {N k n : Nat}
theorem ev_nilG : Ev aNil ρ (AG N k 0) := ev_nil.mono fun xs q => by subst q; exact ⟨rfl, fun x hx => nomatch hx⟩
theorem ev_consG {m : ME} {ms : MA} (h : Ev m ρ (G N k)) (hs : Ev ms ρ (AG N k n)) : Ev (aCons m ms) ρ (AG N k (n + 1)) := (ev_cons h hs).mono fun xs q => by
  obtain ⟨d, ds, rfl, hd, hl, ha⟩ := q
  exact ⟨by rw [List.length_cons, hl], fun x hx => (List.mem_cons.mp hx).elim (fun e => e ▸ hd) (ha x)⟩
theorem ev_lstG {ms : MA} (h : Ev ms ρ (AG N k n)) (hn : n ≤ 1000) : Ev (eLst ms) ρ (LG N k n) := (ev_lst h fun xs q => by have : lim = 100000 := rfl; have := q.1; omega).mono fun d q => q
theorem ev_tupG {ms : MA} (h : Ev ms ρ (AG N k n)) (hn : n ≤ 1000) : Ev (eTup ms) ρ (TG N k n) := (ev_tup h fun xs q => by have : lim = 100000 := rfl; have := q.1; omega).mono fun d q => by
  obtain ⟨xs, rfl, hl, ha⟩ := q
  exact ⟨xs, rfl, Nat.le_of_eq hl, ha⟩
theorem TG.g {L : Nat} {d : D} (h : TG N k L d) (hL : L ≤ 1000) : G (L * (N + 2) + 4) (k + 1) d := by
  obtain ⟨xs, rfl, hl, ha⟩ := h
  exact G_tup ha hl hL
theorem LG.g {d : D} (h : LG N k n d) (hL : n ≤ 1000) : G (n * (N + 2) + 4) (k + 1) d := by
  obtain ⟨xs, rfl, hl, ha⟩ := h
  exact G_lst ha (Nat.le_of_eq hl) hL
theorem tg_add {L M : Nat} {x y : D} (h : TG N k L x) (h2 : TG N k M y) (hl : L + M ≤ 1000) : ∃ z, gAdd [x, y] = some z ∧ TG N k (L + M) z := by
  obtain ⟨as, rfl, a1, a2⟩ := h
  obtain ⟨bs, rfl, b1, b2⟩ := h2
  have hlim : lim = 100000 := rfl
  refine ⟨.tuple (as ++ bs), by show (if as.length + bs.length ≤ lim then _ else _) = _; rw [if_pos (by omega)], _, rfl, by rw [List.length_append]; omega, fun y hy => ?_⟩
  rcases List.mem_append.mp hy with q | q
  · exact a2 y q
  · exact b2 y q
theorem TG.mono {L M N2 k2 : Nat} {d : D} (h : TG N k L d) (h1 : N ≤ N2) (h2 : k ≤ k2) (h3 : L ≤ M) : TG N2 k2 M d := by
  obtain ⟨xs, rfl, hl, ha⟩ := h
  exact ⟨xs, rfl, by omega, fun x hx => (ha x hx).mono h1 h2⟩
theorem part_tg {xs : List D} {L : Nat} {d : D} (h : Part xs L d) (ha : ∀ x ∈ xs, G N k x) : TG N k L d := by
  obtain ⟨ys, rfl, hl, hm⟩ := h
  exact ⟨ys, rfl, hl, fun y hy => ha y (hm y hy)⟩
theorem G_t3 {A B C i j l M K : Nat} {a b c : D} (ha : G A i a) (hb : G B j b) (hc : G C l c) (hM : A + B + C + 10 ≤ M) (hi : i + 1 ≤ K) (hj : j + 1 ≤ K) (hl : l + 1 ≤ K) : G M K (.tuple [a, b, c]) := by
  obtain ⟨a1, a2, a3, a4⟩ := ha
  obtain ⟨b1, b2, b3, b4⟩ := hb
  obtain ⟨c1, c2, c3, c4⟩ := hc
  refine ⟨?_, ?_, ?_, ?_⟩
  · unfold small
    rw [decide_eq_true (by show 3 ≤ lim; decide)]
    simp only [smalls, a1, b1, c1, Bool.and_self]
  · unfold nice
    simp only [nices, a2, b2, c2, Bool.and_self]
  · unfold wt
    simp only [wts]
    omega
  · unfold PyData.depth
    simp only [PyData.depthAll]
    omega
theorem ev_t3G {A B C i j l M K : Nat} {ma mb mc : ME} (ha : Ev ma ρ (G A i)) (hb : Ev mb ρ (G B j)) (hc : Ev mc ρ (G C l)) (hM : A + B + C + 10 ≤ M) (hi : i + 1 ≤ K) (hj : j + 1 ≤ K) (hl : l + 1 ≤ K) : Ev (eTup (aCons ma (aCons mb (aCons mc aNil)))) ρ (G M K) :=
  (ev_tup (ev_cons ha (ev_cons hb (ev_cons hc ev_nil))) fun xs q => by
    obtain ⟨_, _, rfl, _, _, _, rfl, _, _, _, rfl, _, rfl⟩ := q
    show 3 ≤ lim
    decide).mono fun d q => by
    obtain ⟨_, rfl, a, _, rfl, h1, b, _, rfl, h2, c, _, rfl, h3, rfl⟩ := q
    exact G_t3 h1 h2 h3 hM hi hj hl
end
theorem sortSet6 {ds : List D} (h : ∀ d ∈ ds, IsPair d) (hl : ds.length ≤ 6) : ∃ z, gSortSet [.list ds] = some z ∧ ∃ xs, z = .list xs ∧ xs.length ≤ 6 ∧ ∀ x ∈ xs, IsPair x := by
  obtain ⟨ps, e, hp, hm⟩ := pairs2_of h
  refine ⟨_, by show (pairs2 ds).bind _ = _; rw [e, Option.bind_some, if_pos (by omega)], _, rfl, ?_, fun x hx => ?_⟩
  · rw [List.length_map, List.length_mergeSort]
    have := dedup2_len ps []
    simp at this
    omega
  · obtain ⟨p, hp2, rfl⟩ := List.mem_map.mp hx
    have := (List.mergeSort_perm (dedup2 ps []) (PySem.W.dataLe false pairD)).mem_iff.mp hp2
    rcases dedup2_mem ps [] p this with q | q
    · exact ⟨p.1, p.2, rfl, hm p q⟩
    · cases q
/-! ### a role spoilt -/
abbrev Sp (z : Str) (pl as ns : List D) (w p : Int) (s8 s9 : Sl) : List Sl := [.fd, .d (.tuple [.str z, .tuple pl, .tuple as]), .d (.list ns), .d (.int w), .d (.int p), .d (.str z), .d (.tuple pl), .d (.tuple as), s8, s9]
section
variable {z : Str} {pl as ns : List D} {w p : Int} {s8 s9 : Sl}
theorem sp_is (n : Int) : Ev (tB (eBin gEq (eVar 3) (eC (.int n)))) (Sp z pl as ns w p s8 s9) (fun _ => True) := ev_tB (ev_bin (ev_var rfl) ev_c fun x y hx hy => by
  subst hx hy
  exact ⟨_, gEq_int _ _, _, rfl, trivial⟩)
theorem sp_turn {P : D → Prop} {n : Int} {body rest : MS} (hm : EvS body (Sp z pl as ns w p s8 s9) (fun _ => False) P) (hr : EvS rest (Sp z pl as ns w p s8 s9) (fun _ => False) P) : EvS (sSeq (sIf (tB (eBin gEq (eVar 3) (eC (.int n)))) body sSkip) rest) (Sp z pl as ns w p s8 s9) (fun _ => False) P :=
  evs_seq (M := fun ρ' => ρ' = Sp z pl as ns w p s8 s9) (evs_if (sp_is _) (fun _ => fun f hf => (hm f hf).imp (fun ⟨_, _, _, q, _⟩ => q.elim) id) fun _ => evs_skip rfl) fun ρ' h => by subst h; exact hr
theorem sp_mid {m : ME} (hpl : ∀ x ∈ pl, G 22288 3 x) (hl : pl.length ≤ 12) (h : Ev m (Sp z pl as ns w p s8 s9) (G 22288 3)) :
    Ev (eBin gAdd (eBin gAdd (eSl (eVar 6) (oNo) (oAt (eVar 4))) (eTup (aCons m (aNil)))) (eSl (eVar 6) (oAt (eBin gAdd (eVar 4) (eC (.int 1)))) (oNo))) (Sp z pl as ns w p s8 s9) (G 560000 4) := by
  have v6 : Ev (eVar 6) (Sp z pl as ns w p s8 s9) (· = .tuple pl) := ev_var rfl
  have v4 : Ev (eVar 4) (Sp z pl as ns w p s8 s9) (fun d => ∃ i, d = .int i) := (ev_var rfl).mono fun d e => ⟨p, e⟩
  have v41 : Ev (eBin gAdd (eVar 4) (eC (.int 1))) (Sp z pl as ns w p s8 s9) (fun d => ∃ i, d = .int i) := ev_bin (ev_var rfl) ev_c fun x y hx hy => by
    subst hx hy
    exact ⟨_, gAdd_int _ _, _, rfl⟩
  have a : Ev (eSl (eVar 6) (oNo) (oAt (eVar 4))) (Sp z pl as ns w p s8 s9) (TG 22288 3 12) := (ev_upTo v6 v4).mono fun d q => (part_tg q hpl).mono (Nat.le_refl _) (Nat.le_refl _) hl
  have b : Ev (eSl (eVar 6) (oAt (eBin gAdd (eVar 4) (eC (.int 1)))) (oNo)) (Sp z pl as ns w p s8 s9) (TG 22288 3 12) := (ev_from v6 v41).mono fun d q => (part_tg q hpl).mono (Nat.le_refl _) (Nat.le_refl _) hl
  have c : Ev (eTup (aCons m (aNil))) (Sp z pl as ns w p s8 s9) (TG 22288 3 1) := ev_tupG (ev_consG h ev_nilG) (by decide)
  exact (ev_bin (T := TG 22288 3 25) (ev_bin (T := TG 22288 3 13) a c fun x y hx hy => tg_add hx hy (by decide)) b fun x y hx hy => tg_add hx hy (by decide)).mono fun d q => (q.g (by decide)).mono (by decide) (by decide)
end
/-! ### the whole wrapped -/
def Lot (n : Nat) (d : D) : Prop := ∃ ls, d = .tuple ls ∧ ls.length = n ∧ ∀ x ∈ ls, G 600000 5 x
theorem G_t2 {A B i j M K : Nat} {a b : D} (ha : G A i a) (hb : G B j b) (hM : A + B + 8 ≤ M) (hi : i + 1 ≤ K) (hj : j + 1 ≤ K) : G M K (.tuple [a, b]) := by
  obtain ⟨a1, a2, a3, a4⟩ := ha
  obtain ⟨b1, b2, b3, b4⟩ := hb
  refine ⟨?_, ?_, ?_, ?_⟩
  · unfold small
    rw [decide_eq_true (by show 2 ≤ lim; decide)]
    simp only [smalls, a1, b1, Bool.and_self]
  · unfold nice
    simp only [nices, a2, b2, Bool.and_self]
  · unfold wt
    simp only [wts]
    omega
  · unfold PyData.depth
    simp only [PyData.depthAll]
    omega
theorem ev_t2G {ρ : List Sl} {A B i j M K : Nat} {ma mb : ME} (ha : Ev ma ρ (G A i)) (hb : Ev mb ρ (G B j)) (hM : A + B + 8 ≤ M) (hi : i + 1 ≤ K) (hj : j + 1 ≤ K) : Ev (eTup (aCons ma (aCons mb aNil))) ρ (G M K) :=
  (ev_tup (ev_cons ha (ev_cons hb ev_nil)) fun xs q => by
    obtain ⟨_, _, rfl, _, _, _, rfl, _, rfl⟩ := q
    show 2 ≤ lim
    decide).mono fun d q => by
    obtain ⟨_, rfl, a, _, rfl, h1, b, _, rfl, h2, rfl⟩ := q
    exact G_t2 h1 h2 hM hi hj
theorem Tip.g {d : D} (h : Tip d) : G 50 1 d := by
  obtain ⟨a, b, rfl, ha, hb⟩ := h
  exact G_t2 ha hb (by decide) (by decide) (by decide)
theorem Lot.g {n : Nat} {d : D} (hn : n ≤ 5) (h : Lot n d) : G 3000014 6 d := by
  obtain ⟨ls, rfl, hl, ha⟩ := h
  exact (G_tup ha (by omega : ls.length ≤ 5) (by decide)).mono (by decide) (Nat.le_refl _)
/-! ### by hand, odd values -/
def f0 : FS := ⟨[], 0, 0, 0⟩
def okH : D → Bool
  | .tuple [d, u] => small d && reprOk d && reprOk u && ((due d).shown == u.shown)
  | _ => false
abbrev Ls (s2 s3 s4 s5 s6 s7 s8 s9 s10 s11 s12 : Sl) : List Sl := [.no, .fd, s2, s3, s4, s5, s6, s7, s8, s9, s10, s11, s12]
def oddL : List D := [.none, .bool true, .int 0, .int (-1), .str "", .str "program", .tuple [], .list [], .tuple [.tuple [], .tuple []], .tuple [.str "open", .str "open"], .tuple [.tuple [.str "open", .str "open"], .tuple []], .tuple [.tuple [.none, .none], .tuple [.none]]]
theorem odd_ok : oddL.all (fun d => small d && reprOk d) = true := by decide +kernel
/-! ### a lap -/
theorem ev_orF {ρ : List Sl} {a b : MB} (ha : Ev a ρ (· = false)) (hb : Ev b ρ (· = false)) : Ev (bOr a b) ρ (· = false) := fun f hf => by
  obtain ⟨_, f1, e1, rfl, h1⟩ := ha f hf
  obtain ⟨_, f2, e2, rfl, h2⟩ := hb f1 h1
  exact ⟨false, f2, (bOr_f e1).trans e2, rfl, h2⟩
theorem evs_no {ρ : List Sl} {t : MB} {P : D → Prop} (ht : Ev t ρ (· = false)) : EvS (sIf t (sRet (eC (.bool false))) sSkip) ρ (fun ρ' => ρ' = ρ) P :=
  evs_if ht (fun h => Bool.noConfusion h) fun _ => evs_skip rfl
theorem cut_at {ls : List D} {j : Nat} (h : j < ls.length) : cutD ls none (some (j : Nat)) = ls.take j ∧ cutD ls (some ((j : Nat) + 1)) none = ls.drop (j + 1) := by
  constructor
  · unfold cutD
    have e1 : HT.sIx ls.length 0 none = 0 := rfl
    have e2 : HT.sIx ls.length ls.length (some ((j : Nat) : Int)) = min j ls.length := HT.sIx_nat _ _ j
    rw [e1, e2, List.drop_zero, Nat.sub_zero, Nat.min_eq_left (by omega)]
  · unfold cutD
    have e1 : HT.sIx ls.length 0 (some (((j : Nat) : Int) + 1)) = min (j + 1) ls.length := HT.sIx_nat _ _ (j + 1)
    have e2 : HT.sIx ls.length ls.length none = ls.length := rfl
    rw [e1, e2, Nat.min_eq_left (by omega)]
    exact List.take_of_length_le (by rw [List.length_drop]; omega)
/-! ### what is drawn is right by form, too -/
theorem EvF.and {mf : List D → FS → R D} {ds : List D} {P Q : D → Prop} (h : EvF mf ds P) (k : EvF mf ds Q) : EvF mf ds fun d => P d ∧ Q d := fun f hf => by
  obtain ⟨d, f', e, p, hf'⟩ := h f hf
  obtain ⟨d2, f2, e2, q, _⟩ := k f hf
  rw [e] at e2
  injection e2 with e2 _
  subst e2
  exact ⟨d, f', e, ⟨p, q⟩, hf'⟩
def lets (z : Str) : Bool := z.cps.toList.all fun c => decide (c ∈ letters)
def VN (d : D) : Prop := ∃ z, d = .str z ∧ pName (.str z) = true
theorem pName_iff {z : Str} : pName (.str z) = true ↔ 1 ≤ z.length ∧ z.length ≤ 8 ∧ lets z = true := by
  unfold pName lets
  rw [Bool.and_eq_true, Bool.and_eq_true, decide_eq_true_eq, decide_eq_true_eq, and_assoc]
theorem letter_plain : letters.all plainC = true := by decide +kernel
theorem lets_plain {z : Str} (h : lets z = true) : plainS z = true := by
  unfold plainS
  refine List.all_eq_true.mpr fun c hc => ?_
  exact List.all_eq_true.mp letter_plain c (of_decide_eq_true (List.all_eq_true.mp h c hc))
theorem nm_of {z : Str} (h : pName (.str z) = true) : Nm z := by
  rw [pName_iff] at h
  exact ⟨lets_plain h.2.2, h.2.1⟩
theorem VN.nm {d : D} (h : VN d) : IsNm d := by
  obtain ⟨z, rfl, h⟩ := h
  exact ⟨z, rfl, nm_of h⟩
theorem vn_mem {ws : List Str} (h : (ws.all fun z => pName (.str z)) = true) : ∀ x ∈ ws.map PyData.str, VN x := fun x hx => by
  obtain ⟨z, hz, rfl⟩ := List.mem_map.mp hx
  exact ⟨z, rfl, List.all_eq_true.mp h z hz⟩
theorem letter_vn {r : Int} (h0 : 0 ≤ r) (h1 : r < 26) : ∃ d, gIx [.str "abcdefghijklmnopqrstuvwxyz", .int r] = some d ∧ ∃ z, d = .str z ∧ lets z = true ∧ z.length = 1 := by
  have key : ((List.range 26).all fun k => match gIx [.str "abcdefghijklmnopqrstuvwxyz", .int ((k : Nat) : Int)] with | some (.str z) => lets z && decide (z.length = 1) | _ => false) = true := by decide +kernel
  have q := List.all_eq_true.mp key r.toNat (List.mem_range.mpr (by omega))
  rw [show ((r.toNat : Nat) : Int) = r by omega] at q
  split at q
  · rename_i z e
    rw [Bool.and_eq_true, decide_eq_true_eq] at q
    exact ⟨_, e, z, rfl, q⟩
  · cases q
theorem joinL_len : ∀ ls : List (List Nat), (joinL [] ls).length = (ls.map List.length).sum
  | [] => rfl
  | [l] => by simp [joinL]
  | l :: m :: r => by
    have ih := joinL_len (m :: r)
    unfold joinL
    rw [List.nil_append, List.length_append, ih, List.map_cons (a := l), List.sum_cons]
theorem len_ones {p : Str → Bool} : ∀ zs : List Str, (∀ z ∈ zs, p z = true ∧ z.length = 1) → (zs.map (·.length)).sum = zs.length := by
  intro zs
  induction zs with
  | nil => intro _; rfl
  | cons z zs ih =>
    intro h
    rw [List.map_cons, List.sum_cons, ih fun y hy => h y (List.mem_cons_of_mem _ hy), (h z List.mem_cons_self).2, List.length_cons]
    omega
theorem join_lets (zs : List Str) (h : ∀ z ∈ zs, lets z = true ∧ z.length = 1) : lets (Txt.join "" zs) = true ∧ (Txt.join "" zs).length = zs.length := by
  have e : Txt.join "" zs = Str.join "" zs := StrLaws.glued_eq_join "" zs
  rw [e]
  have t := tl_join "" zs
  have e0 : tl ("" : Str) = [] := rfl
  rw [e0] at t
  constructor
  · unfold lets
    show (tl (Str.join "" zs)).all _ = true
    rw [t]
    refine joinL_all _ (List.all_eq_true.mpr fun l hl => ?_)
    obtain ⟨z, hz, rfl⟩ := List.mem_map.mp hl
    exact (h z hz).1
  · have e1 : (Str.join "" zs).length = (tl (Str.join "" zs)).length := (Array.length_toList).symm
    rw [e1, t, joinL_len, List.map_map, ← len_ones (p := lets) zs h]
    congr 1
theorem strs_ofL : ∀ {ds : List D}, (∀ d ∈ ds, ∃ z, d = .str z ∧ lets z = true ∧ z.length = 1) → ∃ zs, strsD ds = some zs ∧ zs.length = ds.length ∧ ∀ z ∈ zs, lets z = true ∧ z.length = 1
  | [], _ => ⟨[], rfl, rfl, fun z hz => nomatch hz⟩
  | d :: ds, h => by
    obtain ⟨z, rfl, hz⟩ := h d List.mem_cons_self
    obtain ⟨zs, e, hl, ha⟩ := strs_ofL fun y hy => h y (List.mem_cons_of_mem _ hy)
    refine ⟨z :: zs, ?_, by rw [List.length_cons, hl, List.length_cons], fun y hy => ?_⟩
    · show (strsD ds).map _ = _
      rw [e]
      rfl
    · rcases List.mem_cons.mp hy with rfl | hy
      · exact hz
      · exact ha y hy
theorem gJoin_vn {ys : List D} (h : ∀ d ∈ ys, ∃ z, d = .str z ∧ lets z = true ∧ z.length = 1) (h1 : 1 ≤ ys.length) (hl : ys.length ≤ 8) : ∃ d, gJoin [.str "", .list ys] = some d ∧ VN d := by
  obtain ⟨zs, e, hz, ha⟩ := strs_ofL h
  obtain ⟨p1, p2⟩ := join_lets zs ha
  refine ⟨.str (Txt.join "" zs), ?_, _, rfl, pName_iff.mpr ⟨by omega, by omega, p1⟩⟩
  show (strsD ys).bind _ = _
  rw [e, Option.bind_some, if_pos]
  have e0 : ("" : Str).length = 0 := rfl
  rw [len_ones (p := lets) zs ha, e0]
  have : lim = 100000 := rfl
  omega
theorem cut8S {z : Str} (h : lets z = true) (h1 : 1 ≤ z.length) (hl : z.length ≤ lim) : ∃ d, gSl none (some 8) [.str z] = some d ∧ VN d := by
  refine ⟨.str (cutS z none (some 8)), by unfold gSl; dsimp only; rw [if_pos hl], _, rfl, pName_iff.mpr ?_⟩
  have e1 : HT.sIx z.length 0 none = 0 := rfl
  have e2 : HT.sIx z.length z.length (some 8) = min 8 z.length := HT.sIx_nat _ _ 8
  have e3 : z.cps.toList.length = z.length := Array.length_toList
  have len : (cutS z none (some 8)).length = min 8 z.length := by
    show (cutS z none (some 8)).cps.size = _
    unfold cutS
    rw [List.size_toArray, List.length_take, List.length_drop, e1, e2, e3]
    omega
  refine ⟨by omega, by omega, ?_⟩
  unfold lets cutS
  refine List.all_eq_true.mpr fun c hc => List.all_eq_true.mp h c ?_
  have hc : c ∈ ((z.cps.toList.drop (HT.sIx z.length 0 none)).take (HT.sIx z.length z.length (some 8) - HT.sIx z.length 0 none)) := by simpa using hc
  exact List.mem_of_mem_drop (List.mem_of_mem_take hc)
theorem str_mem {ns : List Str} {w : Str} : PyData.str w ∈ ns.map PyData.str ↔ w ∈ ns := by
  constructor
  · intro h
    obtain ⟨z, hz, e⟩ := List.mem_map.mp h
    injection e with e
    exact e ▸ hz
  · exact fun h => List.mem_map.mpr ⟨w, h, rfl⟩
theorem strs_nm {ns : List Str} (h : ∀ z ∈ ns, pName (.str z) = true) : ∀ x ∈ ns.map PyData.str, IsNm x := fun x hx => by
  obtain ⟨z, hz, rfl⟩ := List.mem_map.mp hx
  exact ⟨z, rfl, nm_of (h z hz)⟩
theorem any_str {ns : List Str} {w : Str} : ((ns.map PyData.str).any fun y => PyData.eqv y (.str w)) = decide (w ∈ ns) := by
  rw [Bool.eq_iff_iff, List.any_eq_true, decide_eq_true_eq]
  constructor
  · rintro ⟨y, hy, e⟩
    obtain ⟨z, hz, rfl⟩ := List.mem_map.mp hy
    have e : (z == w) = true := by simpa [PyData.eqv] using e
    exact eq_of_beq e ▸ hz
  · exact fun h => ⟨_, str_mem.mpr h, by simp [PyData.eqv]⟩
/-! ### instructions, asides, roles, programs: right by form, within the names -/
theorem asc_of {xs : List D} (h : ascP xs) : asc xs = true := by
  unfold asc
  refine List.all_eq_true.mpr fun k hk => ?_
  have hk : k < xs.length - 1 := List.mem_range.mp hk
  have h1 : k < xs.length := by omega
  have h2 : k + 1 < xs.length := by omega
  have e1 : nthD xs k = xs[k] := by unfold nthD; simp [h1]
  have e2 : nthD xs (k + 1) = xs[k + 1] := by unfold nthD; simp [h2]
  rw [e1, e2]
  exact List.pairwise_iff_getElem.mp h k (k + 1) h1 h2 (Nat.lt_succ_self k)
def InsOk (m : Int) (ns : List Str) (d : D) : Prop := pInstr d = true ∧ (∀ t ∈ tgts d, IntIn m t) ∧ badName ns d = false
theorem inW_in {ws : List Str} {z : Str} : inW ws (.str z) = decide (z ∈ ws) := by
  unfold inW
  rw [Bool.eq_iff_iff, List.any_eq_true, decide_eq_true_eq]
  constructor
  · rintro ⟨y, hy, e⟩
    exact eq_of_beq e ▸ hy
  · exact fun h => ⟨z, h, by simp⟩
theorem num_in {m : Int} {t : Int} (h0 : 0 ≤ t) : pNum (.int t) = true := decide_eq_true h0
theorem insOk_birth {m : Int} {ns : List Str} {w z : Str} {t : Int} (hw : w ∈ (["copy", "start"] : List Str)) (hz : pName (.str z) = true) (hm : z ∈ ns) (h0 : 0 ≤ t) (h1 : t < m) : InsOk m ns (.tuple [.str w, .str z, .int t]) := by
  refine ⟨?_, fun x hx => ?_, ?_⟩
  · have hn := num_in (m := m) h0
    simp only [List.mem_cons, List.not_mem_nil, or_false] at hw
    rcases hw with rfl | rfl
    · show (pName (.str z) && pNum (.int t)) = true
      rw [hz, hn]; rfl
    · show (pName (.str z) && pNum (.int t)) = true
      rw [hz, hn]; rfl
  · rw [List.mem_singleton.mp hx]
    exact ⟨t, rfl, h0, h1⟩
  · show (inW ["copy", "start"] (.str w) && !inW ns (.str z)) = false
    rw [inW_in, inW_in, decide_eq_true hm]
    simp
theorem insOk_end {m : Int} {ns : List Str} {w z : Str} {t : Int} (hw : w ∈ (["mark", "close"] : List Str)) (hz : z ∈ (["r", "w"] : List Str)) (h0 : 0 ≤ t) (h1 : t < m) : InsOk m ns (.tuple [.str w, .str z, .int t]) := by
  refine ⟨?_, fun x hx => ?_, ?_⟩
  · have hn := num_in (m := m) h0
    have hz2 : inW ["r", "w"] (.str z) = true := by rw [inW_in]; exact decide_eq_true hz
    simp only [List.mem_cons, List.not_mem_nil, or_false] at hw
    rcases hw with rfl | rfl
    · show (inW ["r", "w"] (.str z) && pNum (.int t)) = true
      rw [hz2, hn]; rfl
    · show (inW ["r", "w"] (.str z) && pNum (.int t)) = true
      rw [hz2, hn]; rfl
  · rw [List.mem_singleton.mp hx]
    exact ⟨t, rfl, h0, h1⟩
  · simp only [List.mem_cons, List.not_mem_nil, or_false] at hw
    rcases hw with rfl | rfl <;> rfl
theorem insOk_go {m : Int} {ns : List Str} {ts : List D} (ht : pTargets (.tuple ts) = true) (h : ∀ t ∈ ts, IntIn m t) : InsOk m ns (.tuple [.str "go", .tuple ts]) := by
  refine ⟨?_, h, rfl⟩
  show p1 pTargets [.tuple ts] = true
  exact ht
theorem insOk_one {m : Int} {ns : List Str} {w : Str} {t : Int} (hw : w ∈ (["read", "write", "wait"] : List Str)) (h0 : 0 ≤ t) (h1 : t < m) : InsOk m ns (.tuple [.str w, .int t]) := by
  refine ⟨?_, fun x hx => ?_, ?_⟩
  · have hn := num_in (m := m) h0
    simp only [List.mem_cons, List.not_mem_nil, or_false] at hw
    rcases hw with rfl | rfl | rfl <;> exact hn
  · rw [List.mem_singleton.mp hx]
    exact ⟨t, rfl, h0, h1⟩
  · rfl
theorem insOk_zero {m : Int} {ns : List Str} {w : Str} (hw : w ∈ (["stay", "end"] : List Str)) : InsOk m ns (.tuple [.str w]) := by
  refine ⟨?_, fun x hx => ?_, ?_⟩
  · simp only [List.mem_cons, List.not_mem_nil, or_false] at hw
    rcases hw with rfl | rfl <;> rfl
  · cases hx
  · rfl
theorem ev_at {ρ : List Sl} {m n : ME} {ws : List Str} {j : Int} (hm : ∀ f, m ρ f = .ok (.list (ws.map .str)) f) (hn : Ev n ρ (· = .int j)) (h0 : 0 ≤ j) (h1 : j < ws.length) : Ev (eBin gIx m n) ρ (fun d => ∃ w ∈ ws, d = .str w) :=
  (ev_bin (P := (· = .list (ws.map .str))) (T := (· ∈ ws.map PyData.str)) (ev_lit hm) hn fun x y hx hy => by
    subst hx hy
    exact atI_in h0 (by rw [List.length_map]; exact h1)).mono fun d hd => by
    obtain ⟨w, hw, rfl⟩ := List.mem_map.mp hd
    exact ⟨w, hw, rfl⟩
theorem ev_tup3S {ρ : List Sl} {a b c : ME} {P Q T : D → Prop} (ha : Ev a ρ P) (hb : Ev b ρ Q) (hc : Ev c ρ T) : Ev (eTup (aCons a (aCons b (aCons c aNil)))) ρ (fun d => ∃ x y z, d = .tuple [x, y, z] ∧ P x ∧ Q y ∧ T z) :=
  (ev_tup (ev_cons ha (ev_cons hb (ev_cons hc ev_nil))) fun xs q => by
    obtain ⟨_, _, rfl, _, _, _, rfl, _, _, _, rfl, _, rfl⟩ := q
    show 3 ≤ lim
    decide).mono fun d q => by
    obtain ⟨_, rfl, a, _, rfl, ha, b, _, rfl, hb, c, _, rfl, hc, rfl⟩ := q
    exact ⟨a, b, c, rfl, ha, hb, hc⟩
theorem ev_tup2S {ρ : List Sl} {a b : ME} {P Q : D → Prop} (ha : Ev a ρ P) (hb : Ev b ρ Q) : Ev (eTup (aCons a (aCons b aNil))) ρ (fun d => ∃ x y, d = .tuple [x, y] ∧ P x ∧ Q y) :=
  (ev_tup (ev_cons ha (ev_cons hb ev_nil)) fun xs q => by
    obtain ⟨_, _, rfl, _, _, _, rfl, _, rfl⟩ := q
    show 2 ≤ lim
    decide).mono fun d q => by
    obtain ⟨_, rfl, a, _, rfl, ha, b, _, rfl, hb, rfl⟩ := q
    exact ⟨a, b, rfl, ha, hb⟩
theorem ev_tup1S {ρ : List Sl} {a : ME} {P : D → Prop} (ha : Ev a ρ P) : Ev (eTup (aCons a aNil)) ρ (fun d => ∃ x, d = .tuple [x] ∧ P x) :=
  (ev_tup (ev_cons ha ev_nil) fun xs q => by
    obtain ⟨_, _, rfl, _, rfl⟩ := q
    show 1 ≤ lim
    decide).mono fun d q => by
    obtain ⟨_, rfl, a, _, rfl, ha, rfl⟩ := q
    exact ⟨a, rfl, ha⟩
def NsOk (ns : List Str) : Prop := ns ≠ [] ∧ ns.length ≤ 12 ∧ ∀ z ∈ ns, pName (.str z) = true
theorem NsOk.l {ns : List Str} (h : NsOk ns) : NmL (ns.map .str) := ⟨fun e => h.1 (List.map_eq_nil_iff.mp e), by rw [List.length_map]; exact h.2.1, strs_nm h.2.2⟩
/-! asides -/
def AsdOk (ns : List Str) (d : D) : Prop := ∃ w z : Str, d = pairD (w, z) ∧ w ∈ (["copy", "start"] : List Str) ∧ z ∈ ns
theorem pairs2_ofS {ns : List Str} : ∀ {ds : List D}, (∀ d ∈ ds, AsdOk ns d) → ∃ ps, pairs2 ds = some ps ∧ ps.length = ds.length ∧ ∀ p ∈ ps, AsdOk ns (pairD p)
  | [], _ => ⟨[], rfl, rfl, fun p hp => nomatch hp⟩
  | d :: ds, h => by
    obtain ⟨a, b, rfl, ha, hb⟩ := h d List.mem_cons_self
    obtain ⟨ps, e, hl, hp⟩ := pairs2_ofS fun y hy => h y (List.mem_cons_of_mem _ hy)
    refine ⟨(a, b) :: ps, ?_, by rw [List.length_cons, hl, List.length_cons], fun p q => ?_⟩
    · show (some (a, b)).bind _ = _
      rw [Option.bind_some, e]
      rfl
    · rcases List.mem_cons.mp q with rfl | q
      · exact ⟨a, b, rfl, ha, hb⟩
      · exact hp p q
theorem sortSetS {ns : List Str} {ds : List D} (h : ∀ d ∈ ds, AsdOk ns d) (hl : ds.length ≤ 50) : ∃ xs, gSortSet [.list ds] = some (.list xs) ∧ ascP xs ∧ ∀ x ∈ xs, AsdOk ns x := by
  obtain ⟨ps, e, hp, hm⟩ := pairs2_ofS h
  have nd := (dedup2_spec ps [] List.nodup_nil).1
  refine ⟨_, by show (pairs2 ds).bind _ = _; rw [e, Option.bind_some, if_pos (by omega)], sorted_ascP _ nd, fun x hx => ?_⟩
  obtain ⟨p, hp2, rfl⟩ := List.mem_map.mp hx
  have := (List.mergeSort_perm (dedup2 ps []) (PySem.W.dataLe false pairD)).mem_iff.mp hp2
  rcases dedup2_mem ps [] p this with q | q
  · exact hm p q
  · cases q
def AsdsOk (ns : List Str) (d : D) : Prop := ∃ as, d = .tuple as ∧ ascP as ∧ ∀ a ∈ as, AsdOk ns a
theorem AsdOk.p {ns : List Str} (hn : ∀ z ∈ ns, pName (.str z) = true) {d : D} (h : AsdOk ns d) : pAside d = true := by
  obtain ⟨w, z, rfl, hw, hz⟩ := h
  show (inW ["copy", "start"] (.str w) && pName (.str z)) = true
  rw [inW_in, decide_eq_true hw, hn z hz]
  rfl
theorem AsdOk.not {ns : List Str} {d : D} (h : AsdOk ns d) : badAside ns d = false := by
  obtain ⟨w, z, rfl, hw, hz⟩ := h
  show (!inW ns (.str z)) = false
  rw [inW_in, decide_eq_true hz]
  rfl
theorem AsdsOk.p {ns : List Str} (hn : ∀ z ∈ ns, pName (.str z) = true) {d : D} (h : AsdsOk ns d) : pAsides d = true := by
  obtain ⟨as, rfl, h1, h2⟩ := h
  show (as.all pAside && asc as) = true
  rw [asc_of h1, List.all_eq_true.mpr fun a ha => (h2 a ha).p hn]
  rfl
/-! roles -/
def RoleS (ns : List Str) (z : Str) (d : D) : Prop := ∃ pl as, d = .tuple [.str z, .tuple pl, .tuple as] ∧ pl ≠ [] ∧ (∀ x ∈ pl, InsOk pl.length ns x) ∧ ascP as ∧ ∀ a ∈ as, AsdOk ns a
theorem RoleS.pr {ns : List Str} {z : Str} {d : D} (hn : ∀ z ∈ ns, pName (.str z) = true) (hz : pName (.str z) = true) (h : RoleS ns z d) : pRole d = true := by
  obtain ⟨pl, as, rfl, h0, hp, a1, a2⟩ := h
  show (pName (.str z) && (!pl.isEmpty && (pl.all pInstr && pAsides (.tuple as)))) = true
  rw [hz, AsdsOk.p hn ⟨as, rfl, a1, a2⟩, List.all_eq_true.mpr fun x hx => (hp x hx).1]
  cases pl with
  | nil => exact absurd rfl h0
  | cons _ _ => rfl
theorem RoleS.name {ns : List Str} {z : Str} {d : D} (h : RoleS ns z d) : roleName d = z := by
  obtain ⟨pl, as, rfl, _⟩ := h
  rfl
theorem firstO_all {α : Type} {o : Nat → Option α} : ∀ {n k : Nat}, (∀ j, j < n → o (k + j) = none) → firstO o k n = none
  | 0, _, _ => rfl
  | n + 1, k, h => by
    unfold firstO
    have := h 0 (Nat.succ_pos _)
    rw [Nat.add_zero] at this
    rw [this]
    exact firstO_all fun j hj => by rw [show k + 1 + j = k + (j + 1) by omega]; exact h (j + 1) (by omega)
theorem RoleS.none {ns : List Str} {z : Str} {d : D} (h : RoleS ns z d) (k : Int) : oRole ns k d = none := by
  obtain ⟨pl, as, rfl, h0, hp, a1, a2⟩ := h
  rw [oRole_eq, firstO_all (n := pl.length) (k := 0) fun j hj => ?_]
  · exact firstO_all fun j hj => by
      unfold oAside
      rw [Nat.zero_add, if_neg]
      rw [(a2 _ (nthD_mem hj)).not]
      exact Bool.false_ne_true
  · obtain ⟨q1, q2, q3⟩ := hp _ (nthD_mem hj)
    unfold oPlace
    rw [Nat.zero_add, if_neg, if_neg]
    · rw [q3]; exact Bool.false_ne_true
    · intro e
      obtain ⟨t, ht, e⟩ := List.any_eq_true.mp e
      obtain ⟨j, rfl, b1, b2⟩ := q2 t ht
      have := of_decide_eq_true (show decide ((pl.length : Int) ≤ j) = true from e)
      omega
/-! programs -/
def ProgS (d : D) : Prop := ∃ tip rs, d = .tuple [tip, .tuple rs] ∧ pBegin tip = true ∧ rs ≠ [] ∧ rs.length ≤ 5 ∧ (rs.map roleName).Nodup ∧ (∀ x ∈ rs, pName (.str (roleName x)) = true) ∧ ∀ x ∈ rs, RoleS (rs.map roleName) (roleName x) x
variable {f : FS}
/-! ### what keeps the feed -/
def Keeps (r : R D) (f : FS) : Prop := (∃ d, r = .ok d f) ∨ ∃ x, r = .exc x f
theorem eCall_k {mf : List D → FS → R D} {ms : MA} {ρ : List Sl} {ds : List D} {r : R D} (h : ms ρ f = .ok ds f) (h2 : mf ds f = r) (k : Keeps r f) : eCall false mf ms ρ f = r := by
  unfold eCall
  rw [h]
  dsimp only [R.bind_ok]
  rw [h2]
  rcases k with ⟨d, rfl⟩ | ⟨x, rfl⟩ <;> rfl
theorem eCallK_k {is : List Nat} {mf : List D → FS → R D} {ms mk : MA} {ρ : List Sl} {ds es : List D} {r : R D} (h : ms ρ f = .ok ds f) (h1 : mk ρ f = .ok es f) (h2 : mf (pick is (ds ++ es)) f = r) (k : Keeps r f) : eCallK is mf ms mk ρ f = r := by
  unfold eCallK
  rw [h]
  dsimp only [R.bind_ok]
  rw [h1]
  dsimp only [R.bind_ok]
  rw [h2]
  rcases k with ⟨d, rfl⟩ | ⟨x, rfl⟩ <;> rfl
theorem eCallD_k {n m : Nat} {is : List Nat} {dd : List D} {mf : List D → FS → R D} {ms mk : MA} {ρ : List Sl} {ds es : List D} {r : R D} (h : ms ρ f = .ok ds f) (h1 : mk ρ f = .ok es f) (hl : ds.length = n ∧ es.length = m) (h2 : mf (pick is (ds ++ (es ++ dd))) f = r) (k : Keeps r f) :
    eCallD n m is dd mf ms mk ρ f = r := by
  unfold eCallD
  rw [h]
  dsimp only [R.bind_ok]
  rw [h1]
  dsimp only [R.bind_ok]
  rw [if_pos hl, h2]
  rcases k with ⟨d, rfl⟩ | ⟨x, rfl⟩ <;> rfl
theorem ret_k {m : ME} {ρ : List Sl} {r : R D} (h : m ρ f = r) (k : Keeps r f) : rOf (sRet m ρ f) = r := by
  unfold sRet
  rw [h]
  rcases k with ⟨d, rfl⟩ | ⟨x, rfl⟩ <;> rfl
theorem mfun_k {n np : Nat} {m : MS} {ds : List D} {r : R D} (hl : ds.length = np) (h : rOf (m (entry n false ds) f) = r) : mfun n np false m ds f = r := by
  unfold mfun
  rw [if_pos hl, h]
/-- what a changed program gives -/
def resR (p : D) (f : FS) : R D := match fault p with
  | none => .ok p f
  | some e => .exc ⟨0, [e.2, .str e.1]⟩ f
theorem keeps_res (p : D) : Keeps (resR p f) f := by
  unfold resR
  cases fault p with
  | none => exact .inl ⟨_, rfl⟩
  | some e => exact .inr ⟨_, rfl⟩
def useX (w : Str) : XV := ⟨1, [.int (-1), .str w]⟩
theorem keeps_exc (x : XV) : Keeps (.exc x f) f := .inr ⟨_, rfl⟩
theorem keeps_ok (d : D) : Keeps (.ok d f) f := .inl ⟨_, rfl⟩
def dueT (p : D) : D := match fault p with
  | none => .tuple [.str "told", p]
  | some e => .tuple [.str "paper", .str e.1, e.2]
def noD (w : Str) : D := .tuple [.str "use", .str w, .int (-1)]
/-! ### need -/
theorem t_need (b : Bool) (w : Str) : f_need [.bool b, .str w] f = if b = true then .ok .none f else .exc (useX w) f := by cases b <;> kernel_rfl
theorem need_at {m : ME} {ρ : List Sl} {b : Bool} {w : Str} (h : m ρ f = .ok (.bool b) f) : sDrop (eCall false f_need (aCons m (aCons (eC (.str w)) aNil))) ρ f = if b = true then .nx ρ f else .exc (useX w) f := by
  have e := t_need (f := f) b w
  cases b with
  | true => exact sDrop_ok (eCall_ff (aCons_ok h rfl) e)
  | false => exact sDrop_exc (eCall_exc (aCons_ok h rfl) e)
theorem need_t {m : ME} {ρ : List Sl} {w : Str} (h : m ρ f = .ok (.bool true) f) : sDrop (eCall false f_need (aCons m (aCons (eC (.str w)) aNil))) ρ f = .nx ρ f := need_at h
theorem need_f {m : ME} {ρ : List Sl} {w : Str} (h : m ρ f = .ok (.bool false) f) : sDrop (eCall false f_need (aCons m (aCons (eC (.str w)) aNil))) ρ f = .exc (useX w) f := need_at h
theorem eOr_ok {a b : ME} {ρ : List Sl} {x y : Bool} (h : a ρ f = .ok (.bool x) f) (h2 : x = false → b ρ f = .ok (.bool y) f) : eOr a b ρ f = .ok (.bool (x || y)) f := by
  unfold eOr
  rw [h]
  cases x with
  | true => rfl
  | false => rw [R.bind_ok, h2 rfl]; rfl
/-! ### a program's names -/
theorem fault_some {x : D} {rs : List D} (h : fault (.tuple [x, .tuple rs]) = none) : rs.all pRole = true ∧ rs ≠ [] := by
  unfold fault at h
  split at h
  · rename_i a b r rs' e
    injection e with e
    injection e with e1 e
    injection e with e2 e
    injection e2 with e2
    subst e2
    refine ⟨?_, by simp⟩
    split at h
    · cases h
    · cases q : firstO (oForm (r :: rs')) 0 (r :: rs').length with
      | none => exact forms_roles q
      | some e => rw [q] at h; cases h
  · cases h
/-! ### with_role -/
def putR (rs : List D) (r : D) (k : Nat) : List D := rs.take k ++ [r] ++ rs.drop k
def atOk (n : Nat) : D → Bool
  | .none => true
  | .int i => decide (0 ≤ i) && decide (i ≤ (n : Int))
  | _ => false
def ixOf (n : Nat) : D → Nat
  | .int i => i.toNat
  | _ => n
def freshR (rs : List D) (r : D) : Bool := pRole r && !inW (rs.map roleName) (.str (roleName r))
theorem cut_k {ls : List D} {k : Nat} (h : k ≤ ls.length) : cutD ls none (some (k : Nat)) = ls.take k ∧ cutD ls (some (k : Nat)) none = ls.drop k := by
  constructor
  · unfold cutD
    have e1 : HT.sIx ls.length 0 none = 0 := rfl
    have e2 : HT.sIx ls.length ls.length (some ((k : Nat) : Int)) = min k ls.length := HT.sIx_nat _ _ k
    rw [e1, e2, List.drop_zero, Nat.sub_zero, Nat.min_eq_left h]
  · unfold cutD
    have e1 : HT.sIx ls.length 0 (some ((k : Nat) : Int)) = min k ls.length := HT.sIx_nat _ _ k
    have e2 : HT.sIx ls.length ls.length none = ls.length := rfl
    rw [e1, e2, Nat.min_eq_left h]
    exact List.take_of_length_le (by rw [List.length_drop]; omega)
theorem putR_len {rs : List D} {r : D} {k : Nat} : (putR rs r k).length = rs.length + 1 := by
  unfold putR
  rw [List.length_append, List.length_append, List.length_take, List.length_drop, List.length_singleton]
  omega
theorem putR_mem {rs : List D} {r : D} {k : Nat} {y : D} : y ∈ putR rs r k ↔ y = r ∨ y ∈ rs := by
  unfold putR
  rw [List.mem_append, List.mem_append, List.mem_singleton]
  constructor
  · rintro ((h | h) | h)
    · exact .inr (List.mem_of_mem_take h)
    · exact .inl h
    · exact .inr (List.mem_of_mem_drop h)
  · rintro (h | h)
    · exact .inl (.inr h)
    · rw [← List.take_append_drop k rs, List.mem_append] at h
      rcases h with h | h
      · exact .inl (.inl h)
      · exact .inr h
theorem ix_le {n : Nat} {a : D} (h : atOk n a = true) : ixOf n a ≤ n := by
  cases a with
  | int i =>
    have h : (decide (0 ≤ i) && decide (i ≤ (n : Int))) = true := h
    rw [Bool.and_eq_true, decide_eq_true_eq, decide_eq_true_eq] at h
    show i.toNat ≤ n
    omega
  | none => exact Nat.le_refl _
  | _ => exact Nat.le_refl _
/-- roles[:k] + (role,) + roles[k:] -/
theorem t_put {ρ : List Sl} {m1 m2 m3 : ME} {rs : List D} {r : D} {k : Nat} (h1 : m1 ρ f = .ok (.tuple rs) f) (h2 : m2 ρ f = .ok r f) (h3 : m3 ρ f = .ok (.int (k : Nat)) f) (hk : k ≤ rs.length) (hl : rs.length + 1 ≤ lim) :
    eBin gAdd (eBin gAdd (eSl m1 (oNo) (oAt m3)) (eTup (aCons m2 (aNil)))) (eSl m1 (oAt m3) (oNo)) ρ f = .ok (.tuple (putR rs r k)) f := by
  have a1 : eSl m1 oNo (oAt m3) ρ f = .ok (.tuple (rs.take k)) f := by
    have o3 : oAt m3 ρ f = .ok (some (k : Nat)) f := by unfold oAt; rw [h3]; rfl
    unfold eSl oNo
    rw [h1]
    dsimp only [R.bind_ok]
    rw [o3]
    dsimp only [R.bind_ok]
    show ofO (some (PyData.tuple (cutD rs none (some (k : Nat))))) f = _
    rw [(cut_k hk).1]
    rfl
  have a2 : eSl m1 (oAt m3) oNo ρ f = .ok (.tuple (rs.drop k)) f := by
    have o3 : oAt m3 ρ f = .ok (some (k : Nat)) f := by unfold oAt; rw [h3]; rfl
    unfold eSl oNo
    rw [h1]
    dsimp only [R.bind_ok]
    rw [o3]
    dsimp only [R.bind_ok]
    show ofO (some (PyData.tuple (cutD rs (some (k : Nat)) none))) f = _
    rw [(cut_k hk).2]
    rfl
  refine eBin_ok (eBin_ok a1 (eTup_ok (aCons_ok h2 rfl) (by show 1 ≤ lim; decide)) (d := .tuple (rs.take k ++ [r])) ?_) a2 ?_
  · show (if (rs.take k).length + [r].length ≤ lim then _ else _) = _
    rw [if_pos]
    rw [List.length_take, List.length_singleton]
    omega
  · show (if (rs.take k ++ [r]).length + (rs.drop k).length ≤ lim then _ else _) = _
    rw [if_pos]
    · rfl
    · rw [List.length_append, List.length_take, List.length_drop, List.length_singleton]
      omega
theorem t_ix {ρ : List Sl} {a : D} {ml : ME} {n : Nat} {i : Nat} (hi : ρ[i]? = some (.d a)) (hl : ml ρ f = .ok (.int (n : Nat)) f) (h : atOk n a = true) : eIf (tB (eUn gIsN (eVar i))) ml (eVar i) ρ f = .ok (.int ((ixOf n a : Nat) : Int)) f := by
  cases a with
  | none => exact (eIf_t (tB_ok (eUn_ok (eVar_ok hi) rfl))).trans hl
  | int j =>
    refine (eIf_f (tB_ok (eUn_ok (eVar_ok hi) rfl))).trans ((eVar_ok hi).trans ?_)
    have h : (decide (0 ≤ j) && decide (j ≤ (n : Int))) = true := h
    rw [Bool.and_eq_true, decide_eq_true_eq] at h
    show _ = R.ok (PyData.int ((j.toNat : Nat) : Int)) f
    rw [show ((j.toNat : Nat) : Int) = j by omega]
  | _ => exact Bool.noConfusion h
/-! ### without_role -/
def outR (rs : List D) (z : Str) : List D := rs.filter fun r => !inW [z] (.str (roleName r))
def nameOk (rs : List D) (n : D) : Bool := inW (rs.map roleName) n && decide ((1 : Int) < ((rs.length : Nat) : Int))
theorem t_filter {ρ : List Sl} {m1 : ME} {rs : List D} {z : Str} {i j : Nat} (h1 : m1 ρ f = .ok (.tuple rs) f) (hl : rs.length ≤ lim) (hr : rs.all pRole = true) (hw : okW ρ [i] = true) (hlen : i < (wipeR ρ [i]).length) (hj : ∀ d, ((wipeR ρ [i]).set i (.d d))[j]? = some (.d (.str z))) (hi : ∀ d, ((wipeR ρ [i]).set i (.d d))[i]? = some (.d d)) :
    eList gTuple (aCons (eComp [i] (iSeq m1) (gmName i) (tB (eBin gNe (eBin gIx (eVar i) (eC (.int 0))) (eVar j))) (eVar i)) (aNil)) ρ f = .ok (.tuple (outR rs z)) f := by
  refine eList_ok (aCons_ok (eComp_ok (f1 := f) (ds := rs) (iSeq_ok h1 rfl) hl hw ((comp_filter (p := fun r => !inW [z] (.str (roleName r))) hlen _ _ fun d hd => ?_).trans (by rw [List.nil_append]; rfl))) rfl) rfl
  exact tB_ok (eBin_ok (eBin_ok (eVar_ok (hi d)) rfl (role_ix0 (List.all_eq_true.mp hr d hd))) (eVar_ok (hj d)) (gNe_w _ _ rfl))
variable {f : FS}
/-! ### sizes -/
structure PB (x : D) (rs : List D) (n : Nat) : Prop where
  tip : G 50 1 x
  len : rs.length ≤ n
  mem : ∀ r ∈ rs, G 50000 4 r
abbrev prg (x : D) (rs : List D) : D := .tuple [x, .tuple rs]
theorem PB.g {x : D} {rs : List D} {n : Nat} (h : PB x rs n) (hn : n ≤ 8) : G 400100 6 (prg x rs) :=
  G_t2 h.tip ((G_tup (L := 8) h.mem (by have := h.len; omega) (by decide)).mono (M := 400020) (j := 5) (by decide) (by decide)) (by decide) (by decide) (by decide)
theorem PB.small {x : D} {rs : List D} {n : Nat} (h : PB x rs n) (hn : n ≤ 8) : small (prg x rs) = true := (h.g hn).1
theorem PB.put {x r : D} {rs : List D} {n k : Nat} (h : PB x rs n) (hr : G 50000 4 r) : PB x (putR rs r k) (n + 1) :=
  ⟨h.tip, by rw [putR_len]; have := h.len; omega, fun y hy => by
    rcases putR_mem.mp hy with rfl | hy
    · exact hr
    · exact h.mem y hy⟩
theorem PB.out {x : D} {rs : List D} {n : Nat} {z : Str} (h : PB x rs n) : PB x (outR rs z) n :=
  ⟨h.tip, Nat.le_trans (List.length_filter_le _ _) h.len, fun y hy => h.mem y (List.mem_filter.mp hy).1⟩
theorem dueT_ok {p : D} (h : G 400100 6 p) : G 400200 7 (dueT p) := by
  unfold dueT
  cases e : fault p with
  | none => exact G_t2 (A := 30) (i := 0) (gB_ok (by decide +kernel)) h (by decide) (by decide) (by decide)
  | some z =>
    obtain ⟨h1, h2⟩ := fault_ok h.1 e
    exact G_t3 (A := 30) (i := 0) (gB_ok (by decide +kernel)) h1 h2 (by decide) (by decide) (by decide) (by decide)
theorem noD_ok {w : Str} (h : gB 30 0 (.str w) = true) : G 400200 7 (noD w) := G_t3 (A := 30) (i := 0) (C := 10) (l := 0) (gB_ok (by decide +kernel)) (gB_ok h) (gB_ok (by decide +kernel)) (by decide) (by decide) (by decide) (by decide)
theorem list_ok {xs : List D} (h : ∀ x ∈ xs, G 400200 7 x) (hl : xs.length ≤ 8) : reprOk (.list xs) = true := ((G_lst h hl (by decide)).ok (by decide) (by decide)).2
theorem one_ok {d : D} (h : G 400200 7 d) : reprOk d = true := (h.ok (by decide) (by decide)).2
/-! ### what is due -/
theorem gMul_one {d : D} : ∀ {n : Nat}, n ≤ 3 → gMul [.list [d], .int (n : Nat)] = some (.list (List.replicate n d))
  | 0, _ => by kernel_rfl
  | 1, _ => by kernel_rfl
  | 2, _ => by kernel_rfl
  | 3, _ => by kernel_rfl
  | n + 4, h => by omega
/-! ### a role put in -/
theorem inW_map {rs : List D} {z : Str} : inW (rs.map roleName) (.str z) = decide (∃ r ∈ rs, roleName r = z) := by
  rw [inW_in]
  congr 1
  exact propext (by rw [List.mem_map])
theorem out_put {rs : List D} {r : D} {k : Nat} (h : inW (rs.map roleName) (.str (roleName r)) = false) : outR (putR rs r k) (roleName r) = rs := by
  rw [inW_map] at h
  have h := of_decide_eq_false h
  have one : ∀ {y : D}, y ∈ rs → (!inW [roleName r] (.str (roleName y))) = true := fun {y} hy => by
    rw [inW_in, Bool.not_eq_true', decide_eq_false_iff_not, List.mem_singleton]
    exact fun e => h ⟨y, hy, e⟩
  unfold outR putR
  rw [List.filter_append, List.filter_append, List.filter_eq_self.mpr fun y hy => one (List.mem_of_mem_take hy), List.filter_eq_self (l := rs.drop k) |>.mpr fun y hy => one (List.mem_of_mem_drop hy)]
  have : [r].filter (fun y => !inW [roleName r] (.str (roleName y))) = [] := by
    rw [List.filter_eq_nil_iff]
    intro y hy
    rw [List.mem_singleton.mp hy, inW_in]
    simp
  rw [this, List.append_nil, List.take_append_drop]
/-! ### each role taken out -/
/-! ### lists of drawn things, any predicate -/
def AP (P : D → Prop) (n : Nat) (xs : List D) : Prop := xs.length = n ∧ ∀ x ∈ xs, P x
section
variable {ρ : List Sl} {P : D → Prop} {n : Nat}
theorem ev_nilP : Ev aNil ρ (AP P 0) := ev_nil.mono fun xs q => by subst q; exact ⟨rfl, fun x hx => nomatch hx⟩
theorem ev_consP {m : ME} {ms : MA} (h : Ev m ρ P) (hs : Ev ms ρ (AP P n)) : Ev (aCons m ms) ρ (AP P (n + 1)) := (ev_cons h hs).mono fun xs q => by
  obtain ⟨d, ds, rfl, hd, hl, ha⟩ := q
  exact ⟨by rw [List.length_cons, hl], fun x hx => (List.mem_cons.mp hx).elim (fun e => e ▸ hd) (ha x)⟩
theorem ev_lstP {ms : MA} (h : Ev ms ρ (AP P n)) (hn : n ≤ 1000) : Ev (eLst ms) ρ (fun d => ∃ xs, d = .list xs ∧ AP P n xs) := ev_lst h fun xs q => by have : lim = 100000 := rfl; have := q.1; omega
end
/-! ### odd names -/
def OddN (ns : List Str) (d : D) : Prop := d.plain = true ∧ inW ns d = false
/-! ### what is refused is refused -/
section
variable {x : D} {rs : List D} {z : Str} {pl as : List D}
abbrev Rf (x : D) (rs : List D) (r : D) (s3 s4 s5 s6 s7 s8 s9 s10 : Sl) : List Sl := [.fd, .d (prg x rs), .d r, s3, s4, s5, s6, s7, s8, s9, s10, .no, .no]
end
/-- a question that is answered True -/
theorem ev_askT {ρ : List Sl} {m : ME} (h : Ev m ρ (· = .bool true)) : Ev (bNot (tT m)) ρ (· = false) := fun f hf => by
  obtain ⟨_, f1, e, rfl, hf1⟩ := h f hf
  exact ⟨false, f1, bNot_ok (b := true) (tT_ok e rfl), rfl, hf1⟩
/-! ### programs without a fault -/
theorem begin_form {x : D} (h : pBegin x = true) : ∃ a b, x = .tuple [a, b] := by
  refine isLen2 ?_
  cases q : isLen 2 x with
  | true => rfl
  | false => rw [begin_not q] at h; cases h
theorem prog_fault {x : D} {rs : List D} (hx : pBegin x = true) (hne : rs ≠ []) (nd : (rs.map roleName).Nodup) (hr : ∀ r ∈ rs, pRole r = true) (ho : ∀ r ∈ rs, ∀ k, oRole (rs.map roleName) k r = none) : fault (prg x rs) = none := by
  obtain ⟨a, b, rfl⟩ := begin_form hx
  cases rs with
  | nil => exact absurd rfl hne
  | cons r rs =>
    rw [fault_whole, if_neg (by rw [hx]; simp), firstO_all (n := (r :: rs).length) (k := 0) fun j hj => ?_]
    · exact firstO_all fun j hj => by
        rw [Nat.zero_add]
        exact ho _ (nthD_mem hj) _
    · rw [Nat.zero_add]
      unfold oForm
      rw [if_neg (by rw [hr _ (nthD_mem hj)]; simp), if_neg]
      rw [Bool.not_eq_true, inW_in, decide_eq_false_iff_not]
      intro hin
      unfold nms at hin
      rw [List.mem_map] at hin
      obtain ⟨y, hy, e⟩ := hin
      obtain ⟨i, hi, e2⟩ := List.getElem_of_mem hy
      rw [List.length_take] at hi
      have hij : i < j := by omega
      have hil : i < (r :: rs).length := by omega
      have e3 : nthD (r :: rs) j = (r :: rs)[j] := by unfold nthD; rw [List.getD_eq_getElem?_getD, List.getElem?_eq_getElem hj]; rfl
      rw [List.getElem_take] at e2
      have pw := List.pairwise_iff_getElem.mp nd i j (by rw [List.length_map]; exact hil) (by rw [List.length_map]; exact hj) hij
      rw [List.getElem_map, List.getElem_map, e2, e, e3] at pw
      exact pw rfl
theorem InsOk.up {m : Int} {ns ns' : List Str} (hs : ∀ z ∈ ns, z ∈ ns') {d : D} (h : InsOk m ns d) : InsOk m ns' d := by
  refine ⟨h.1, h.2.1, ?_⟩
  have q := h.2.2
  unfold badName at q ⊢
  split at q
  · rename_i w z i
    rw [Bool.and_eq_false_iff] at q ⊢
    rcases q with q | q
    · exact .inl q
    · refine .inr ?_
      rw [Bool.not_eq_false', inW_in, decide_eq_true_eq] at q ⊢
      exact hs z q
  · rfl
theorem AsdOk.up {ns ns' : List Str} (hs : ∀ z ∈ ns, z ∈ ns') {d : D} (h : AsdOk ns d) : AsdOk ns' d := by
  obtain ⟨w, z, e, hw, hz⟩ := h
  exact ⟨w, z, e, hw, hs z hz⟩
theorem RoleS.up {ns ns' : List Str} (hs : ∀ z ∈ ns, z ∈ ns') {z : Str} {d : D} (h : RoleS ns z d) : RoleS ns' z d := by
  obtain ⟨pl, as, e, h0, h1, h2, h3⟩ := h
  exact ⟨pl, as, e, h0, fun x hx => (h1 x hx).up hs, h2, fun a ha => (h3 a ha).up hs⟩
theorem ProgS.ok {d : D} (h : ProgS d) : fault d = none := by
  obtain ⟨tip, rs, rfl, hb, hne, hl, nd, hn, hr⟩ := h
  have hns : ∀ z ∈ rs.map roleName, pName (.str z) = true := fun z hz => by
    obtain ⟨r, hr, rfl⟩ := List.mem_map.mp hz
    exact hn r hr
  exact prog_fault hb hne nd (fun r h => (hr r h).pr hns (hn r h)) fun r h k => (hr r h).none k
theorem putR_perm {rs : List D} {r : D} {k : Nat} : (putR rs r k).Perm (r :: rs) := by
  unfold putR
  rw [List.append_assoc]
  refine List.perm_middle.trans ?_
  show (r :: (rs.take k ++ rs.drop k)).Perm _
  rw [List.take_append_drop]
theorem full_ok {x r : D} {rs : List D} {k : Nat} {z : Str} (hb : pBegin x = true) (hne : rs ≠ []) (nd : (rs.map roleName).Nodup) (hn : ∀ r ∈ rs, pName (.str (roleName r)) = true) (hr : ∀ y ∈ rs, RoleS (rs.map roleName) (roleName y) y) (hz : pName (.str z) = true) (hzn : z ∉ rs.map roleName) (hR : RoleS (z :: rs.map roleName) z r) : fault (prg x (putR rs r k)) = none := by
  have pm := putR_perm (rs := rs) (r := r) (k := k)
  have pn : ((putR rs r k).map roleName).Perm (z :: rs.map roleName) := by
    have := pm.map roleName
    rw [List.map_cons, hR.name] at this
    exact this
  have sub : ∀ w, w ∈ z :: rs.map roleName → w ∈ (putR rs r k).map roleName := fun w hw => pn.mem_iff.mpr hw
  have hns : ∀ w ∈ z :: rs.map roleName, pName (.str w) = true := fun w hw => by
    rcases List.mem_cons.mp hw with rfl | hw
    · exact hz
    · obtain ⟨y, hy, rfl⟩ := List.mem_map.mp hw
      exact hn y hy
  refine prog_fault hb (fun e => ?_) (pn.nodup_iff.mpr (List.nodup_cons.mpr ⟨hzn, nd⟩)) (fun y hy => ?_) fun y hy k' => ?_
  · have := congrArg List.length e
    rw [putR_len] at this
    simp at this
  · rcases putR_mem.mp hy with rfl | hy
    · exact hR.pr hns hz
    · exact (hr y hy).pr (fun w hw => hns w (List.mem_cons_of_mem _ hw)) (hn y hy)
  · rcases putR_mem.mp hy with rfl | hy
    · exact (hR.up sub).none k'
    · exact ((hr y hy).up fun w hw => sub w (List.mem_cons_of_mem _ hw)).none k'
/-! ### a lap -/
abbrev Lw (s2 s3 s4 s5 s6 s7 s8 s9 s10 : Sl) : List Sl := [.no, .fd, s2, s3, s4, s5, s6, s7, s8, s9, s10]
def cl6 (s : Sl) : Prop := s = .no ∨ ∃ d, s = .d d
theorem okW6 {s2 s3 s4 s5 s6 s7 s8 s9 s10 : Sl} (h : cl6 s6) : okW (Lw s2 s3 s4 s5 s6 s7 s8 s9 s10) [6] = true := by
  rcases h with rfl | ⟨d, rfl⟩ <;> rfl
variable {f : FS}
/-! ### the pieces of a text -/
theorem split_ne (x y : Str) : Txt.split x y ≠ [] := by
  unfold Txt.split
  split
  · simp
  · split
    · simp
    · rw [PySem.StrLaws.partsBetween_eq]
      obtain ⟨p, r, e⟩ := PySem.StrLaws.partsFrom_ne x y.length 0 (Builtin.Str.occurrences x y 0 x.length (x.length + 1))
      rw [e]
      simp
def wsum (ws : List Str) : Nat := (ws.map fun w => w.length + 1).sum
theorem joinS_len (s : Nat) : ∀ ps : List (List Nat), ps ≠ [] → (joinL [s] ps).length + 1 = (ps.map fun p => p.length + 1).sum
  | [], h => absurd rfl h
  | [p], _ => by simp [joinL]
  | p :: q :: r, _ => by
    have ih := joinS_len s (q :: r) (by simp)
    show (p ++ ([s] ++ joinL [s] (q :: r))).length + 1 = _
    rw [List.map_cons, List.sum_cons, ← ih, List.length_append, List.length_append]
    simp
    omega
theorem split_sum {x y : Str} {s : Nat} (hy : tl y = [s]) : wsum (Txt.split x y) = x.length + 1 := by
  have h := congrArg tl (PySem.StrLaws.join_split x y)
  rw [tl_join, hy] at h
  have h2 := joinS_len s ((Txt.split x y).map tl) (by simpa using split_ne x y)
  rw [h, List.map_map] at h2
  unfold wsum
  rw [len_tl x, h2]
  congr 1
theorem wsum_mem {ws : List Str} {w : Str} (h : w ∈ ws) : w.length + 1 ≤ wsum ws := by
  unfold wsum
  induction ws with
  | nil => cases h
  | cons a ws ih =>
    rw [List.map_cons, List.sum_cons]
    rcases List.mem_cons.mp h with rfl | h
    · omega
    · have := ih h; omega
theorem wsum_len (ws : List Str) : ws.length ≤ wsum ws := by
  unfold wsum
  induction ws with
  | nil => exact Nat.zero_le _
  | cons a ws ih => rw [List.map_cons, List.sum_cons, List.length_cons]; omega
/-- words that are not too long -/
structure Wd (n : Nat) (ws : List Str) : Prop where
  len : ws.length ≤ n
  mem : ∀ w ∈ ws, w.length ≤ n
theorem split_wd {x y : Str} {s n : Nat} (hy : tl y = [s]) (h : x.length < n) : Wd n (Txt.split x y) := by
  have e := split_sum (x := x) hy
  refine ⟨?_, fun w hw => ?_⟩
  · have := wsum_len (Txt.split x y); omega
  · have := wsum_mem hw; omega
theorem eMt_split {m : ME} {ρ : List Sl} {z y : Str} (h : m ρ f = .ok (.str z) f) (hz : z.length ≤ 1200) (hy : (y.length == 0) = false) : eMt "str" gSplit m (aCons (eC (.str y)) aNil) ρ f = .ok (.list ((Txt.split z y).map .str)) f := by
  unfold eMt
  rw [h]
  show ofO (gSplit [.str z, .str y]) f = _
  have : lim = 100000 := rfl
  show ofO (if (y.length == 0) = false ∧ z.length + 2 ≤ lim then _ else _) f = _
  rw [if_pos ⟨hy, by omega⟩]
  rfl
/-! ### a number's word -/
def digs : List Nat := ("0123456789" : Str).cps.toList
def allDg (z : Str) : Bool := z.cps.toList.all fun c => decide (c ∈ digs)
def firstD (z : Str) : D := match z.cps.toList with
  | c :: _ => .str ⟨#[c]⟩
  | [] => .none
def numTail (z : Str) : Bool := inW ["0"] (.str z) || !inW ["0"] (firstD z)
def notNum (z : Str) : Bool := inW [""] (.str z) || (decide ((60 : Int) < ((z.length : Nat) : Int)) || !allDg z)
def isNum (z : Str) : Bool := !notNum z && numTail z
theorem str_ne {z : Str} (h : inW [""] (.str z) = false) : ∃ c cs, z.cps.toList = c :: cs := by
  cases e : z.cps.toList with
  | cons c cs => exact ⟨c, cs, rfl⟩
  | nil =>
    rw [inW_in] at h
    exact absurd (List.mem_singleton.mpr (ext_tl (x := z) (y := "") e)) (of_decide_eq_false h)
theorem tail_ok {z : Str} {s : Sl} (h : inW [""] (.str z) = false) (hz : z.length ≤ lim) : sRet (eOr (eBin gEq (eVar 0) (eC (.str "0"))) (eBin gNe (eBin gIx (eVar 0) (eC (.int 0))) (eC (.str "0")))) [.d (.str z), s] f = .ret (.bool (numTail z)) f := by
  obtain ⟨c, cs, e⟩ := str_ne h
  refine sRet_ok (eOr_ok (eBin_ok rfl rfl (gEq_w _ _)) fun _ => eBin_ok (eBin_ok (d := firstD z) rfl rfl ?_) rfl (gNe_w _ _ ?_))
  · show (if z.length ≤ lim then (atI z.cps.toList 0).map _ else none) = _
    rw [if_pos hz]
    unfold firstD
    rw [e]
    simp [atI, ixN]
  · unfold firstD
    rw [e]
    rfl
theorem not_empty {z : Str} (h : notNum z = false) : inW [""] (.str z) = false := by
  unfold notNum at h
  exact (Bool.or_eq_false_iff.mp h).1
theorem in_digs (c : Nat) : gIn [.str ⟨#[c]⟩, c_DIGITS] = some (.bool (decide (c ∈ digs))) := rfl
theorem signs_len {z : Str} (h : z.length ≤ lim) : (signsD z).length ≤ lim := by
  unfold signsD
  rw [List.length_map, Array.length_toList]
  exact h
theorem t_is_num {z : Str} (hz : z.length ≤ lim) : f__is_number_word [.str z] f = .ok (.bool (isNum z)) f := by
  have L : eList gLen (aCons (eVar 0) aNil) [.d (.str z), .no] f = .ok (.int (z.length : Nat)) f := eList_ok (aCons_ok rfl rfl) (gLen_str hz)
  refine mfun_ret rfl (guardF (c := notNum z) (x := numTail z) (bOr_ok (tB_ok (eBin_ok rfl rfl (gEq_w _ _))) fun _ => bOr_ok (tB_ok (eBin_ok L rfl (gGt_int _ _))) fun _ => ?_) fun h => tail_ok (not_empty h) hz)
  refine bNot_ok (tT_ok (b := allDg z) (eList_ok (aCons_ok (eComp_ok (iSeq_ok rfl rfl) (f2 := f) (ys := z.cps.toList.map fun c => .bool (decide (c ∈ digs))) (signs_len hz) rfl ?_) rfl) (gAll_map _ _)) rfl)
  refine (comp_map (g := fun d => match d with | .str s => (gIn [.str s, c_DIGITS]).getD .none | _ => .none) _ _ fun d hd => ?_).trans ?_
  · obtain ⟨c, _, rfl⟩ := List.mem_map.mp hd
    exact eBin_ok rfl rfl (in_digs c)
  · rw [List.nil_append, signs_all (p := fun c => decide (c ∈ digs)) fun c => rfl]
/-! its value -/
theorem val_lt : ∀ (cs : List Nat) (a : Nat), NumText.AllDigits cs → cs.foldl (fun acc c => acc * 10 + (c - 48)) a < (a + 1) * 10 ^ cs.length
  | [], a, _ => by simp
  | c :: cs, a, h => by
    have ih := val_lt cs (a * 10 + (c - 48)) h.tail
    have hc := h.head
    rw [List.foldl_cons, List.length_cons, Nat.pow_succ]
    refine Nat.lt_of_lt_of_le ih ?_
    rw [show (a + 1) * (10 ^ cs.length * 10) = ((a + 1) * 10) * 10 ^ cs.length by rw [Nat.mul_comm (10 ^ cs.length) 10, Nat.mul_assoc]]
    exact Nat.mul_le_mul_right _ (by omega)
def val (z : Str) : Nat := NumText.digitsVal z.cps.toList
theorem dig_of {c : Nat} (h : c ∈ digs) : 48 ≤ c ∧ c ≤ 57 := by
  have : digs = [48, 49, 50, 51, 52, 53, 54, 55, 56, 57] := by decide +kernel
  rw [this] at h
  simp only [List.mem_cons, List.not_mem_nil, or_false] at h
  omega
theorem num_parts {z : Str} (h : isNum z = true) : inW [""] (.str z) = false ∧ z.length ≤ 60 ∧ NumText.AllDigits z.cps.toList := by
  unfold isNum at h
  rw [Bool.and_eq_true, Bool.not_eq_true'] at h
  have h := h.1
  unfold notNum at h
  rw [Bool.or_eq_false_iff, Bool.or_eq_false_iff] at h
  obtain ⟨h1, h2, h3⟩ := h
  refine ⟨h1, ?_, ?_⟩
  · have := of_decide_eq_false h2; omega
  · unfold allDg at h3
    rw [Bool.not_eq_false', List.all_eq_true] at h3
    exact fun c hc => dig_of (of_decide_eq_true (h3 c hc))
theorem num_int {z : Str} (h : isNum z = true) : gInt [.str z] = some (.int (val z : Nat)) := by
  obtain ⟨h1, h2, h3⟩ := num_parts h
  obtain ⟨c, cs, e⟩ := str_ne h1
  show (if z.length ≤ 640 then _ else _) = _
  rw [if_pos (by omega), PySem.intText_digits h3 (by rw [e]; simp) (by omega)]
  rfl
theorem num_val {z : Str} (h : isNum z = true) : val z < 10 ^ 60 := by
  obtain ⟨h1, h2, h3⟩ := num_parts h
  have := val_lt _ 0 h3
  rw [Nat.zero_add, Nat.one_mul] at this
  refine Nat.lt_of_lt_of_le this (Nat.pow_le_pow_right (by decide) ?_)
  rw [Array.length_toList]
  exact h2
theorem G_int {k : Nat} (h : k < 10 ^ 60) : G 70 0 (.int (k : Nat)) := by
  refine ⟨rfl, ?_, ?_, Nat.le_refl _⟩
  · show decide ((k : Int).natAbs.log2 < 1920) = true
    rw [Int.natAbs_natCast]
    refine decide_eq_true ?_
    by_cases z : k = 0
    · subst z; decide
    · rw [Nat.log2_lt z]
      exact Nat.lt_of_lt_of_le h (by decide +kernel)
  · show (PyData.int (k : Nat)).shown.length ≤ 70
    have : (PyData.int (k : Nat)).shown = Str.ofString (toString ((k : Nat) : Int)) := rfl
    rw [this, len_tl, tl_num]
    exact Nat.le_trans (numL_len (by decide) h) (by decide)
/-! ### targets' words -/
def tgtD (z : Str) : List D := (Txt.split z ",").map fun w => .int (val w : Nat)
def isTgt (z : Str) : Bool := (Txt.split z ",").all isNum && asc (tgtD z)
theorem comma : tl "," = [44] := by decide +kernel
theorem blank : tl " " = [32] := by decide +kernel
theorem cmp_tgt (z : Str) : cmpOk (tgtD z) := cmp_nums (by
  unfold tgtD
  rw [List.all_map]
  refine List.all_eq_true.mpr fun w _ => ?_
  show decide ((0 : Int) ≤ ((val w : Nat) : Int)) = true
  exact decide_eq_true (by omega))
theorem ints_of {ρ : List Sl} {i : Nat} {ws : List Str} (hi : i < ρ.length) (h : ws.all isNum = true) : compLoop (gmName i) bYes (eList gInt (aCons (eVar i) aNil)) (ws.map .str) ρ f [] = .ok (ws.map fun w => .int (val w : Nat)) f := by
  refine (comp_map (g := fun d => match d with | .str w => .int (val w : Nat) | _ => .none) _ _ fun d hd => ?_).trans ?_
  · obtain ⟨w, hw, rfl⟩ := List.mem_map.mp hd
    exact eList_ok (aCons_ok (eVar_ok (List.getElem?_set_self hi)) rfl) (num_int (List.all_eq_true.mp h w hw))
  · rw [List.nil_append, List.map_map]
    rfl
theorem t_numbers_of {z : Str} (hz : z.length < 1200) (h : (Txt.split z ",").all isNum = true) : f_numbers_of [.str z] f = .ok (.tuple (tgtD z)) f := by
  refine mfun_ret rfl (sRet_ok (eList_ok (aCons_ok (eComp_ok (f1 := f) (iSeq_ok (eMt_split rfl (by omega) rfl) rfl) ?_ rfl (ints_of (by show 1 < 2; decide) h)) rfl) rfl))
  rw [List.length_map]
  have := (split_wd (x := z) comma hz).len
  have : lim = 100000 := rfl
  omega
theorem tgt_len {z : Str} (hz : z.length < 1200) : (tgtD z).length ≤ 1200 := by
  unfold tgtD
  rw [List.length_map]
  exact (split_wd comma hz).len
theorem t_is_tgt {z : Str} (hz : z.length < 1200) : f__is_targets_word [.str z] f = .ok (.bool (isTgt z)) f := by
  have W := split_wd (x := z) comma hz
  have hl : lim = 100000 := rfl
  refine (mfun_ret rfl (guardF (c := !(Txt.split z ",").all isNum) (x := asc (tgtD z)) (bNot_ok (tT_ok (b := (Txt.split z ",").all isNum) (eList_ok (aCons_ok (eComp_ok (f1 := f) (f2 := f) (ys := (Txt.split z ",").map fun w => .bool (isNum w)) (iSeq_ok (eMt_split rfl (by omega) rfl) rfl) ?_ rfl ?_) rfl) (gAll_map _ _)) rfl)) fun h => ?_)).trans ?_
  · rw [List.length_map]; have := W.len; omega
  · refine (comp_map (g := fun d => match d with | .str w => .bool (isNum w) | _ => .none) _ _ fun d hd => ?_).trans ?_
    · obtain ⟨w, hw, rfl⟩ := List.mem_map.mp hd
      exact eCall_ff (ds := [.str w]) rfl (t_is_num (by have := W.mem w hw; omega))
    · rw [List.nil_append, List.map_map]
      rfl
  · rw [Bool.not_eq_false'] at h
    have hn := tgt_len hz
    rw [sSeq_nx (sSet_ok (eCall_ff (ds := [.str z]) rfl (t_numbers_of hz h)))]
    show sRet _ [.d (.str z), .d (.tuple (tgtD z)), .no, .no, .no] f = _
    refine sRet_ok (eList_ok (aCons_ok (eComp_ok (f1 := f) (ds := zipD (tgtD z) ((tgtD z).drop 1)) (ys := (List.range ((tgtD z).length - 1)).map fun k => .bool (PySem.W.dataLt (nthD (tgtD z) k) (nthD (tgtD z) (k + 1)))) ?_ ?_ rfl ?_) rfl) (gAll_map _ _))
    · unfold iArgs
      rw [aCons_ok (d := .tuple (tgtD z)) (ds := [.tuple ((tgtD z).drop 1)]) rfl (aCons_ok (d := .tuple ((tgtD z).drop 1)) (ds := []) ?_ rfl)]
      · rfl
      · show ofO (gSl (some 1) none [.tuple (tgtD z)]) f = _
        unfold gSl
        dsimp only
        rw [cut_1]
        rfl
    · unfold zipD
      rw [List.length_map, List.length_zip]
      exact Nat.le_trans (Nat.min_le_left _ _) (by omega)
    · unfold zipD
      rw [zip_next, List.map_map]
      refine (comp_mapG (g := fun d => match d with | .tuple [a, b] => .bool (PySem.W.dataLt a b) | _ => .none) _ _ fun d hd => ?_).trans ?_
      · obtain ⟨k, hk, rfl⟩ := List.mem_map.mp hd
        have hk : k < (tgtD z).length - 1 := List.mem_range.mp hk
        refine ⟨_, rfl, eBin_ok rfl rfl ?_⟩
        show (if ltOk (nthD (tgtD z) k) (nthD (tgtD z) (k + 1)) = true then _ else _) = _
        rw [if_pos (cmp_tgt z k (by omega))]
        rfl
      · rw [List.nil_append, List.map_map]
        rfl
  · rw [Bool.not_not]
    rfl
theorem nth_map {ws : List Str} {g : Str → D} {k : Nat} (h : k < ws.length) : nthD (ws.map g) k = g (ws.getD k "") := by
  unfold nthD
  simp [h]
theorem gd_mem {ws : List Str} {k : Nat} (h : k < ws.length) : ws.getD k "" ∈ ws := by
  simp [h]
def badNum : D → Bool
  | .str w => !isNum w
  | _ => false
/-! ### numbers and their texts -/
def numS (n : Nat) : Str := Str.ofString (toString ((n : Nat) : Int))
theorem val_snoc (ds : List Nat) (c : Nat) : NumText.digitsVal (ds ++ [c]) = NumText.digitsVal ds * 10 + (c - 48) := by
  unfold NumText.digitsVal
  rw [List.foldl_append]
  rfl
theorem canon : ∀ (k : Nat) (cs : List Nat), cs.length = k → NumText.AllDigits cs → (∃ c r, cs = c :: r ∧ c ≠ 48) → numL (NumText.digitsVal cs) = cs := by
  intro k
  induction k with
  | zero => intro cs h _ ⟨c, r, e, _⟩; rw [e] at h; simp at h
  | succ k ih =>
    intro cs h hd ⟨c, r, e, hc⟩
    have hne : cs ≠ [] := by rw [e]; simp
    obtain ⟨ds, x, ec⟩ : ∃ ds x, cs = ds ++ [x] := ⟨cs.dropLast, cs.getLast hne, (List.dropLast_concat_getLast hne).symm⟩
    have hx : 48 ≤ x ∧ x ≤ 57 := hd x (by rw [ec]; simp)
    rw [ec, val_snoc]
    cases ds with
    | nil =>
      show numL (0 * 10 + (x - 48)) = [x]
      rw [numL_lt (by omega)]
      congr 1
      omega
    | cons a ds =>
      have ea : a = c := by rw [ec] at e; injection e
      have hl : (a :: ds).length = k := by rw [ec, List.length_append] at h; simpa using h
      have ih' := ih (a :: ds) hl (fun y hy => hd y (by rw [ec]; exact List.mem_append_left _ hy)) ⟨a, ds, rfl, by rw [ea]; exact hc⟩
      have h1 : 1 ≤ NumText.digitsVal (a :: ds) := by
        rcases Nat.eq_zero_or_pos (NumText.digitsVal (a :: ds)) with z | z
        · rw [z, numL_lt (by decide)] at ih'
          injection ih' with ih' _
          omega
        · exact z
      rw [numL_step (by omega), show (NumText.digitsVal (a :: ds) * 10 + (x - 48)) / 10 = NumText.digitsVal (a :: ds) by omega, ih', show 48 + (NumText.digitsVal (a :: ds) * 10 + (x - 48)) % 10 = x by omega]
theorem num_back {z : Str} (h : isNum z = true) : numS (val z) = z := by
  obtain ⟨h1, h2, h3⟩ := num_parts h
  apply ext_tl
  unfold numS
  rw [tl_num]
  have ht : numTail z = true := by
    unfold isNum at h
    exact (Bool.and_eq_true_iff.mp h).2
  unfold numTail at ht
  obtain ⟨c, cs, e⟩ := str_ne h1
  rw [Bool.or_eq_true] at ht
  rcases ht with ht | ht
  · rw [inW_in] at ht
    have := List.mem_singleton.mp (of_decide_eq_true ht)
    subst this
    decide +kernel
  · unfold val
    refine canon _ _ rfl h3 ⟨c, cs, e, fun h48 => ?_⟩
    unfold firstD at ht
    rw [e] at ht
    dsimp only at ht
    rw [h48, inW_in, Bool.not_eq_true'] at ht
    exact of_decide_eq_false ht (List.mem_singleton.mpr (by decide +kernel))
theorem numL_head : ∀ (k n : Nat), n ≤ k → 1 ≤ n → ∃ c r, numL n = c :: r ∧ c ≠ 48 := by
  intro k
  induction k with
  | zero => intro n h h1; omega
  | succ k ih =>
    intro n h h1
    by_cases h10 : n < 10
    · exact ⟨48 + n, [], numL_lt h10, by omega⟩
    · obtain ⟨c, r, e, hc⟩ := ih (n / 10) (by omega) (by omega)
      exact ⟨c, r ++ [48 + n % 10], by rw [numL_step (by omega), e]; rfl, hc⟩
theorem num_is {n : Nat} (h : n < 10 ^ 60) : isNum (numS n) = true ∧ val (numS n) = n := by
  have et : tl (numS n) = numL n := tl_num n
  have ec : (numS n).cps.toList = numL n := et
  refine ⟨?_, ?_⟩
  · unfold isNum notNum numTail
    have hl : (numS n).length ≤ 60 := by rw [len_tl, et]; exact numL_len (by decide) h
    have e1 : inW [""] (.str (numS n)) = false := by
      rw [inW_in, decide_eq_false_iff_not, List.mem_singleton]
      intro e
      have := congrArg tl e
      rw [et] at this
      exact numL_ne n this
    have e2 : allDg (numS n) = true := by
      unfold allDg
      rw [ec, List.all_eq_true]
      intro c hc
      have := numL_digits n c hc
      have hd : digs = [48, 49, 50, 51, 52, 53, 54, 55, 56, 57] := by decide +kernel
      rw [decide_eq_true_eq, hd]
      simp only [List.mem_cons, List.not_mem_nil, or_false]
      omega
    rw [e1, e2, decide_eq_false (by omega)]
    show (true && _) = true
    rw [Bool.true_and, Bool.or_eq_true]
    by_cases h0 : n = 0
    · subst h0
      left
      decide +kernel
    · right
      obtain ⟨c, r, e, hc⟩ := numL_head n n (Nat.le_refl _) (by omega)
      unfold firstD
      rw [ec, e]
      dsimp only
      rw [inW_in, Bool.not_eq_true', decide_eq_false_iff_not, List.mem_singleton]
      intro e3
      have := congrArg tl e3
      have h48 : tl "0" = [48] := by decide +kernel
      rw [h48] at this
      injection this with this _
      exact hc this
  · unfold val
    rw [ec]
    exact numL_val n
theorem num_free {n s : Nat} (h : s < 48 ∨ 57 < s) : s ∉ tl (numS n) := by
  unfold numS
  rw [tl_num]
  exact numL_free h
end Mir

set_option Elab.async false
set_option linter.all false
set_option maxRecDepth 100000
set_option maxHeartbeats 4000000
namespace Mir
open PySem PySem.Spec PyProof.Rows L2 TL
variable {f : FS}
/-! ### a step's words -/
theorem lim_eq : lim = 100000 := rfl
def wordsD (ws : List Str) : List D := ws.map .str
theorem words_len (ws : List Str) : gLen [.list (wordsD ws)] = some (.int (ws.length : Nat)) := by
  show some (PyData.int ((wordsD ws).length : Nat)) = _
  unfold wordsD
  rw [List.length_map]
theorem nth_w {ws : List Str} {k : Nat} (h : k < ws.length) : gIx [.list (wordsD ws), .int (k : Nat)] = some (.str (ws.getD k "")) := by
  show atI (wordsD ws) (k : Nat) = _
  unfold wordsD
  rw [atI_nat (by rw [List.length_map]; exact h), nth_map h]
theorem eMt_sp {m : ME} {ρ : List Sl} {z y : Str} {f1 : FS} (h : m ρ f = .ok (.str z) f1) (hz : z.length + 2 ≤ lim) (hy : (y.length == 0) = false) : eMt "str" gSplit m (aCons (eC (.str y)) aNil) ρ f = .ok (.list (wordsD (Txt.split z y))) f1 := by
  unfold eMt
  rw [h]
  show ofO (if (y.length == 0) = false ∧ z.length + 2 ≤ lim then _ else _) f1 = _
  rw [if_pos ⟨hy, hz⟩]
  rfl
theorem add0 (j : Int) : gAdd [.int 0, .int j] = some (.int j) := by
  show some (PyData.int (0 + j)) = _
  rw [Int.zero_add]
/-! the law's number word -/
def pDg : D → Bool
  | .str s => match s.cps.toList with
    | [c] => decide (c ∈ digs)
    | _ => false
  | _ => false
theorem dg_all (z : Str) : (signsD z).all pDg = allDg z := by
  unfold signsD allDg
  rw [List.all_map]
  rfl
theorem t_law_is_num {z : Str} (hz : z.length ≤ lim) : f__law_is_number [.str z] f = .ok (.bool (isNum z)) f := by
  refine mfun_ret rfl ?_
  show sSeq _ _ [.d (.str z), .no, .no] f = _
  have c1 : eComp [2] (iSeq (eVar 0)) (gmName 2) (tB (eBin gNotIn (eVar 2) (eC (.str "0123456789")))) (eVar 2) [.d (.str z), .no, .no] f = .ok (.list ((signsD z).filter fun d => !pDg d)) f := by
    refine eComp_ok (f1 := f) (f2 := f) (ds := signsD z) (iSeq_ok rfl rfl) (signs_len hz) rfl ((comp_filter (p := fun d => !pDg d) (show 2 < 3 by decide) _ _ fun d hd => ?_).trans (by rw [List.nil_append]))
    obtain ⟨c, _, rfl⟩ := List.mem_map.mp hd
    exact tB_ok (eBin_ok rfl rfl rfl)
  rw [sSeq_nx (sSet_ok c1)]
  show sRet _ [.d (.str z), .d (.list ((signsD z).filter fun d => !pDg d)), .no] f = _
  have e1 : eBin gNe (eVar 0) (eC (.str "")) [.d (.str z), .d (.list ((signsD z).filter fun d => !pDg d)), .no] f = .ok (.bool (!inW [""] (.str z))) f := eBin_ok rfl rfl (gNe_w _ _ rfl)
  have e2 : eBin gEq (eVar 1) (eLst aNil) [.d (.str z), .d (.list ((signsD z).filter fun d => !pDg d)), .no] f = .ok (.bool (allDg z)) f := by
    refine (eBin_ok rfl (eLst_ok rfl (Nat.zero_le _)) (gEq_nil _ (pl_filter (pl_signs _)))).trans ?_
    rw [filter_empty, dg_all]
  have e3 : eBin gLt (eList gLen (aCons (eVar 0) (aNil))) (eC (.int 61)) [.d (.str z), .d (.list ((signsD z).filter fun d => !pDg d)), .no] f = .ok (.bool (decide (((z.length : Nat) : Int) < 61))) f := eBin_ok (eList_ok (aCons_ok rfl rfl) (gLen_str hz)) rfl (gLt_int _ _)
  have e4 : inW [""] (.str z) = false → eOr (eBin gEq (eVar 0) (eC (.str "0"))) (eBin gNe (eBin gIx (eVar 0) (eC (.int 0))) (eC (.str "0"))) [.d (.str z), .d (.list ((signsD z).filter fun d => !pDg d)), .no] f = .ok (.bool (numTail z)) f := fun h => by
    obtain ⟨c, cs, e⟩ := str_ne h
    refine eOr_ok (eBin_ok rfl rfl (gEq_w _ _ rfl)) fun _ => eBin_ok (eBin_ok (d := firstD z) rfl rfl ?_) rfl (gNe_w _ _ ?_)
    · show (if z.length ≤ lim then (atI z.cps.toList 0).map _ else none) = _
      rw [if_pos hz]
      unfold firstD
      rw [e]
      simp [atI, ixN]
    · unfold firstD
      rw [e]
      rfl
  refine (sRet_ok (eAnd_ok (y := allDg z && (decide (((z.length : Nat) : Int) < 61) && numTail z)) e1 fun h => eAnd_ok (y := decide (((z.length : Nat) : Int) < 61) && numTail z) e2 fun _ => eAnd_ok (y := numTail z) e3 fun _ => e4 ?_)).trans ?_
  · cases q : inW [""] (.str z) with
    | false => rfl
    | true => rw [q] at h; cases h
  · congr 2
    unfold isNum notNum
    have : decide (((z.length : Nat) : Int) < 61) = !decide ((60 : Int) < ((z.length : Nat) : Int)) := by
      by_cases q : (60 : Int) < ((z.length : Nat) : Int)
      · rw [decide_eq_true q, decide_eq_false (by omega)]; rfl
      · rw [decide_eq_false q, decide_eq_true (by omega)]; rfl
    rw [this]
    cases inW [""] (.str z) <;> cases allDg z <;> cases decide ((60 : Int) < ((z.length : Nat) : Int)) <;> cases numTail z <;> rfl
/-! ### what a step's words say -/
abbrev stpW : List Str := ["go", "copy", "start", "mark", "close", "read", "write", "wait", "end", "aside"]
def hasN (ws : List Str) : Bool := decide (1 < ws.length) && inW ["go", "aside"] (.str (ws.getD 1 ""))
def isStp (z : Str) : Bool := inW stpW (.str z)
def stepF (ws : List Str) : Option Nat :=
  if isNum (ws.getD 0 "") = false then some 0
  else if ws.length < 2 ∨ isStp (ws.getD 1 "") = false then some 1
  else if hasN ws = false then (if ws.length = 2 then none else some 2)
  else if ws.length < 3 ∨ isNum (ws.getD 2 "") = false then some 2
  else if ws.length = 3 then none else some 3
def stepV (ws : List Str) : D := .tuple [.int (val (ws.getD 0 "") : Nat), .str (ws.getD 1 ""), if hasN ws = true then .int (val (ws.getD 2 "") : Nat) else .int (-1)]
def misX (k : Nat) (n : Int) : XV := ⟨3, [.int (k : Nat), .int n]⟩
theorem eqc {i : Nat} {p w : Str} {b : Bool} {ρ : List Sl} (h : ρ[i]? = some (.d (.str p))) (hb : inW [w] (.str p) = b) : tB (eBin gEq (eVar i) (eC (.str w))) ρ f = .ok b f := tB_ok (eBin_ok (eVar_ok h) rfl (by rw [gEq_w w (.str p) rfl, hb]))
theorem can_num {z : Str} (hz : z.length ≤ lim) : f__can_stand [.str "number", .str z] f = .ok (.bool (isNum z)) f := mfun_ret rfl (sSeq_ret ((sIf_t (eqc rfl (by decide +kernel))).trans (sRet_ok (eCall_ff (ds := [.str z]) rfl (t_is_num hz)))))
theorem stp_eq (z : Str) : (inW ["aside"] (.str z) || (inW ["go", "copy", "start", "mark", "close", "read", "write", "wait", "stay", "end"] (.str z) && !inW ["stay"] (.str z))) = isStp z := by
  unfold isStp stpW
  simp only [inW_in]
  by_cases h : z = "stay"
  · subst h; decide +kernel
  · rw [Bool.eq_iff_iff]
    simp only [Bool.or_eq_true, Bool.and_eq_true, Bool.not_eq_true', decide_eq_true_eq, decide_eq_false_iff_not, List.mem_cons, List.not_mem_nil, or_false]
    constructor
    · rintro (h1 | ⟨h1, h2⟩)
      · simp [h1]
      · rcases h1 with h1 | h1 | h1 | h1 | h1 | h1 | h1 | h1 | h1 | h1 <;> first | exact absurd h1 h | simp [h1]
    · intro h1
      rcases h1 with h1 | h1 | h1 | h1 | h1 | h1 | h1 | h1 | h1 | h1 <;> first | exact .inl h1 | exact .inr ⟨by simp [h1], h⟩
theorem can_stp (z : Str) : f__can_stand [.str "step", .str z] f = .ok (.bool (isStp z)) f := by
  refine mfun_ret rfl ?_
  refine (sSeq_nx (sIf_skip (eqc rfl (by decide +kernel)))).trans ?_
  refine (sSeq_nx (sIf_skip (eqc rfl (by decide +kernel)))).trans ?_
  refine (sSeq_nx (sIf_skip (eqc rfl (by decide +kernel)))).trans ?_
  refine (sSeq_nx (sIf_skip (eqc rfl (by decide +kernel)))).trans ?_
  refine (sSeq_nx (sIf_skip (eqc rfl (by decide +kernel)))).trans ?_
  refine sSeq_ret ((sIf_t (eqc rfl (by decide +kernel))).trans ((sRet_ok (eOr_ok (eBin_ok rfl rfl (gEq_w "aside" (.str z) rfl)) fun _ => eAnd_ok (eBin_ok rfl rfl (gIn_ws ["go", "copy", "start", "mark", "close", "read", "write", "wait", "stay", "end"] (.str z) rfl)) fun _ => eBin_ok rfl rfl (gNe_w "stay" (.str z) rfl))).trans ?_))
  rw [stp_eq]
def cwBody : MS := sIf (bOr (tB (eBin gGe (eBin gAdd (eVar 1) (eVar 4)) (eList gLen (aCons (eVar 0) (aNil))))) (bNot (tT (eCall false f__can_stand (aCons (eVar 5) (aCons (eBin gIx (eVar 0) (eBin gAdd (eVar 1) (eVar 4))) (aNil))))))) (sRaise 3 2 (aCons (eVar 3) (aCons (eBin gAdd (eVar 1) (eVar 4)) (aNil)))) (sSkip)
theorem cw_turn {ws : List Str} {j : Nat} {p : Str} {b : Bool} {P : D} {n : Int} (hst : j < ws.length → f__can_stand [.str p, .str (ws.getD j "")] f = .ok (.bool b) f) : cwBody [.d (.list (wordsD ws)), .d (.int 0), .d P, .d (.int n), .d (.int (j : Nat)), .d (.str p)] f = if ws.length ≤ j ∨ b = false then .exc (misX j n) f else .nx [.d (.list (wordsD ws)), .d (.int 0), .d P, .d (.int n), .d (.int (j : Nat)), .d (.str p)] f := by
  have ad : eBin gAdd (eVar 1) (eVar 4) [.d (.list (wordsD ws)), .d (.int 0), .d P, .d (.int n), .d (.int (j : Nat)), .d (.str p)] f = .ok (.int (j : Nat)) f := eBin_ok rfl rfl (add0 _)
  have t1 : tB (eBin gGe (eBin gAdd (eVar 1) (eVar 4)) (eList gLen (aCons (eVar 0) (aNil)))) [.d (.list (wordsD ws)), .d (.int 0), .d P, .d (.int n), .d (.int (j : Nat)), .d (.str p)] f = .ok (decide (((ws.length : Nat) : Int) ≤ ((j : Nat) : Int))) f := tB_ok (eBin_ok ad (eList_ok (aCons_ok rfl rfl) (words_len ws)) (gGe_int _ _))
  have rs : sRaise 3 2 (aCons (eVar 3) (aCons (eBin gAdd (eVar 1) (eVar 4)) (aNil))) [.d (.list (wordsD ws)), .d (.int 0), .d P, .d (.int n), .d (.int (j : Nat)), .d (.str p)] f = .exc (misX j n) f := sRaise_ok (ds := [.int n, .int (j : Nat)]) (aCons_ok rfl (aCons_ok ad rfl)) rfl
  unfold cwBody
  by_cases h1 : ws.length ≤ j
  · rw [if_pos (.inl h1)]
    rw [decide_eq_true (by omega)] at t1
    exact (sIf_t (bOr_t t1)).trans rs
  · rw [decide_eq_false (by omega)] at t1
    have h2 : j < ws.length := by omega
    have t2 := tT_ok (eCall_ff (ms := aCons (eVar 5) (aCons (eBin gIx (eVar 0) (eBin gAdd (eVar 1) (eVar 4))) (aNil))) (ρ := [.d (.list (wordsD ws)), .d (.int 0), .d P, .d (.int n), .d (.int (j : Nat)), .d (.str p)]) (aCons_ok rfl (aCons_ok (eBin_ok rfl ad (nth_w h2)) rfl)) (hst h2)) rfl
    cases b with
    | true =>
      rw [if_neg (by simp; omega)]
      exact sIf_skip ((bOr_f t1).trans (bNot_ok t2))
    | false =>
      rw [if_pos (.inr rfl)]
      exact (sIf_t ((bOr_f t1).trans (bNot_ok t2))).trans rs
end Mir

set_option Elab.async false
set_option linter.all false
set_option maxRecDepth 100000
set_option maxHeartbeats 4000000
namespace Mir
open PySem PySem.Spec PyProof.Rows L2 TL
variable {f : FS}
/-! ### the program's step of words -/
structure Wds (ws : List Str) : Prop where
  ne : ws ≠ []
  len : ws.length ≤ lim
  mem : ∀ w ∈ ws, w.length ≤ lim
theorem Wds.at {ws : List Str} (h : Wds ws) {j : Nat} (hj : j < ws.length) : (ws.getD j "").length ≤ lim := h.mem _ (gd_mem hj)
def partsD (ws : List Str) : List D := if hasN ws = true then [.str "number", .str "step", .str "number"] else [.str "number", .str "step"]
abbrev cwMg : MG := gmTup 2 (gmCons (gmName 4) (gmCons (gmName 5) (gmNil)))
abbrev cwR (ws : List Str) (P : D) (n : Int) (s4 s5 : Sl) : List Sl := [.d (.list (wordsD ws)), .d (.int 0), .d P, .d (.int n), s4, s5]
theorem len1 {ws : List Str} (h : ws ≠ []) : 0 < ws.length := List.length_pos_iff.mpr h
/-- the loop over two parts, then perhaps a third -/
theorem cw_loop {ws : List Str} {P : D} {n : Int} (W : Wds ws) (s4 s5 : Sl) (rest : List D) : forLoop cwMg cwBody (.tuple [.int (0 : Nat), .str "number"] :: .tuple [.int (1 : Nat), .str "step"] :: rest) (cwR ws P n s4 s5) f =
    if isNum (ws.getD 0 "") = false then .exc (misX 0 n) f else if ws.length < 2 ∨ isStp (ws.getD 1 "") = false then .exc (misX 1 n) f else forLoop cwMg cwBody rest (cwR ws P n (.d (.int (1 : Nat))) (.d (.str "step"))) f := by
  have l1 := len1 W.ne
  have t0 := cw_turn (f := f) (ws := ws) (j := 0) (p := "number") (b := isNum (ws.getD 0 "")) (P := P) (n := n) fun h => can_num (W.at h)
  have t1 := cw_turn (f := f) (ws := ws) (j := 1) (p := "step") (b := isStp (ws.getD 1 "")) (P := P) (n := n) fun h => can_stp _
  by_cases h0 : isNum (ws.getD 0 "") = false
  · rw [if_pos h0]
    rw [if_pos (.inr h0)] at t0
    exact for_stop rfl t0 (.inr ⟨_, _, rfl⟩)
  · rw [if_neg h0]
    rw [if_neg (by intro q; rcases q with q | q; omega; exact h0 q)] at t0
    rw [for_nx1 rfl t0]
    by_cases h1 : ws.length < 2 ∨ isStp (ws.getD 1 "") = false
    · rw [if_pos h1]
      rw [if_pos (h1.imp (fun q => by omega) id)] at t1
      exact for_stop rfl t1 (.inr ⟨_, _, rfl⟩)
    · rw [if_neg h1]
      rw [if_neg (fun q => h1 (q.imp (fun q => by omega) id))] at t1
      rw [for_nx1 rfl t1]
theorem sIf_exc {t : MB} {a b : MS} {ρ : List Sl} {x : XV} (h : t ρ f = .ok true f) (h2 : a ρ f = .exc x f) : sIf t a b ρ f = .exc x f := (sIf_t h).trans h2
theorem enum3 (a b c : D) : enumD [a, b, c] = [.tuple [.int (0 : Nat), a], .tuple [.int (1 : Nat), b], .tuple [.int (2 : Nat), c]] := rfl
theorem enum2 (a b : D) : enumD [a, b] = [.tuple [.int (0 : Nat), a], .tuple [.int (1 : Nat), b]] := rfl
def cwEnd : MS := sIf (tB (eBin gGt (eList gLen (aCons (eVar 0) (aNil))) (eBin gAdd (eVar 1) (eList gLen (aCons (eVar 2) (aNil)))))) (sRaise 3 2 (aCons (eVar 3) (aCons (eBin gAdd (eVar 1) (eList gLen (aCons (eVar 2) (aNil)))) (aNil)))) (sSkip)
theorem cw_end {ws : List Str} {ps : List D} {n : Int} {s4 s5 : Sl} : cwEnd (cwR ws (.tuple ps) n s4 s5) f = if ps.length < ws.length then .exc (misX ps.length n) f else .nx (cwR ws (.tuple ps) n s4 s5) f := by
  have a2 : eBin gAdd (eVar 1) (eList gLen (aCons (eVar 2) (aNil))) (cwR ws (.tuple ps) n s4 s5) f = .ok (.int (ps.length : Nat)) f := eBin_ok rfl (eList_ok (aCons_ok rfl rfl) rfl) (add0 _)
  have t : tB (eBin gGt (eList gLen (aCons (eVar 0) (aNil))) (eBin gAdd (eVar 1) (eList gLen (aCons (eVar 2) (aNil))))) (cwR ws (.tuple ps) n s4 s5) f = .ok (decide (((ps.length : Nat) : Int) < ((ws.length : Nat) : Int))) f := tB_ok (eBin_ok (eList_ok (aCons_ok rfl rfl) (words_len ws)) a2 (gGt_int _ _))
  unfold cwEnd
  by_cases h : ps.length < ws.length
  · rw [if_pos h]
    rw [decide_eq_true (by omega)] at t
    exact sIf_exc t (sRaise_ok (ds := [.int n, .int (ps.length : Nat)]) (aCons_ok rfl (aCons_ok a2 rfl)) rfl)
  · rw [if_neg h]
    rw [decide_eq_false (by omega)] at t
    exact sIf_skip t
theorem t_check {ws : List Str} (W : Wds ws) (n : Int) : f_check_words [.list (wordsD ws), .int 0, .tuple (partsD ws), .int n] f = match stepF ws with | none => .ok .none f | some k => .exc (misX k n) f := by
  have l1 := len1 W.ne
  refine mfun_k rfl ?_
  show rOf (sSeq (sFor (iArgs enumLT (aCons (eVar 2) (aNil))) cwMg cwBody) cwEnd (cwR ws (.tuple (partsD ws)) n .no .no) f) = _
  have st : sFor (iArgs enumLT (aCons (eVar 2) (aNil))) cwMg cwBody (cwR ws (.tuple (partsD ws)) n .no .no) f = forLoop cwMg cwBody (enumD (partsD ws)) (cwR ws (.tuple (partsD ws)) n .no .no) f := sFor_ok rfl
  unfold stepF
  have e2 := fun s4 s5 => cw_end (f := f) (ws := ws) (ps := partsD ws) (n := n) (s4 := s4) (s5 := s5)
  cases hN : hasN ws with
  | false =>
    have ep : partsD ws = [.str "number", .str "step"] := by unfold partsD; rw [hN]; rfl
    rw [ep] at st e2 ⊢
    rw [enum2, cw_loop W] at st
    by_cases h0 : isNum (ws.getD 0 "") = false
    · rw [if_pos h0] at st ⊢
      rw [sSeq_exc st]; rfl
    · rw [if_neg h0] at st ⊢
      by_cases h1 : ws.length < 2 ∨ isStp (ws.getD 1 "") = false
      · rw [if_pos h1] at st ⊢
        rw [sSeq_exc st]; rfl
      · rw [if_neg h1] at st ⊢
        rw [if_pos rfl, sSeq_nx st, e2]
        show rOf (if 2 < ws.length then _ else _) = _
        have l2 : 2 ≤ ws.length := by
          by_cases q : ws.length < 2
          · exact absurd (.inl q) h1
          · omega
        by_cases h2 : ws.length = 2
        · rw [if_pos h2, if_neg (by omega)]; rfl
        · rw [if_neg h2, if_pos (by omega)]; rfl
  | true =>
    have ep : partsD ws = [.str "number", .str "step", .str "number"] := by unfold partsD; rw [hN]; rfl
    rw [ep] at st e2 ⊢
    rw [enum3, cw_loop W] at st
    by_cases h0 : isNum (ws.getD 0 "") = false
    · rw [if_pos h0] at st ⊢
      rw [sSeq_exc st]; rfl
    · rw [if_neg h0] at st ⊢
      by_cases h1 : ws.length < 2 ∨ isStp (ws.getD 1 "") = false
      · rw [if_pos h1] at st ⊢
        rw [sSeq_exc st]; rfl
      · rw [if_neg h1] at st ⊢
        rw [if_neg (by simp)]
        have t2 := cw_turn (f := f) (ws := ws) (j := 2) (p := "number") (b := isNum (ws.getD 2 "")) (P := .tuple [.str "number", .str "step", .str "number"]) (n := n) fun h => can_num (W.at h)
        by_cases h2 : ws.length < 3 ∨ isNum (ws.getD 2 "") = false
        · rw [if_pos h2]
          rw [if_pos (h2.imp (fun q => by omega) id)] at t2
          rw [sSeq_exc (st.trans (for_stop rfl t2 (.inr ⟨_, _, rfl⟩)))]; rfl
        · rw [if_neg h2]
          rw [if_neg (fun q => h2 (q.imp (fun q => by omega) id))] at t2
          rw [for_nx1 rfl t2] at st
          rw [sSeq_nx st, e2]
          show rOf (if 3 < ws.length then _ else _) = _
          have l3 : 3 ≤ ws.length := by
            by_cases q : ws.length < 3
            · exact absurd (.inl q) h2
            · omega
          by_cases h3 : ws.length = 3
          · rw [if_pos h3, if_neg (by omega)]; rfl
          · rw [if_neg h3, if_pos (by omega)]; rfl
theorem stepF_none {ws : List Str} (h : stepF ws = none) : isNum (ws.getD 0 "") = true ∧ 2 ≤ ws.length ∧ isStp (ws.getD 1 "") = true ∧ (hasN ws = true → 2 < ws.length ∧ isNum (ws.getD 2 "") = true) := by
  unfold stepF at h
  split at h
  · cases h
  · rename_i h0
    split at h
    · cases h
    · rename_i h1
      have l2 : 2 ≤ ws.length := by
        by_cases q : ws.length < 2
        · exact absurd (.inl q) h1
        · omega
      refine ⟨by simpa using h0, l2, by simpa using fun q => h1 (.inr q), fun hn => ?_⟩
      rw [if_neg (by rw [hn]; simp)] at h
      split at h
      · cases h
      · rename_i h2
        refine ⟨?_, by simpa using fun q => h2 (.inr q)⟩
        by_cases q : ws.length < 3
        · exact absurd (.inl q) h2
        · omega
theorem num_int' {ws : List Str} {k : Nat} (h : isNum (ws.getD k "") = true) (hk : k < ws.length) {m : ME} {ρ : List Sl} (hm : m ρ f = .ok (.str (ws.getD k "")) f) : eList gInt (aCons m aNil) ρ f = .ok (.int (val (ws.getD k "") : Nat)) f := eList_ok (aCons_ok hm rfl) (num_int h)
theorem t_step_in {ws : List Str} (W : Wds ws) (n : Int) : f_step_in [.list (wordsD ws), .int 0, .int n] f = match stepF ws with | none => .ok (stepV ws) f | some k => .exc (misX k n) f := by
  have l1 := len1 W.ne
  have hl := W.len
  have hlim := lim_eq
  refine mfun_k rfl ?_
  show rOf (sSeq _ _ [.d (.list (wordsD ws)), .d (.int 0), .d (.int n), .no] f) = _
  have e1 : eAnd (eBin gGt (eList gLen (aCons (eVar 0) (aNil))) (eBin gAdd (eVar 1) (eC (.int 1)))) (eBin gIn (eBin gIx (eVar 0) (eBin gAdd (eVar 1) (eC (.int 1)))) (eTup (aCons (eC (.str "go")) (aCons (eC (.str "aside")) (aNil))))) [.d (.list (wordsD ws)), .d (.int 0), .d (.int n), .no] f = .ok (.bool (hasN ws)) f := by
    refine (eAnd_ok (x := decide ((1 : Int) < ((ws.length : Nat) : Int))) (y := inW ["go", "aside"] (.str (ws.getD 1 ""))) (eBin_ok (eList_ok (aCons_ok rfl rfl) (words_len ws)) (y := .int 1) (eBin_ok rfl rfl rfl) (gGt_int _ _)) fun h => eBin_ok (x := .str (ws.getD 1 "")) (eBin_ok rfl (y := .int (1 : Nat)) (eBin_ok rfl rfl rfl) (nth_w (by have := of_decide_eq_true h; omega))) (eTup_ok rfl (by show 2 ≤ lim; decide)) (gIn_ws ["go", "aside"] _ rfl)).trans ?_
    unfold hasN
    rw [show decide ((1 : Int) < ((ws.length : Nat) : Int)) = decide (1 < ws.length) from by by_cases q : 1 < ws.length <;> simp [q] <;> omega]
  rw [sSeq_nx (sSet_ok e1)]
  show rOf (sSeq _ _ [.d (.list (wordsD ws)), .d (.int 0), .d (.int n), .d (.bool (hasN ws))] f) = _
  have ep : eIf (tT (eVar 3)) (eTup (aCons (eC (.str "number")) (aCons (eC (.str "step")) (aCons (eC (.str "number")) (aNil))))) (eTup (aCons (eC (.str "number")) (aCons (eC (.str "step")) (aNil)))) [.d (.list (wordsD ws)), .d (.int 0), .d (.int n), .d (.bool (hasN ws))] f = .ok (.tuple (partsD ws)) f := by
    unfold partsD
    cases hasN ws with
    | true => rfl
    | false => rfl
  have ck : eCall false f_check_words (aCons (eVar 0) (aCons (eVar 1) (aCons (eIf (tT (eVar 3)) (eTup (aCons (eC (.str "number")) (aCons (eC (.str "step")) (aCons (eC (.str "number")) (aNil))))) (eTup (aCons (eC (.str "number")) (aCons (eC (.str "step")) (aNil))))) (aCons (eVar 2) (aNil))))) [.d (.list (wordsD ws)), .d (.int 0), .d (.int n), .d (.bool (hasN ws))] f = match stepF ws with | none => .ok .none f | some k => .exc (misX k n) f := eCall_k (aCons_ok rfl (aCons_ok rfl (aCons_ok ep (aCons_ok rfl rfl)))) (t_check W n) (by cases stepF ws with | none => exact keeps_ok _ | some k => exact keeps_exc _)
  cases hF : stepF ws with
  | some k =>
    rw [hF] at ck
    rw [sSeq_exc (sDrop_exc ck)]
    rfl
  | none =>
    rw [hF] at ck
    rw [sSeq_nx (sDrop_ok ck)]
    obtain ⟨q0, q1, q2, q3⟩ := stepF_none hF
    have a0 : eList gInt (aCons (eBin gIx (eVar 0) (eVar 1)) (aNil)) [.d (.list (wordsD ws)), .d (.int 0), .d (.int n), .d (.bool (hasN ws))] f = .ok (.int (val (ws.getD 0 "") : Nat)) f := num_int' q0 l1 (eBin_ok rfl (y := .int (0 : Nat)) rfl (nth_w l1))
    have a1 : eBin gIx (eVar 0) (eBin gAdd (eVar 1) (eC (.int 1))) [.d (.list (wordsD ws)), .d (.int 0), .d (.int n), .d (.bool (hasN ws))] f = .ok (.str (ws.getD 1 "")) f := eBin_ok rfl (y := .int (1 : Nat)) (eBin_ok rfl rfl rfl) (nth_w (by omega))
    have a2 : eIf (tT (eVar 3)) (eList gInt (aCons (eBin gIx (eVar 0) (eBin gAdd (eVar 1) (eC (.int 2)))) (aNil))) (eUn gNeg (eC (.int 1))) [.d (.list (wordsD ws)), .d (.int 0), .d (.int n), .d (.bool (hasN ws))] f = .ok (if hasN ws = true then .int (val (ws.getD 2 "") : Nat) else .int (-1)) f := by
      cases hN : hasN ws with
      | true =>
        obtain ⟨l3, n3⟩ := q3 hN
        rw [if_pos rfl]
        exact (eIf_t (tT_ok (b := true) rfl rfl)).trans (num_int' n3 l3 (eBin_ok rfl (y := .int (2 : Nat)) (eBin_ok rfl rfl rfl) (nth_w l3)))
      | false => rfl
    show rOf (sRet _ _ f) = _
    rw [sRet_ok (eTup_ok (aCons_ok a0 (aCons_ok a1 (aCons_ok a2 rfl))) (by show 3 ≤ lim; decide))]
    rfl
/-! ### the law's -/
def toldD (d : D) : D := .tuple [.str "told", d]
def noS (n k : Int) : D := .tuple [.str "no", .str "text", .int n, .int k]
def stepR (ws : List Str) (n : Int) : D := match stepF ws with
  | none => toldD (stepV ws)
  | some k => noS n (k : Nat)
theorem wds_of {z : Str} (hz : z.length + 2 ≤ lim) : Wds (Txt.split z " ") := by
  have e := split_sum (x := z) blank
  have hl := wsum_len (Txt.split z " ")
  exact ⟨split_ne _ _, by omega, fun w hw => by have := wsum_mem hw; omega⟩
theorem law_words (ρ : List Sl) : eCall false f__law_words aNil ρ f = .ok (.list (wordsD stpW)) f := eCall_ff (f2 := f) rfl (by kernel_rfl)
theorem gNotIn_wl (ws : List Str) (z : Str) : gNotIn [.str z, .list (wordsD ws)] = some (.bool (!inW ws (.str z))) := gNotIn_ws ws (.str z) rfl
end Mir

set_option Elab.async false
set_option linter.all false
set_option maxRecDepth 100000
set_option maxHeartbeats 4000000
namespace Mir
open PySem PySem.Spec PyProof.Rows L2 TL
variable {f : FS}
theorem hasN_two {ws : List Str} (h : 2 ≤ ws.length) : inW ["go", "aside"] (.str (ws.getD 1 "")) = hasN ws := by
  unfold hasN
  rw [decide_eq_true (show 1 < ws.length by omega), Bool.true_and]
theorem t_law_step_in {z : Str} (hz : z.length + 2 ≤ lim) (n : Int) : f__law_step_in [.str z, .int n] f = .ok (stepR (Txt.split z " ") n) f := by
  have hlim := lim_eq
  have W := wds_of hz
  refine mfun_ret rfl ?_
  show sSeq _ _ [.d (.str z), .d (.int n), .no] f = _
  rw [sSeq_nx (sSet_ok (eMt_sp (y := " ") rfl hz rfl))]
  generalize Txt.split z " " = ws at W
  have l1 := len1 W.ne
  show sSeq _ _ [.d (.str z), .d (.int n), .d (.list (wordsD ws))] f = _
  have ix : ∀ k : Nat, k < ws.length → eBin gIx (eVar 2) (eC (.int (k : Nat))) [.d (.str z), .d (.int n), .d (.list (wordsD ws))] f = .ok (.str (ws.getD k "")) f := fun k hk => eBin_ok rfl rfl (nth_w hk)
  have num : ∀ k : Nat, k < ws.length → bNot (tT (eCall false f__law_is_number (aCons (eBin gIx (eVar 2) (eC (.int (k : Nat)))) (aNil)))) [.d (.str z), .d (.int n), .d (.list (wordsD ws))] f = .ok (!isNum (ws.getD k "")) f := fun k hk => bNot_ok (tT_ok (eCall_ff (aCons_ok (ix k hk) rfl) (t_law_is_num (W.at hk))) rfl)
  have no : ∀ k : Nat, sRet (eTup (aCons (eC (.str "no")) (aCons (eC (.str "text")) (aCons (eVar 1) (aCons (eC (.int (k : Nat))) (aNil)))))) [.d (.str z), .d (.int n), .d (.list (wordsD ws))] f = .ret (noS n (k : Nat)) f := fun k => sRet_ok (eTup_ok rfl (by show 4 ≤ lim; decide))
  have lt : ∀ k : Nat, tB (eBin gLt (eList gLen (aCons (eVar 2) (aNil))) (eC (.int (k : Nat)))) [.d (.str z), .d (.int n), .d (.list (wordsD ws))] f = .ok (decide (ws.length < k)) f := fun k => (tB_ok (eBin_ok (eList_ok (aCons_ok rfl rfl) (words_len ws)) rfl (gLt_int _ _))).trans (by rw [show decide (((ws.length : Nat) : Int) < ((k : Nat) : Int)) = decide (ws.length < k) from by by_cases q : ws.length < k <;> simp [q] <;> omega])
  have eqn : ∀ k : Nat, tB (eBin gEq (eList gLen (aCons (eVar 2) (aNil))) (eC (.int (k : Nat)))) [.d (.str z), .d (.int n), .d (.list (wordsD ws))] f = .ok (decide (ws.length = k)) f := fun k => (tB_ok (eBin_ok (eList_ok (aCons_ok rfl rfl) (words_len ws)) rfl (gEq_int _ _))).trans (by rw [show decide (((ws.length : Nat) : Int) = ((k : Nat) : Int)) = decide (ws.length = k) from by by_cases q : ws.length = k <;> simp [q] <;> omega])
  have e0 : ∀ m : ME, eTup (aCons (eC (.str "no")) (aCons (eC (.str "text")) (aCons (eVar 1) (aCons m (aNil))))) = eTup (aCons (eC (.str "no")) (aCons (eC (.str "text")) (aCons (eVar 1) (aCons m (aNil))))) := fun _ => rfl
  unfold stepR stepF
  by_cases h0 : isNum (ws.getD 0 "") = false
  · rw [if_pos h0]
    have c := num 0 l1
    rw [h0] at c
    exact sSeq_ret ((sIf_t c).trans (no 0))
  · rw [if_neg h0]
    have n0 : isNum (ws.getD 0 "") = true := by simpa using h0
    have c := num 0 l1
    rw [n0] at c
    refine (sSeq_nx (a := sIf _ _ _) (sIf_skip c)).trans ?_
    by_cases h1 : ws.length < 2 ∨ isStp (ws.getD 1 "") = false
    · rw [if_pos h1]
      have c : bOr (tB (eBin gLt (eList gLen (aCons (eVar 2) (aNil))) (eC (.int 2)))) (tB (eBin gNotIn (eBin gIx (eVar 2) (eC (.int 1))) (eCall false f__law_words aNil))) [.d (.str z), .d (.int n), .d (.list (wordsD ws))] f = .ok true f := by
        by_cases q : ws.length < 2
        · have := lt 2
          rw [decide_eq_true q] at this
          exact bOr_t this
        · have := lt 2
          rw [decide_eq_false q] at this
          have i := h1.resolve_left q
          refine (bOr_f this).trans ((tB_ok (eBin_ok (ix 1 (by omega)) (law_words _) (gNotIn_wl _ _))).trans ?_)
          have : inW stpW (.str (ws.getD 1 "")) = false := i
          rw [this]
          rfl
      exact sSeq_ret ((sIf_t c).trans (no 1))
    · rw [if_neg h1]
      have l2 : 2 ≤ ws.length := by
        by_cases q : ws.length < 2
        · exact absurd (.inl q) h1
        · omega
      have i1 : isStp (ws.getD 1 "") = true := by simpa using fun q => h1 (.inr q)
      have c : bOr (tB (eBin gLt (eList gLen (aCons (eVar 2) (aNil))) (eC (.int 2)))) (tB (eBin gNotIn (eBin gIx (eVar 2) (eC (.int 1))) (eCall false f__law_words aNil))) [.d (.str z), .d (.int n), .d (.list (wordsD ws))] f = .ok false f := by
        have := lt 2
        rw [decide_eq_false (by omega)] at this
        refine (bOr_f this).trans ((tB_ok (eBin_ok (ix 1 (by omega)) (law_words _) (gNotIn_wl _ _))).trans ?_)
        have : inW stpW (.str (ws.getD 1 "")) = true := i1
        rw [this]
        rfl
      refine (sSeq_nx (a := sIf _ _ _) (sIf_skip c)).trans ?_
      have a0 := num_int' (f := f) n0 l1 (ix 0 l1)
      have c2 : tB (eBin gNotIn (eBin gIx (eVar 2) (eC (.int 1))) (eLst (aCons (eC (.str "go")) (aCons (eC (.str "aside")) (aNil))))) [.d (.str z), .d (.int n), .d (.list (wordsD ws))] f = .ok (!hasN ws) f := by
        rw [← hasN_two l2]
        exact tB_ok (eBin_ok (ix 1 (by omega)) (eLst_ok rfl (by show 2 ≤ lim; decide)) (gNotIn_wl ["go", "aside"] _))
      by_cases hN : hasN ws = false
      · rw [if_pos hN]
        rw [hN] at c2
        refine sSeq_ret ((sIf_t c2).trans ?_)
        have e := eqn 2
        by_cases h2 : ws.length = 2
        · rw [if_pos h2]
          rw [decide_eq_true h2] at e
          refine (sRet_ok ((eIf_t e).trans (eTup_ok (aCons_ok rfl (aCons_ok (eTup_ok (aCons_ok a0 (aCons_ok (ix 1 (by omega)) (aCons_ok (d := .int (-1)) (eUn_ok rfl rfl) rfl))) (by show 3 ≤ lim; decide)) rfl)) (by show 2 ≤ lim; decide)))).trans ?_
          show _ = SR.ret (toldD (stepV ws)) f
          unfold stepV
          rw [hN]
          rfl
        · rw [if_neg h2]
          rw [decide_eq_false h2] at e
          exact sRet_ok ((eIf_f e).trans (eTup_ok rfl (by show 4 ≤ lim; decide)))
      · rw [if_neg hN]
        have hN : hasN ws = true := by simpa using hN
        rw [hN] at c2
        refine (sSeq_nx (a := sIf _ _ _) (sIf_skip c2)).trans ?_
        by_cases h2 : ws.length < 3 ∨ isNum (ws.getD 2 "") = false
        · rw [if_pos h2]
          have c : bOr (tB (eBin gLt (eList gLen (aCons (eVar 2) (aNil))) (eC (.int 3)))) (bNot (tT (eCall false f__law_is_number (aCons (eBin gIx (eVar 2) (eC (.int 2))) (aNil))))) [.d (.str z), .d (.int n), .d (.list (wordsD ws))] f = .ok true f := by
            by_cases q : ws.length < 3
            · have := lt 3
              rw [decide_eq_true q] at this
              exact bOr_t this
            · have := lt 3
              rw [decide_eq_false q] at this
              have i := h2.resolve_left q
              have t := num 2 (by omega)
              rw [i] at t
              exact (bOr_f this).trans t
          exact sSeq_ret ((sIf_t c).trans (no 2))
        · rw [if_neg h2]
          have l3 : 3 ≤ ws.length := by
            by_cases q : ws.length < 3
            · exact absurd (.inl q) h2
            · omega
          have n2 : isNum (ws.getD 2 "") = true := by simpa using fun q => h2 (.inr q)
          have c : bOr (tB (eBin gLt (eList gLen (aCons (eVar 2) (aNil))) (eC (.int 3)))) (bNot (tT (eCall false f__law_is_number (aCons (eBin gIx (eVar 2) (eC (.int 2))) (aNil))))) [.d (.str z), .d (.int n), .d (.list (wordsD ws))] f = .ok false f := by
            have := lt 3
            rw [decide_eq_false (by omega)] at this
            have t := num 2 (by omega)
            rw [n2] at t
            exact (bOr_f this).trans t
          refine (sSeq_nx (a := sIf _ _ _) (sIf_skip c)).trans ?_
          have e := eqn 3
          have a2 := num_int' (f := f) n2 (by omega) (ix 2 (by omega))
          by_cases h3 : ws.length = 3
          · rw [if_pos h3]
            rw [decide_eq_true h3] at e
            refine (sRet_ok ((eIf_t e).trans (eTup_ok (aCons_ok rfl (aCons_ok (eTup_ok (aCons_ok a0 (aCons_ok (ix 1 (by omega)) (aCons_ok a2 rfl))) (by show 3 ≤ lim; decide)) rfl)) (by show 2 ≤ lim; decide)))).trans ?_
            show _ = SR.ret (toldD (stepV ws)) f
            unfold stepV
            rw [hN]
            rfl
          · rw [if_neg h3]
            rw [decide_eq_false h3] at e
            exact sRet_ok ((eIf_f e).trans (eTup_ok rfl (by show 4 ≤ lim; decide)))
/-! ### the program's readings -/
theorem t_words {z : Str} (hz : z.length + 2 ≤ lim) : f_words_of [.str z] f = .ok (.list (wordsD (Txt.split z " "))) f := mfun_ret rfl (sRet_ok (eMt_sp rfl hz rfl))
theorem step_line {z : Str} (hz : z.length + 2 ≤ lim) (n : Int) : f_step_in [.list (wordsD (Txt.split z " ")), .int 0, .int n] f = match stepF (Txt.split z " ") with | none => .ok (stepV (Txt.split z " ")) f | some k => .exc (misX k n) f := t_step_in (wds_of hz) n
theorem t_read_step {z : Str} (hz : z.length + 2 ≤ lim) : f_read_step [.str z] f = match stepF (Txt.split z " ") with | none => .ok (stepV (Txt.split z " ")) f | some k => .exc (misX k 0) f := by
  have kp : Keeps (match stepF (Txt.split z " ") with | none => R.ok (stepV (Txt.split z " ")) f | some k => .exc (misX k 0) f) f := by
    cases stepF (Txt.split z " ") with
    | none => exact keeps_ok _
    | some k => exact keeps_exc _
  refine mfun_k rfl ?_
  show rOf (sSeq _ _ [.d (.str z)] f) = _
  rw [sSeq_nx (need_t (isI_ok (b := true) rfl rfl))]
  exact ret_k (eCall_k (aCons_ok (eCall_ff (ds := [.str z]) rfl (t_words hz)) (aCons_ok rfl (aCons_ok rfl rfl))) (step_line hz 0) kp) kp
/-- a comprehension that stops at the first exception -/
theorem compX_first {mg : MG} {me : ME} {ρ : List Sl} {o : Nat → Option XV} {g : Nat → D} : ∀ (ds : List D) (k : Nat) (acc : List D), (∀ j d, ds[j]? = some d → ∃ ρ', mg d ρ = some ρ' ∧ me ρ' f = match o (k + j) with | none => .ok (g (k + j)) f | some x => .exc x f) →
    compLoopX mg bYes me ds ρ f acc = match firstO o k ds.length with | none => .ok (acc ++ (List.range' k ds.length).map g) f | some x => .exc x f
  | [], k, acc, _ => by
    show R.ok acc f = _
    rw [show (List.range' k ([] : List D).length).map g = [] from rfl, List.append_nil]
    rfl
  | d :: ds, k, acc, h => by
    obtain ⟨ρ', e1, e2⟩ := h 0 d rfl
    rw [Nat.add_zero] at e2
    rw [List.length_cons]
    unfold compLoopX firstO
    simp only [e1, bYes, noX, R.bind_ok, if_true, e2]
    cases ho : o k with
    | some x => rfl
    | none =>
      dsimp only [R.bind_ok]
      rw [compX_first (o := o) (g := g) ds (k + 1) (acc ++ [g k]) fun j d' e => by
        have := h (j + 1) d' (by simpa using e)
        rw [show k + (j + 1) = k + 1 + j by omega] at this
        exact this]
      rw [List.range'_succ, List.map_cons, List.append_assoc]
      rfl
/-- a page's first line that cannot be -/
def lineR (ls : List Str) (k : Nat) : Option (Nat × Nat) := (stepF (Txt.split (ls.getD k "") " ")).map fun e => (k, e)
def lineV (ls : List Str) (k : Nat) : D := stepV (Txt.split (ls.getD k "") " ")
theorem firstO_map {α β : Type} {o : Nat → Option α} {h : α → β} : ∀ n k, firstO (fun j => (o j).map h) k n = (firstO o k n).map h
  | 0, _ => rfl
  | n + 1, k => by
    unfold firstO
    cases e : o k with
    | none => exact firstO_map n (k + 1)
    | some x => rfl
def runR (z : Str) : D := if inW ["-"] (.str z) = true then toldD (.tuple []) else match firstO (lineR (Txt.split z "\n")) 0 (Txt.split z "\n").length with
  | none => toldD (.tuple ((List.range' 0 (Txt.split z "\n").length).map (lineV (Txt.split z "\n"))))
  | some (k, e) => noS (k : Nat) (e : Nat)
theorem newl : tl "\n" = [10] := by decide +kernel
structure Lns (ls : List Str) : Prop where
  len : ls.length ≤ lim
  mem : ∀ l ∈ ls, l.length + 2 ≤ lim
theorem lns_of {z : Str} (hz : z.length + 2 ≤ lim) : Lns (Txt.split z "\n") := by
  have e := split_sum (x := z) newl
  have hl := wsum_len (Txt.split z "\n")
  exact ⟨by omega, fun w hw => by have := wsum_mem hw; omega⟩
theorem eList_exc {g : List D → Option D} {m : ME} {ms : MA} {ρ : List Sl} {x : XV} (h : m ρ f = .exc x f) : eList g (aCons m ms) ρ f = .exc x f := by
  have e : aCons m ms ρ f = .exc x f := by
    unfold aCons
    rw [h]
    rfl
  unfold eList
  rw [e]
  rfl
theorem t_read_run {z : Str} (hz : z.length + 2 ≤ lim) : f_read_run [.str z] f = if inW ["-"] (.str z) = true then .ok (.tuple []) f else match firstO (lineR (Txt.split z "\n")) 0 (Txt.split z "\n").length with
    | none => .ok (.tuple ((List.range' 0 (Txt.split z "\n").length).map (lineV (Txt.split z "\n")))) f
    | some (k, e) => .exc (misX e (k : Nat)) f := by
  have hlim := lim_eq
  have L := lns_of hz
  refine mfun_k rfl ?_
  show rOf (sSeq _ _ [.d (.str z), .no, .no] f) = _
  rw [sSeq_nx (need_t (isI_ok (b := true) rfl rfl))]
  have t : tB (eBin gEq (eVar 0) (eC (.str "-"))) [.d (.str z), .no, .no] f = .ok (inW ["-"] (.str z)) f := tB_ok (eBin_ok rfl rfl (gEq_w _ _ rfl))
  cases hd : inW ["-"] (.str z) with
  | true =>
    rw [hd] at t
    rw [sSeq_ret (a := sIf _ _ _) ((sIf_t t).trans (sRet_ok (eTup_ok rfl (Nat.zero_le _))))]
    rfl
  | false =>
    rw [hd] at t
    rw [sSeq_nx (a := sIf _ _ _) (sIf_skip t), if_neg (by simp)]
    have sp : eMt "str" gSplit (eVar 0) (aCons (eC (.str "\n")) (aNil)) [.d (.str z), .no, .no] f = .ok (.list (wordsD (Txt.split z "\n"))) f := eMt_sp rfl hz rfl
    generalize Txt.split z "\n" = ls at L sp
    have it : iArgs enumLT (aCons (eMt "str" gSplit (eVar 0) (aCons (eC (.str "\n")) (aNil))) (aNil)) [.d (.str z), .no, .no] f = .ok (enumD (wordsD ls)) f := by
      unfold iArgs
      rw [aCons_ok sp rfl]
      rfl
    have lw : (wordsD ls).length = ls.length := by unfold wordsD; rw [List.length_map]
    have le : (enumD (wordsD ls)).length = ls.length := by unfold enumD; rw [List.length_map, List.length_range, lw]
    have lp := compX_first (f := f) (mg := gmTup 2 (gmCons (gmName 1) (gmCons (gmName 2) (gmNil)))) (me := eCall false f_step_in (aCons (eCall false f_words_of (aCons (eVar 2) (aNil))) (aCons (eC (.int 0)) (aCons (eVar 1) (aNil))))) (ρ := [.d (.str z), .no, .no]) (o := fun k => (lineR ls k).map fun p => misX p.2 (p.1 : Nat)) (g := lineV ls) (enumD (wordsD ls)) 0 [] fun j d e => by
      obtain ⟨hj, rfl⟩ := enum_at e
      rw [lw] at hj
      have hm := L.mem _ (gd_mem hj)
      have en : nthD (wordsD ls) j = .str (ls.getD j "") := nth_map hj
      rw [en, Nat.zero_add]
      refine ⟨_, rfl, ?_⟩
      show eCall false f_step_in (aCons (eCall false f_words_of (aCons (eVar 2) (aNil))) (aCons (eC (.int 0)) (aCons (eVar 1) (aNil)))) [.d (.str z), .d (.int (j : Nat)), .d (.str (ls.getD j ""))] f = _
      have sl := step_line (f := f) hm (j : Nat)
      unfold lineR lineV
      cases hF : stepF (Txt.split (ls.getD j "") " ") with
      | none =>
        rw [hF] at sl
        exact eCall_k (aCons_ok (eCall_ff (aCons_ok rfl rfl) (t_words hm)) (aCons_ok rfl (aCons_ok rfl rfl))) sl (keeps_ok _)
      | some k =>
        rw [hF] at sl
        exact eCall_k (aCons_ok (eCall_ff (aCons_ok rfl rfl) (t_words hm)) (aCons_ok rfl (aCons_ok rfl rfl))) sl (keeps_exc _)
    rw [le, firstO_map] at lp
    have ec : eCompX [1, 2] (iArgs enumLT (aCons (eMt "str" gSplit (eVar 0) (aCons (eC (.str "\n")) (aNil))) (aNil))) (gmTup 2 (gmCons (gmName 1) (gmCons (gmName 2) (gmNil)))) (bYes) (eCall false f_step_in (aCons (eCall false f_words_of (aCons (eVar 2) (aNil))) (aCons (eC (.int 0)) (aCons (eVar 1) (aNil))))) [.d (.str z), .no, .no] f = match firstO (lineR ls) 0 ls.length with
        | none => .ok (.list ((List.range' 0 ls.length).map (lineV ls))) f
        | some (k, e) => .exc (misX e (k : Nat)) f := by
      unfold eCompX
      rw [it]
      dsimp only [R.bind_ok]
      rw [if_pos (by rw [le, decide_eq_true L.len]; rfl)]
      show (compLoopX _ _ _ _ [.d (.str z), .no, .no] f []).bind _ = _
      rw [lp]
      cases firstO (lineR ls) 0 ls.length with
      | none => rw [List.nil_append]; rfl
      | some p => rfl
    cases hF : firstO (lineR ls) 0 ls.length with
    | none =>
      rw [hF] at ec
      show rOf (sRet _ _ f) = _
      rw [sRet_ok (eList_ok (aCons_ok ec rfl) rfl)]
      rfl
    | some p =>
      rw [hF] at ec
      exact ret_k (eList_exc ec) (keeps_exc _)
end Mir

set_option Elab.async false
set_option linter.all false
set_option maxRecDepth 100000
set_option maxHeartbeats 4000000
namespace Mir
open PySem PySem.Spec PyProof.Rows L2 TL
variable {f : FS}
/-! ### the law's reading of a page -/
def siBody : MS := (sSeq (sSet 4 (eCall false f__law_step_in (aCons (eBin gIx (eVar 3) (eVar 1)) (aCons (eVar 1) (aNil))))) (sSeq (sIf (tB (eBin gEq (eBin gIx (eVar 4) (eC (.int 0))) (eC (.str "no")))) (sRet (eVar 4)) (sSkip)) (sApp 2 (eBin gIx (eVar 4) (eC (.int 1))))))
theorem t_steps_in {z : Str} (hz : z.length + 2 < lim) : f__law_steps_in [.str z] f = .ok (runR z) f := by
  have hlim := lim_eq
  have L := lns_of (z := z) (by omega)
  have hlt : (Txt.split z "\n").length < lim := by
    have e := split_sum (x := z) newl
    have hl := wsum_len (Txt.split z "\n")
    omega
  refine mfun_ret rfl ?_
  show sSeq _ _ [.d (.str z), .no, .no, .no, .no] f = _
  have t : tB (eBin gEq (eVar 0) (eC (.str "-"))) [.d (.str z), .no, .no, .no, .no] f = .ok (inW ["-"] (.str z)) f := tB_ok (eBin_ok rfl rfl (gEq_w _ _ rfl))
  unfold runR
  cases hd : inW ["-"] (.str z) with
  | true =>
    rw [hd] at t
    rw [sSeq_ret (a := sIf _ _ _) ((sIf_t t).trans (sRet_ok (eTup_ok (aCons_ok rfl (aCons_ok (eTup_ok rfl (Nat.zero_le _)) rfl)) (by show 2 ≤ lim; decide))))]
    rfl
  | false =>
    rw [hd] at t
    rw [sSeq_nx (a := sIf _ _ _) (sIf_skip t), if_neg (by simp)]
    have sp : eMt "str" gSplit (eVar 0) (aCons (eC (.str "\n")) (aNil)) [.d (.str z), .no, .no, .no, .no] f = .ok (.list (wordsD (Txt.split z "\n"))) f := eMt_sp rfl (by omega) rfl
    generalize Txt.split z "\n" = ls at L sp hlt
    have po : sParOwn 2 3 (aNil) (eMt "str" gSplit (eVar 0) (aCons (eC (.str "\n")) (aNil))) [.d (.str z), .no, .no, .no, .no] f = .nx [.d (.str z), .no, .l [], .d (.list (wordsD ls)), .no] f := by
      unfold sParOwn
      show (if ([] : List D).length ≤ lim then sBind (eMt "str" gSplit (eVar 0) (aCons (eC (.str "\n")) (aNil)) [.d (.str z), .no, .no, .no, .no] f) _ else SR.bad) = _
      rw [if_pos (show ([] : List D).length ≤ lim from Nat.zero_le _), sp]
      rfl
    rw [sSeq_nx po]
    have it : iArgs rng1 (aCons (eList gLen (aCons (eVar 3) (aNil))) (aNil)) [.d (.str z), .no, .l [], .d (.list (wordsD ls)), .no] f = .ok (rangeD 0 ls.length) f := by
      unfold iArgs
      rw [aCons_ok (d := .int ((ls.length : Nat) : Int)) (ds := []) (eList_ok (aCons_ok rfl rfl) (words_len ls)) rfl]
      rw [R.bind_ok, rng1_ok (rng_ok (by omega))]
      rfl
    have lp := for_first (f := f) (mg := gmName 1) (body := siBody) (o := lineR ls) (out := fun p => SR.ret (noS (p.1 : Nat) (p.2 : Nat)) f) (J := fun k ρ => ∃ s1 s4, ρ = [.d (.str z), s1, .l ((List.range' 0 k).map (lineV ls)), .d (.list (wordsD ls)), s4]) (fun e => .inl ⟨_, _, rfl⟩) (rangeD 0 ls.length) 0 [.d (.str z), .no, .l [], .d (.list (wordsD ls)), .no] (fun j d ρ hd hj => by
      obtain ⟨s1, s4, rfl⟩ := hj
      rw [Nat.zero_add]
      obtain ⟨hj2, rfl⟩ := range_at hd
      have hm := L.mem _ (gd_mem hj2)
      refine ⟨[.d (.str z), .d (.int (j : Nat)), .l ((List.range' 0 j).map (lineV ls)), .d (.list (wordsD ls)), s4], rfl, ?_⟩
      have st : siBody [.d (.str z), .d (.int (j : Nat)), .l ((List.range' 0 j).map (lineV ls)), .d (.list (wordsD ls)), s4] f = (sSeq (sIf (tB (eBin gEq (eBin gIx (eVar 4) (eC (.int 0))) (eC (.str "no")))) (sRet (eVar 4)) (sSkip)) (sApp 2 (eBin gIx (eVar 4) (eC (.int 1))))) [.d (.str z), .d (.int (j : Nat)), .l ((List.range' 0 j).map (lineV ls)), .d (.list (wordsD ls)), .d (stepR (Txt.split (ls.getD j "") " ") (j : Nat))] f := sSeq_nx (sSet_ok (eCall_ff (aCons_ok (eBin_ok rfl rfl (nth_w hj2)) (aCons_ok rfl rfl)) (t_law_step_in hm (j : Nat))))
      rw [st]
      unfold lineR stepR
      cases hF : stepF (Txt.split (ls.getD j "") " ") with
      | some e =>
        exact sSeq_ret ((sIf_t (tB_ok (b := true) (eBin_ok (x := .str "no") (eBin_ok rfl rfl rfl) rfl (by kernel_rfl)))).trans (sRet_ok rfl))
      | none =>
        refine ⟨_, (sSeq_nx (a := sIf _ _ _) (sIf_skip (tB_ok (b := false) (eBin_ok (x := .str "told") (eBin_ok rfl rfl rfl) rfl (by kernel_rfl))))).trans (sAppOk (xs := (List.range' 0 j).map (lineV ls)) (d := lineV ls j) rfl (eBin_ok rfl rfl rfl) (by rw [List.length_map, List.length_range']; omega)), .d (.int (j : Nat)), .d (toldD (stepV (Txt.split (ls.getD j "") " "))), ?_⟩
        show ([.d (.str z), .d (.int (j : Nat)), .l ((List.range' 0 j).map (lineV ls) ++ [lineV ls j]), .d (.list (wordsD ls)), .d (toldD (stepV (Txt.split (ls.getD j "") " ")))] : List Sl) = [.d (.str z), .d (.int (j : Nat)), .l ((List.range' 0 (j + 1)).map (lineV ls)), .d (.list (wordsD ls)), .d (toldD (stepV (Txt.split (ls.getD j "") " ")))]
        rw [List.range'_1_concat, List.map_append, Nat.zero_add]
        rfl) ⟨_, _, rfl⟩
    have el : (rangeD 0 ls.length).length = ls.length := by unfold rangeD; rw [List.length_map, List.length_range]
    rw [el] at lp
    have sf : sFor (iArgs rng1 (aCons (eList gLen (aCons (eVar 3) (aNil))) (aNil))) (gmName 1) siBody [.d (.str z), .no, .l [], .d (.list (wordsD ls)), .no] f = forLoop (gmName 1) siBody (rangeD 0 ls.length) [.d (.str z), .no, .l [], .d (.list (wordsD ls)), .no] f := sFor_ok it
    show sSeq (sFor (iArgs rng1 (aCons (eList gLen (aCons (eVar 3) (aNil))) (aNil))) (gmName 1) siBody) _ [.d (.str z), .no, .l [], .d (.list (wordsD ls)), .no] f = _
    cases hF : firstO (lineR ls) 0 ls.length with
    | some p =>
      rw [hF] at lp
      rw [sSeq_ret (sf.trans lp)]
    | none =>
      rw [hF] at lp
      obtain ⟨ρ', l1, s1, s4, rfl⟩ := lp
      rw [sSeq_nx (sf.trans l1), Nat.zero_add]
      show sRet _ [.d (.str z), s1, .d (.list ((List.range' 0 ls.length).map (lineV ls))), .d (.list (wordsD ls)), s4] f = _
      exact sRet_ok (eTup_ok (aCons_ok rfl (aCons_ok (eList_ok (aCons_ok rfl rfl) rfl) rfl)) (by show 2 ≤ lim; decide))
/-! ### what is told can be shown -/
theorem G_tupL {N k L : Nat} {xs : List D} (h : ∀ x ∈ xs, G N k x) (hl : xs.length ≤ L) (hL : L ≤ 100000) : G (L * (N + 2) + 4) (k + 1) (.tuple xs) := by
  obtain ⟨a1, a2, a3, a4⟩ := G_all h
  have hlim : xs.length ≤ lim := by have := lim_eq; omega
  refine ⟨?_, ?_, ?_, ?_⟩
  · unfold small; rw [a1, decide_eq_true hlim]; rfl
  · unfold nice; exact a2
  · unfold wt
    have := Nat.mul_le_mul_right (N + 2) hl
    omega
  · unfold PyData.depth; omega
theorem stp_G {z : Str} (h : isStp z = true) : G 30 0 (.str z) := by
  have : stpW.all (fun w => gB 30 0 (.str w)) = true := by decide +kernel
  unfold isStp at h
  obtain ⟨w, hw, e⟩ := inW_mem h
  injection e with e
  rw [e]
  exact gB_ok (List.all_eq_true.mp this w hw)
theorem step_G {ws : List Str} (h : stepF ws = none) : G 300 1 (stepV ws) := by
  obtain ⟨q0, q1, q2, q3⟩ := stepF_none h
  unfold stepV
  refine (G_tup (N := 72) (k := 0) (L := 3) (fun x hx => ?_) (by show 3 ≤ 3; decide) (by decide)).mono (by decide) (by decide)
  simp only [List.mem_cons, List.not_mem_nil, or_false] at hx
  rcases hx with rfl | rfl | rfl
  · exact (G_int (num_val q0)).mono (by decide) (by decide)
  · exact (stp_G q2).mono (by decide) (by decide)
  · cases hN : hasN ws with
    | true => rw [if_pos rfl]; exact (G_int (num_val (q3 hN).2)).mono (by decide) (by decide)
    | false => rw [if_neg (by simp)]; exact (gB_ok (N := 30) (k := 0) (by decide +kernel)).mono (by decide) (by decide)
theorem G_two {a b : D} {N M k : Nat} (ha : G N k a) (hb : G N k b) (hM : 2 * (N + 2) + 4 ≤ M) : G M (k + 1) (.tuple [a, b]) := (G_tup (N := N) (k := k) (L := 2) (fun x hx => by
  simp only [List.mem_cons, List.not_mem_nil, or_false] at hx
  rcases hx with rfl | rfl
  · exact ha
  · exact hb) (by show 2 ≤ 2; decide) (by decide)).mono hM (Nat.le_refl _)
theorem noS_G {n k : Nat} (hn : n ≤ lim) (hk : k ≤ lim) : G 200 1 (noS (n : Nat) (k : Nat)) := (G_tup (N := 30) (k := 0) (L := 4) (fun x hx => by
  simp only [List.mem_cons, List.not_mem_nil, or_false] at hx
  rcases hx with rfl | rfl | rfl | rfl
  · exact gB_ok (by decide +kernel)
  · exact gB_ok (by decide +kernel)
  · exact (int_small hn).mono (by decide) (by decide)
  · exact (int_small hk).mono (by decide) (by decide)) (by show 4 ≤ 4; decide) (by decide)).mono (by decide) (by decide)
theorem stepF_le {ws : List Str} {k : Nat} (h : stepF ws = some k) : k ≤ 3 := by
  unfold stepF at h
  repeat' split at h
  all_goals first | (injection h with h; omega) | cases h
theorem stepR_G {ws : List Str} {n : Nat} (hn : n ≤ lim) : G 700 2 (stepR ws (n : Nat)) := by
  have := lim_eq
  unfold stepR
  cases h : stepF ws with
  | none => exact G_two ((gB_ok (N := 30) (k := 0) (by decide +kernel)).mono (by decide) (by decide)) (step_G h) (by decide)
  | some k => exact (noS_G hn (by have := stepF_le h; omega)).mono (by decide) (by decide)
theorem firstO_at {α : Type} {o : Nat → Option α} {x : α} : ∀ {n k : Nat}, firstO o k n = some x → ∃ j, j < n ∧ o (k + j) = some x
  | 0, _, h => by cases h
  | n + 1, k, h => by
    unfold firstO at h
    cases e : o k with
    | some y =>
      rw [e] at h
      injection h with h
      exact ⟨0, Nat.succ_pos _, by rw [Nat.add_zero, e, h]⟩
    | none =>
      rw [e] at h
      obtain ⟨j, hj, q⟩ := firstO_at h
      exact ⟨j + 1, Nat.succ_lt_succ hj, by rw [show k + (j + 1) = k + 1 + j by omega]; exact q⟩
theorem firstO_no {α : Type} {o : Nat → Option α} : ∀ {n k : Nat}, firstO o k n = none → ∀ j, j < n → o (k + j) = none
  | 0, _, _, j, hj => by omega
  | n + 1, k, h, j, hj => by
    unfold firstO at h
    cases e : o k with
    | some y => rw [e] at h; cases h
    | none =>
      rw [e] at h
      cases j with
      | zero => exact e
      | succ j =>
        have := firstO_no h j (by omega)
        rw [show k + (j + 1) = k + 1 + j by omega]
        exact this
theorem runR_G {z : Str} (hz : z.length ≤ 5000) : G 3100000 3 (runR z) := by
  have hlim := lim_eq
  have e := split_sum (x := z) newl
  have hl := wsum_len (Txt.split z "\n")
  have told : G 30 0 (.str "told") := gB_ok (by decide +kernel)
  unfold runR
  cases hd : inW ["-"] (.str z) with
  | true =>
    rw [if_pos rfl]
    exact (G_two (N := 30) (k := 1) (M := 100) (told.mono (by decide) (by decide)) (gB_ok (by decide +kernel)) (by decide)).mono (by decide) (by decide)
  | false =>
    rw [if_neg (by simp)]
    generalize Txt.split z "\n" = ls at e hl
    cases hF : firstO (lineR ls) 0 ls.length with
    | some p =>
      obtain ⟨k, e⟩ := p
      obtain ⟨j, hj, q⟩ := firstO_at hF
      rw [Nat.zero_add] at q
      unfold lineR at q
      cases hS : stepF (Txt.split (ls.getD j "") " ") with
      | none => rw [hS] at q; cases q
      | some x =>
        rw [hS] at q
        injection q with q
        injection q with q1 q2
        subst q1 q2
        exact (noS_G (by omega) (by have := stepF_le hS; omega)).mono (by decide) (by decide)
    | none =>
      refine G_two (N := 1520000) (k := 2) (M := 3100000) (told.mono (by decide) (by decide)) ((G_tupL (N := 300) (k := 1) (L := 5001) (fun x hx => ?_) (by rw [List.length_map, List.length_range']; omega) (by decide)).mono (by decide) (by decide)) (by decide)
      obtain ⟨j, hj, rfl⟩ := List.mem_map.mp hx
      rw [List.mem_range'_1] at hj
      have q := firstO_no hF j (by omega)
      rw [Nat.zero_add] at q
      unfold lineR at q
      unfold lineV
      refine step_G ?_
      cases hS : stepF (Txt.split (ls.getD j "") " ") with
      | none => rfl
      | some x => rw [hS] at q; cases q
theorem refuseT (k : Nat) (n : Int) : f__law_refusal (misX k n) = some (noS n (k : Nat)) := rfl
theorem t_is_right {z : Str} (hz : z.length ≤ 5000) : f__law_is_right [.str z] f = .ok (.bool true) f := by
  have hlim := lim_eq
  have A : ∀ ρ : List Sl, ρ[0]? = some (.d (.str z)) → eHeard "told" 5 f__law_refusal (eCall false f_read_run (aCons (eVar 0) (aNil))) ρ f = .ok (runR z) f := fun ρ h0 => by
    have r := t_read_run (f := f) (z := z) (by omega)
    unfold runR
    cases hd : inW ["-"] (.str z) with
    | true =>
      rw [hd, if_pos rfl] at r
      rw [if_pos rfl]
      exact heard_ok (eCall_k (aCons_ok (eVar_ok h0) rfl) r (keeps_ok _))
    | false =>
      rw [hd, if_neg (by simp)] at r
      rw [if_neg (by simp)]
      cases hF : firstO (lineR (Txt.split z "\n")) 0 (Txt.split z "\n").length with
      | none =>
        rw [hF] at r
        exact heard_ok (eCall_k (aCons_ok (eVar_ok h0) rfl) r (keeps_ok _))
      | some p =>
        obtain ⟨k, e⟩ := p
        rw [hF] at r
        exact heard_exc (eCall_k (aCons_ok (eVar_ok h0) rfl) r (keeps_exc _)) (by show 3 < 5; decide) (refuseT _ _)
  have B : ∀ ρ : List Sl, ρ[0]? = some (.d (.str z)) → eHeard "told" 5 f__law_refusal (eCall false f_read_step (aCons (eVar 0) (aNil))) ρ f = .ok (stepR (Txt.split z " ") 0) f := fun ρ h0 => by
    have r := t_read_step (f := f) (z := z) (by omega)
    unfold stepR
    cases hF : stepF (Txt.split z " ") with
    | none =>
      rw [hF] at r
      exact heard_ok (eCall_k (aCons_ok (eVar_ok h0) rfl) r (keeps_ok _))
    | some k =>
      rw [hF] at r
      exact heard_exc (eCall_k (aCons_ok (eVar_ok h0) rfl) r (keeps_exc _)) (by show 3 < 5; decide) (refuseT _ _)
  have g : reprOk (.list [runR z, stepR (Txt.split z " ") 0]) = true := ((G_lst (N := 3100000) (k := 3) (L := 2) (fun x hx => by
    simp only [List.mem_cons, List.not_mem_nil, or_false] at hx
    rcases hx with rfl | rfl
    · exact runR_G hz
    · exact (stepR_G (ws := Txt.split z " ") (n := 0) (Nat.zero_le _)).mono (by decide) (by decide)) (by show 2 ≤ 2; decide) (by decide)).ok (by decide) (by decide)).2
  refine mfun_ret rfl ?_
  show sSeq _ _ [.d (.str z), .no] f = _
  have ow : sOwn 1 (aCons (eHeard "told" 5 f__law_refusal (eCall false f_read_run (aCons (eVar 0) (aNil)))) (aNil)) [.d (.str z), .no] f = .nx [.d (.str z), .l [runR z]] f := by
    unfold sOwn
    rw [aCons_ok (A _ rfl) rfl]
    rfl
  rw [sSeq_nx ow, sSeq_nx (sAppOk (xs := [runR z]) rfl (B _ rfl) (by show 1 < lim; decide))]
  show sRet _ [.d (.str z), .d (.list [runR z, stepR (Txt.split z " ") 0])] f = _
  have e2 : eLst (aCons (eCall false f__law_steps_in (aCons (eVar 0) (aNil))) (aCons (eCall false f__law_step_in (aCons (eVar 0) (aCons (eC (.int 0)) (aNil)))) (aNil))) [.d (.str z), .d (.list [runR z, stepR (Txt.split z " ") 0])] f = .ok (.list [runR z, stepR (Txt.split z " ") 0]) f := eLst_ok (aCons_ok (eCall_ff (aCons_ok rfl rfl) (t_steps_in (by omega))) (aCons_ok (eCall_ff (aCons_ok rfl (aCons_ok rfl rfl)) (t_law_step_in (by omega) 0)) rfl)) (by show 2 ≤ lim; decide)
  exact sRet_ok (eBin_ok (eList_ok (aCons_ok rfl rfl) (gRepr_ok g)) (eList_ok (aCons_ok e2 rfl) (gRepr_ok g)) (str_self _))
end Mir

set_option Elab.async false
set_option linter.all false
set_option maxRecDepth 100000
set_option maxHeartbeats 4000000
namespace Mir
open PySem PySem.Spec PyProof.Rows L2 TL
variable {f : FS}
/-! ### joins, cuts -/
theorem strsD_map : ∀ zs : List Str, strsD (wordsD zs) = some zs
  | [] => rfl
  | z :: zs => by
    show (strsD (wordsD zs)).map _ = _
    rw [strsD_map zs]
    rfl
theorem gJoin_w {y : Str} {zs : List Str} (h : (zs.map (·.length)).sum + zs.length * y.length ≤ lim) : gJoin [.str y, .list (wordsD zs)] = some (.str (Txt.join y zs)) := by
  have q : ∀ xs, gJoin [.str y, .list xs] = (strsD xs).bind fun ys => if (ys.map (·.length)).sum + ys.length * y.length ≤ lim then some (.str (Txt.join y ys)) else none := fun _ => rfl
  rw [q, strsD_map, Option.bind_some, if_pos h]
theorem join_le (y : Str) (zs : List Str) : (Txt.join y zs).length ≤ (zs.map (·.length)).sum + zs.length * y.length := by
  rw [join_eq]
  exact StrLaws.join_length_le y zs
theorem sum_le {zs : List Str} {m : Nat} (h : ∀ z ∈ zs, z.length ≤ m) : (zs.map (·.length)).sum ≤ zs.length * m := by
  induction zs with
  | nil => exact Nat.zero_le _
  | cons z zs ih =>
    have h1 := h z List.mem_cons_self
    have h2 := ih fun y hy => h y (List.mem_cons_of_mem _ hy)
    rw [List.map_cons, List.sum_cons, List.length_cons, Nat.succ_mul]
    omega
theorem eMt_join {m : ME} {ρ : List Sl} {f1 : FS} {y : Str} {zs : List Str} (h : m ρ f = .ok (.list (wordsD zs)) f1) (hl : (zs.map (·.length)).sum + zs.length * y.length ≤ lim) : eMt "str" gJoin (eC (.str y)) (aCons m aNil) ρ f = .ok (.str (Txt.join y zs)) f1 := by
  unfold eMt
  show (aCons m aNil ρ f).bind (fun ds f2 => ofO (gJoin (.str y :: ds)) f2) = _
  rw [aCons_ok h rfl]
  show ofO (gJoin [.str y, .list (wordsD zs)]) f1 = _
  rw [gJoin_w hl]
  rfl
theorem wsum_text (ws : List Str) : (ws.map (·.length)).sum + ws.length * 1 = wsum ws := by
  unfold wsum
  induction ws with
  | nil => rfl
  | cons w ws ih => rw [List.map_cons, List.sum_cons, List.map_cons, List.sum_cons, List.length_cons, ← ih]; omega
theorem add_w {xs ys : List Str} (h : xs.length + ys.length ≤ lim) : gAdd [.list (wordsD xs), .list (wordsD ys)] = some (.list (wordsD (xs ++ ys))) := by
  have q : ∀ a b, gAdd [.list a, .list b] = if a.length + b.length ≤ lim then some (.list (a ++ b)) else none := fun _ _ => rfl
  rw [q, if_pos]
  · unfold wordsD
    rw [List.map_append]
  · unfold wordsD
    rw [List.length_map, List.length_map]
    exact h
theorem cut_two (ls : List D) (a b : Nat) : cutD ls (some (a : Nat)) (some (b : Nat)) = (ls.drop a).take (b - a) := by
  unfold cutD
  rw [HT.sIx_nat, HT.sIx_nat]
  by_cases ha : a ≤ ls.length
  · rw [Nat.min_eq_left ha]
    by_cases hb : b ≤ ls.length
    · rw [Nat.min_eq_left hb]
    · rw [Nat.min_eq_right (show ls.length ≤ b by omega), List.take_of_length_le (by rw [List.length_drop]; omega), List.take_of_length_le (by rw [List.length_drop]; omega)]
  · rw [Nat.min_eq_right (show ls.length ≤ a by omega), List.drop_of_length_le (Nat.le_refl _), List.drop_of_length_le (by omega), List.take_nil, List.take_nil]
theorem cut_to (ls : List D) (k : Nat) : cutD ls none (some (k : Nat)) = ls.take k := by
  unfold cutD
  have e1 : HT.sIx ls.length 0 none = 0 := rfl
  rw [HT.sIx_nat, e1, List.drop_zero, Nat.sub_zero]
  by_cases h : k ≤ ls.length
  · rw [Nat.min_eq_left h]
  · rw [Nat.min_eq_right (by omega), List.take_of_length_le (Nat.le_refl _), List.take_of_length_le (by omega)]
theorem cut_from (ls : List D) (k : Nat) : cutD ls (some (k : Nat)) none = ls.drop k := by
  unfold cutD
  have e1 : HT.sIx ls.length ls.length none = ls.length := rfl
  rw [HT.sIx_nat, e1]
  by_cases h : k ≤ ls.length
  · rw [Nat.min_eq_left h]
    exact List.take_of_length_le (by rw [List.length_drop]; omega)
  · rw [Nat.min_eq_right (by omega), List.drop_of_length_le (Nat.le_refl _), List.drop_of_length_le (by omega), List.take_nil]
theorem sl_to {m hi : ME} {ρ : List Sl} {ws : List Str} {k : Nat} (h : m ρ f = .ok (.list (wordsD ws)) f) (h2 : hi ρ f = .ok (.int (k : Nat)) f) : eSl m oNo (oAt hi) ρ f = .ok (.list (wordsD (ws.take k))) f := by
  unfold eSl oAt oNo
  rw [h]
  dsimp only [R.bind_ok]
  rw [h2]
  show ofO (some (PyData.list (cutD (wordsD ws) none (some ((k : Nat) : Int))))) f = _
  rw [cut_to]
  unfold wordsD
  rw [List.map_take]
  rfl
theorem sl_from {m lo : ME} {ρ : List Sl} {ws : List Str} {k : Nat} (h : m ρ f = .ok (.list (wordsD ws)) f) (h2 : lo ρ f = .ok (.int (k : Nat)) f) : eSl m (oAt lo) oNo ρ f = .ok (.list (wordsD (ws.drop k))) f := by
  unfold eSl oAt oNo
  rw [h]
  dsimp only [R.bind_ok]
  rw [h2]
  show ofO (some (PyData.list (cutD (wordsD ws) (some ((k : Nat) : Int)) none))) f = _
  rw [cut_from]
  unfold wordsD
  rw [List.map_drop]
  rfl
theorem sl_mid {m lo hi : ME} {ρ : List Sl} {ws : List Str} {j k : Nat} (h : m ρ f = .ok (.list (wordsD ws)) f) (h1 : lo ρ f = .ok (.int (j : Nat)) f) (h2 : hi ρ f = .ok (.int (k : Nat)) f) : eSl m (oAt lo) (oAt hi) ρ f = .ok (.list (wordsD ((ws.drop j).take (k - j)))) f := by
  unfold eSl oAt
  rw [h]
  dsimp only [R.bind_ok]
  rw [h1]
  dsimp only [R.bind_ok]
  rw [h2]
  show ofO (some (PyData.list (cutD (wordsD ws) (some ((j : Nat) : Int)) (some ((k : Nat) : Int))))) f = _
  rw [cut_two]
  unfold wordsD
  rw [List.map_take, List.map_drop]
  rfl
theorem add_k (j k : Nat) : gAdd [.int (j : Nat), .int (k : Nat)] = some (.int ((j + k : Nat) : Int)) := rfl
theorem wsum_app (ws vs : List Str) : wsum (ws ++ vs) = wsum ws + wsum vs := by
  unfold wsum
  rw [List.map_append, List.sum_append]
theorem wsum_drop (ws : List Str) (k : Nat) : wsum (ws.drop (k + 1)) ≤ wsum (ws.drop k) := by
  induction ws generalizing k with
  | nil => rw [List.drop_nil]; exact Nat.zero_le _
  | cons w ws ih =>
    cases k with
    | zero =>
      show wsum ws ≤ wsum (w :: ws)
      rw [show w :: ws = [w] ++ ws from rfl, wsum_app]
      omega
    | succ k => exact ih k
theorem wsum_cut (ws : List Str) (k : Nat) : wsum (ws.take k) + wsum (ws.drop (k + 1)) ≤ wsum ws := by
  have h1 := wsum_app (ws.take k) (ws.drop k)
  rw [List.take_append_drop] at h1
  have := wsum_drop ws k
  omega
theorem add_s {a b : Str} (h : a.length + b.length ≤ lim) : gAdd [.str a, .str b] = some (.str (a ++ b)) := by
  show (if a.length + b.length ≤ lim then _ else _) = _
  rw [if_pos h]
/-! ### draws -/
def cap : Nat := 1000000
theorem hvF_draw {n : Nat} (hn : n + 1 ≤ cap) {m : Int} (h1 : 1 ≤ m) (h2 : m < 1073741824) : HvF (FN n) (FN (n + 1)) f__law_draw [.int m] (IntIn m) := by
  have hm : 0 < m := by omega
  have hn : n + 1 ≤ 1000000 := hn
  refine hvF_of (F1 := FN (n + 1)) rfl (hvs_count (i := 0) (j := 2) rfl (by decide) (by show 2 < 8; decide) fun z z1 z2 => ?_)
  show HvS (FN (n + 1)) (FN (n + 1)) (FN (n + 1)) _ [.fd, .d (.int m), .d (.int z), .no, .no, .no, .no, .no] _ _
  refine hvs_seq (M := fun ρ' => ρ' = [.fd, .d (.int m), .d (.int z), .no, .no, .no, .no, .no]) (F1 := FN (n + 1)) (hvs_if (F1 := FN (n + 1)) (hv_gt (hv_fd rfl (by decide)) hv_ci) (fun _ => ?_) fun _ => hvs_skip rfl) fun ρ' h => ?_
  · refine hvs_seq (M := fun ρ' => ∃ x, IntIn m x ∧ ρ' = [.fd, .d (.int m), .d (.int z), .no, .no, .d x, .no, .no]) (hvs_set (hv_mod (hv_int (hv_fd rfl (by decide))) (hv_var rfl) hm) fun d q => ⟨d, q, rfl⟩) fun ρ' h => ?_
    obtain ⟨x, hx, rfl⟩ := h
    refine hvs_seq (hvs_put rfl (by simp) (hv_fdiv (hv_fd rfl (by decide)) (hv_var rfl) hm h2)) fun ρ' h => ?_
    subst h
    exact hvs_ret ((hv_var rfl).mono fun d e => e ▸ hx)
  subst h
  refine hvs_seq (M := fun ρ' => ∃ (cs : List Int) (p : Int), cs.length ≤ 63 ∧ ρ' = [.fd, .d (.int m), .d (.int z), .no, .no, .no, .d (.list (cs.map .int)), .d (.int p)]) (F1 := FN (n + 1)) (fun f hf => .inl ⟨_, f, sPar_ok (aCons_ok (eFd_ok rfl) (aCons_ok (eFd_ok rfl) rfl)), ⟨f.cells, f.next, hf.1, rfl⟩, hf⟩) fun ρ' h => ?_
  obtain ⟨cs, p, hcs, rfl⟩ := h
  refine hvs_seq (hvs_put rfl (by simp) (hv_add (hv_i (hv_var rfl) ⟨p, rfl⟩) hv_ci)) fun ρ' h => ?_
  subst h
  refine hvs_seq (F1 := FN (n + 1)) (M := fun ρ' => ∃ c : Int, ρ' = [.fd, .d (.int m), .d (.int z), .d (.int c), .no, .no, .d (.list (cs.map .int)), .d (.int p)]) (hvs_set (hv_cellV rfl hcs p fun f => eVar_ok rfl) fun d q => by obtain ⟨c, rfl⟩ := q; exact ⟨c, rfl⟩) fun ρ' h => ?_
  obtain ⟨c, rfl⟩ := h
  refine hvs_seq (F1 := FN (n + 1)) (M := fun ρ' => ρ' = [.fd, .d (.int m), .d (.int z), .d (.int c), .no, .no, .d (.list (cs.map .int)), .d (.int p)]) (hvs_if (F1 := FN (n + 1)) (hv_and (hv_ge (F1 := FN (n + 1)) (hv_i (hv_var rfl) ⟨c, rfl⟩) (hv_p (d := .int (10 ^ 18)) (fun f => eBin_ok rfl rfl (by rfl)) ⟨_, rfl⟩)) (hv_lt (F1 := FN (n + 1)) (hv_i (hv_var rfl) ⟨p, rfl⟩) (hv_cellsN rfl ⟨cs, rfl, hcs⟩))) (fun _ => ?_) fun _ => hvs_skip rfl) fun ρ' h => ?_
  · refine hvs_seq (hvs_put rfl (by simp) (hv_fdiv (hv_i (hv_var rfl) ⟨c, rfl⟩) (hv_var rfl) hm h2)) fun ρ' h => ?_
    subst h
    exact hvs_ret (hv_mod (hv_int (hv_i (hv_var rfl) ⟨c, rfl⟩)) (hv_var rfl) hm)
  subst h
  have vz : ∀ {ρ : List Sl}, ρ[2]? = some (.d (.int z)) → Hv (FN (n + 1)) (FN (n + 1)) (eVar 2) ρ (IntB 0 1000001) := fun e => (hv_var e).mono fun d e => e ▸ ⟨z, rfl, by omega, by omega⟩
  refine hvs_seq (F1 := FN (n + 1)) (M := fun ρ' => ∃ x, IntIn 2147483563 x ∧ ρ' = [.fd, .d (.int m), .d (.int z), .d (.int c), .d x, .no, .d (.list (cs.map .int)), .d (.int p)]) (hvs_set (hv_mod (F1 := FN (n + 1)) (hv_int (hv_powB (h1 := 1000000683 - 1 + 73173 * 1000001 + 1873) (hv_addB (F1 := FN (n + 1)) (hv_addB (F1 := FN (n + 1)) ((hv_mod (F1 := FN (n + 1)) (hv_int (hv_i (hv_var rfl) ⟨c, rfl⟩)) hv_c (by decide)).mono fun d q => q.bnd) (hv_mulB (F1 := FN (n + 1)) (hv_c0 (by decide)) (vz rfl) (by decide))) (hv_c0 (by decide))) (by decide) (by decide) (by decide))) hv_c (by decide)) fun d q => ⟨d, q, rfl⟩) fun ρ' h => ?_
  obtain ⟨x, hx, rfl⟩ := h
  have vx : Hv (FN (n + 1)) (FN (n + 1)) (eVar 4) [.fd, .d (.int m), .d (.int z), .d (.int c), .d x, .no, .d (.list (cs.map .int)), .d (.int p)] (IntB 0 (2147483563 - 1)) := (hv_var rfl).mono fun d e => e ▸ hx.bnd
  refine hvs_seq (F1 := FN (n + 1)) (M := fun ρ' => ∃ x, IntIn 2147483399 x ∧ ρ' = [.fd, .d (.int m), .d (.int z), .d (.int c), .d x, .no, .d (.list (cs.map .int)), .d (.int p)]) (hvs_set (hv_mod (F1 := FN (n + 1)) (hv_int (hv_powB (h1 := 2147483563 - 1 + 9753 * 1000001 * 1000001 + 1085) (hv_addB (F1 := FN (n + 1)) (hv_addB (F1 := FN (n + 1)) vx (hv_mulB (F1 := FN (n + 1)) (hv_mulB (F1 := FN (n + 1)) (hv_c0 (by decide)) (vz rfl) (by decide)) (vz rfl) (by decide))) (hv_c0 (by decide))) (by decide) (by decide) (by decide))) hv_c (by decide)) fun d q => ⟨d, q, rfl⟩) fun ρ' h => ?_
  obtain ⟨y, hy, rfl⟩ := h
  exact hvs_ret (hv_mod (F1 := FN (n + 1)) (hv_int (hv_fdiv (F1 := FN (n + 1)) ((hv_var rfl).mono fun d e => e ▸ hy.i) hv_c (by decide) (by decide))) (hv_var rfl) hm)
theorem hvF_any {n : Nat} (hn : n + 1 ≤ cap) {xs : List D} (h0 : xs ≠ []) (hl : xs.length < 1000000) : HvF (FN n) (FN (n + 1)) f__law_any [.list xs] (· ∈ xs) := by
  have h1 : 1 ≤ xs.length := by cases xs with | nil => exact absurd rfl h0 | cons _ _ => rw [List.length_cons]; omega
  refine hvF_of (F1 := FN (n + 1)) rfl (hvs_ret (hv_bin (F1 := FN n) (P := (· = .list xs)) (Q := IntIn ((xs.length : Nat) : Int)) (hv_var rfl) (hv_callF (F1 := FN n) (P := (· = [.int ((xs.length : Nat) : Int)])) (hv_aFd rfl (hv_p (fun f => aCons_ok (eList_ok (aCons_ok rfl rfl) rfl) rfl) rfl)) fun ys q => ?_) fun x y hx hy => ?_))
  · subst q
    exact hvF_draw hn (by omega) (by omega)
  · subst hx
    obtain ⟨r, rfl, a, b⟩ := hy
    exact atI_in a b
section
variable {ρ : List Sl} {F F1 E : FS → Prop} {N : List Sl → Prop} {P : D → Prop}
theorem hvs_app {i : Nat} {xs : List D} {m : ME} {Q : D → Prop} (h0 : ρ[i]? = some (.l xs)) (hl : xs.length < lim) (h : Hv F F1 m ρ Q) (k : ∀ d, Q d → N (ρ.set i (.l (xs ++ [d])))) : HvS F F1 E (sApp i m) ρ N P := fun f hf => by
  obtain ⟨d, f1, e1, q, hf1⟩ := h f hf
  refine .inl ⟨_, f1, ?_, k d q, hf1⟩
  unfold sApp
  rw [h0]
  show sBind (m ρ f) _ = _
  rw [e1]
  show (if xs.length < lim then SR.nx (ρ.set i (.l (xs ++ [d]))) f1 else SR.bad) = _
  rw [if_pos hl]
theorem hvs_own {i : Nat} {ms : MA} {Q : List D → Prop} (h : Hv F F1 ms ρ Q) (hl : ∀ ds, Q ds → ds.length ≤ lim) (k : ∀ ds, Q ds → N (ρ.set i (.l ds))) : HvS F F1 E (sOwn i ms) ρ N P := fun f hf => by
  obtain ⟨d, f1, e1, q, hf1⟩ := h f hf
  refine .inl ⟨_, f1, ?_, k d q, hf1⟩
  unfold sOwn
  rw [e1]
  show (if d.length ≤ lim then SR.nx (ρ.set i (.l d)) f1 else SR.bad) = _
  rw [if_pos (hl d q)]
end
theorem call_draw {n : Nat} (hn : n + 1 ≤ cap) {ρ : List Sl} {i : Nat} (hi : ρ[i]? = some .fd) {m : ME} {k : Int} (h : ∀ f, m ρ f = .ok (.int k) f) (h1 : 1 ≤ k) (h2 : k < 1073741824) : Hv (FN n) (FN (n + 1)) (eCall true f__law_draw (aFd i (aCons m aNil))) ρ (IntIn k) :=
  hv_callF (F1 := FN n) (P := (· = [.int k])) (hv_aFd hi (hv_p (fun f => aCons_ok (h f) rfl) rfl)) fun ys q => by subst q; exact hvF_draw hn h1 h2
theorem call_any {n : Nat} (hn : n + 1 ≤ cap) {ρ : List Sl} {i : Nat} (hi : ρ[i]? = some .fd) {m : ME} {xs : List D} (h : ∀ f, m ρ f = .ok (.list xs) f) (h0 : xs ≠ []) (hl : xs.length < 1000000) : Hv (FN n) (FN (n + 1)) (eCall true f__law_any (aFd i (aCons m aNil))) ρ (· ∈ xs) :=
  hv_callF (F1 := FN n) (P := (· = [.list xs])) (hv_aFd hi (hv_p (fun f => aCons_ok (h f) rfl) rfl)) fun ys q => by subst q; exact hvF_any hn h0 hl
end Mir

set_option Elab.async false
set_option linter.all false
set_option maxRecDepth 100000
set_option maxHeartbeats 4000000
namespace Mir
open PySem PySem.Spec PyProof.Rows L2 TL
variable {f : FS}
/-! ### moves that are drawn, their lines -/
def greats : List Int := [0, 1, 2, 7, 9, 10, 59, 100, 100000000000000000000000000000000000000000000000000000000000, 999999999999999999999999999999999999999999999999999999999999]
abbrev greatsD : List D := greats.map .int
def numStr (d : D) : Bool := match gStr2 [d] with
  | some (.str s) => decide (s.length ≤ 60)
  | _ => false
theorem great_str {a : Int} (h : a ∈ greats) : ∃ s, gStr2 [.int a] = some (.str s) ∧ s.length ≤ 60 := by
  have : greats.all (fun a => numStr (.int a)) = true := by decide +kernel
  have q := List.all_eq_true.mp this a h
  unfold numStr at q
  split at q
  · rename_i s e
    exact ⟨s, e, of_decide_eq_true q⟩
  · cases q
def MvL (d : D) : Prop := ∃ (a n : Int) (w : Str), d = .tuple [.int a, .str w, .int n] ∧ a ∈ greats ∧ w ∈ stpW ∧ (inW ["go", "aside"] (.str w) = true → n ∈ greats)
theorem stpW_len {w : Str} (h : w ∈ stpW) : w.length ≤ 5 := by
  have : stpW.all (fun w => decide (w.length ≤ 5)) = true := by decide +kernel
  exact of_decide_eq_true (List.all_eq_true.mp this w h)
theorem t_line_of {d : D} (h : MvL d) : ∃ l, (∀ f, f__law_line_of [d] f = .ok (.str l) f) ∧ l.length ≤ 130 := by
  obtain ⟨a, n, w, rfl, ha, hw, hn⟩ := h
  obtain ⟨sa, ea, la⟩ := great_str ha
  have lw := stpW_len hw
  have hlim := lim_eq
  have b1 : (" " : Str).length = 1 := by decide +kernel
  have e0 : ∀ f, eLst (aCons (eList gStr2 (aCons (eBin gIx (eVar 0) (eC (.int 0))) (aNil))) (aCons (eBin gIx (eVar 0) (eC (.int 1))) (aNil))) [.d (.tuple [.int a, .str w, .int n])] f = .ok (.list (wordsD [sa, w])) f := fun f => eLst_ok (aCons_ok (eList_ok (aCons_ok (d := .int a) (eBin_ok rfl rfl rfl) rfl) ea) (aCons_ok (d := .str w) (eBin_ok rfl rfl rfl) rfl)) (by show 2 ≤ lim; decide)
  have t : ∀ f, tB (eBin gIn (eBin gIx (eVar 0) (eC (.int 1))) (eLst (aCons (eC (.str "go")) (aCons (eC (.str "aside")) (aNil))))) [.d (.tuple [.int a, .str w, .int n])] f = .ok (inW ["go", "aside"] (.str w)) f := fun f => tB_ok (eBin_ok (x := .str w) (eBin_ok rfl rfl rfl) (eLst_ok rfl (by show 2 ≤ lim; decide)) (gIn_ws ["go", "aside"] _ rfl))
  cases hg : inW ["go", "aside"] (.str w) with
  | true =>
    rw [hg] at t
    obtain ⟨sn, en, ln⟩ := great_str (hn hg)
    have e1 : ∀ f, eIf (tB (eBin gIn (eBin gIx (eVar 0) (eC (.int 1))) (eLst (aCons (eC (.str "go")) (aCons (eC (.str "aside")) (aNil)))))) (eLst (aCons (eList gStr2 (aCons (eBin gIx (eVar 0) (eC (.int 2))) (aNil))) (aNil))) (eLst (aNil)) [.d (.tuple [.int a, .str w, .int n])] f = .ok (.list (wordsD [sn])) f := fun f => (eIf_t (t f)).trans (eLst_ok (aCons_ok (eList_ok (aCons_ok (d := .int n) (eBin_ok rfl rfl rfl) rfl) en) rfl) (by show 1 ≤ lim; decide))
    have jl := join_le " " [sa, w, sn]
    simp only [List.map_cons, List.map_nil, List.sum_cons, List.sum_nil, List.length_cons, List.length_nil] at jl
    refine ⟨Txt.join " " [sa, w, sn], fun f => mfun_ret rfl (sRet_ok (eMt_join (zs := [sa, w, sn]) (eBin_ok (e0 f) (e1 f) (add_w (xs := [sa, w]) (ys := [sn]) (by show 3 ≤ lim; decide))) ?_)), by omega⟩
    simp only [List.map_cons, List.map_nil, List.sum_cons, List.sum_nil, List.length_cons, List.length_nil]
    omega
  | false =>
    rw [hg] at t
    have e1 : ∀ f, eIf (tB (eBin gIn (eBin gIx (eVar 0) (eC (.int 1))) (eLst (aCons (eC (.str "go")) (aCons (eC (.str "aside")) (aNil)))))) (eLst (aCons (eList gStr2 (aCons (eBin gIx (eVar 0) (eC (.int 2))) (aNil))) (aNil))) (eLst (aNil)) [.d (.tuple [.int a, .str w, .int n])] f = .ok (.list (wordsD [])) f := fun f => (eIf_f (t f)).trans (eLst_ok rfl (Nat.zero_le _))
    have jl := join_le " " [sa, w]
    simp only [List.map_cons, List.map_nil, List.sum_cons, List.sum_nil, List.length_cons, List.length_nil] at jl
    refine ⟨Txt.join " " [sa, w], fun f => mfun_ret rfl (sRet_ok (eMt_join (zs := [sa, w]) (eBin_ok (e0 f) (e1 f) (add_w (xs := [sa, w]) (ys := []) (by show 2 ≤ lim; decide))) ?_)), by omega⟩
    simp only [List.map_cons, List.map_nil, List.sum_cons, List.sum_nil, List.length_cons, List.length_nil]
    omega
def lnF (d : D) : Str := match f__law_line_of [d] ⟨[], 0, 0, 0⟩ with
  | .ok (.str l) _ => l
  | _ => ""
theorem mvl_line {d : D} (h : MvL d) : f__law_line_of [d] f = .ok (.str (lnF d)) f ∧ (lnF d).length ≤ 130 := by
  obtain ⟨l, e, hl⟩ := t_line_of h
  have : lnF d = l := by unfold lnF; rw [e]
  rw [this]
  exact ⟨e f, hl⟩
def IsTrip (d : D) : Prop := ∃ xs, d = .tuple xs ∧ xs.length ≤ 8 ∧ ∀ x ∈ xs, MvL x
def PgD (n : Nat) (d : D) : Prop := ∃ z, d = .str z ∧ z.length ≤ n
theorem t_text_of {d : D} (h : IsTrip d) : ∃ z, f__law_text_of [d] f = .ok (.str z) f ∧ z.length ≤ 1060 := by
  obtain ⟨xs, rfl, hl, hm⟩ := h
  have hlim := lim_eq
  have b1 : ("\n" : Str).length = 1 := by decide +kernel
  have t : tB (eBin gGt (eList gLen (aCons (eVar 0) (aNil))) (eC (.int 0))) [.d (.tuple xs), .no] f = .ok (decide ((0 : Int) < ((xs.length : Nat) : Int))) f := tB_ok (eBin_ok (eList_ok (aCons_ok rfl rfl) rfl) rfl (gGt_int _ _))
  by_cases h0 : (0 : Int) < ((xs.length : Nat) : Int)
  · rw [decide_eq_true h0] at t
    have c : eComp [1] (iSeq (eVar 0)) (gmName 1) (bYes) (eCall false f__law_line_of (aCons (eVar 1) (aNil))) [.d (.tuple xs), .no] f = .ok (.list (wordsD (xs.map lnF))) f := by
      refine eComp_ok (f1 := f) (iSeq_ok rfl rfl) (by omega) rfl ((comp_map (g := fun d => .str (lnF d)) _ _ fun d hd => eCall_ff (aCons_ok rfl rfl) (mvl_line (hm d hd)).1).trans ?_)
      rw [List.nil_append]
      unfold wordsD
      rw [List.map_map]
      rfl
    have s1 := sum_le (zs := xs.map lnF) (m := 130) fun z hz => by
      obtain ⟨d, hd, rfl⟩ := List.mem_map.mp hz
      exact (mvl_line (f := f) (hm d hd)).2
    rw [List.length_map] at s1
    have jl := join_le "\n" (xs.map lnF)
    rw [b1, List.length_map] at jl
    refine ⟨_, mfun_ret rfl (sRet_ok ((eIf_t t).trans (eMt_join c (by rw [b1, List.length_map]; omega)))), by omega⟩
  · rw [decide_eq_false h0] at t
    exact ⟨"-", mfun_ret rfl (sRet_ok ((eIf_f t).trans rfl)), by decide +kernel⟩
theorem hvF_loose {n : Nat} (hn : n + 100 ≤ cap) : HvF (FN n) (FN (n + 25)) f__law_loose [.int 8] IsTrip := by
  have hn : n + 100 ≤ 1000000 := hn
  have hlim : lim = 100000 := rfl
  refine hvF_of (F1 := FN (n + 25)) rfl ?_
  refine hvs_seq (F1 := FN n) (M := fun ρ' => ρ' = [.fd, .d (.int 8), .no, .l [], .d (.list greatsD), .no, .no]) (fun f hf => .inl ⟨_, f, by kernel_rfl, rfl, hf⟩) fun ρ' q => ?_
  subst q
  refine hvs_seq (F1 := FN (n + 25)) (M := fun ρ' => ∃ s2 s5 s6 xs, ρ' = [.fd, .d (.int 8), s2, .l xs, .d (.list greatsD), s5, s6] ∧ xs.length ≤ 8 ∧ ∀ x ∈ xs, MvL x) (hvs_for (C := fun ds => ds.length ≤ 8) (J := fun _ k ρ' => ∃ s2 s5 s6 xs, ρ' = [.fd, .d (.int 8), s2, .l xs, .d (.list greatsD), s5, s6] ∧ xs.length = k ∧ ∀ x ∈ xs, MvL x) (FF := fun k => FN (n + 1 + 3 * k)) ?_ (fun _ _ => ⟨_, _, _, [], rfl, rfl, fun d hd => nomatch hd⟩) (fun ds hds k d ρ' hk hd hj => ?_) (fun ds hds ρ' hj => ?_) fun ds hds f hf => FN.le (by omega) f hf) fun ρ' q => ?_
  · refine hv_args (F1 := FN (n + 1 + 3 * 0)) (P := fun xs => ∃ d, xs = [d] ∧ IntIn 9 d) (hv_one (call_draw (by show n + 1 ≤ 1000000; omega) rfl (fun f => eBin_ok rfl rfl rfl) (by decide) (by decide))) fun xs q => ?_
    obtain ⟨d, rfl, r, rfl, r0, r1⟩ := q
    refine ⟨_, rng1_ok (by unfold rngOk; rw [decide_eq_true (by omega), decide_eq_true (by omega)]; rfl), ?_⟩
    unfold rangeD
    rw [List.length_map, List.length_range]
    omega
  · obtain ⟨s2, s5, s6, xs, rfl, hx, hm⟩ := hj
    have hk12 : k < 8 := by omega
    refine ⟨[.fd, .d (.int 8), .d d, .l xs, .d (.list greatsD), s5, s6], rfl, ?_⟩
    refine hvs_seq (F1 := FN (n + 1 + 3 * k + 1)) (M := fun ρ' => ∃ w, w ∈ stpW ∧ ρ' = [.fd, .d (.int 8), .d d, .l xs, .d (.list greatsD), .d (.str w), s6]) (hvs_set (call_any (xs := wordsD stpW) (by show n + 1 + 3 * k + 1 ≤ 1000000; omega) rfl (fun f => law_words _) (by simp [wordsD]) (by decide)) fun z hz => ?_) fun ρ' q => ?_
    · obtain ⟨w, hw, rfl⟩ := List.mem_map.mp hz
      exact ⟨w, hw, rfl⟩
    obtain ⟨w, hw, rfl⟩ := q
    refine hvs_seq (F1 := FN (n + 1 + 3 * k + 1 + 1)) (M := fun ρ' => ∃ z, (inW ["go", "aside"] (.str w) = true → z ∈ greats) ∧ ρ' = [.fd, .d (.int 8), .d d, .l xs, .d (.list greatsD), .d (.str w), .d (.int z)]) (hvs_set (Q := fun y => ∃ z, (inW ["go", "aside"] (.str w) = true → z ∈ greats) ∧ y = .int z) (hv_if (F1 := FN (n + 1 + 3 * k + 1)) (C := (· = inW ["go", "aside"] (.str w))) (hv_p (fun f => tB_ok (eBin_ok rfl (eLst_ok rfl (by show 2 ≤ lim; decide)) (gIn_ws ["go", "aside"] (.str w) rfl))) rfl) (fun hc => ?_) fun hc => ?_) fun y q => by obtain ⟨z, hz, rfl⟩ := q; exact ⟨z, hz, rfl⟩) fun ρ' q => ?_
    · refine (call_any (xs := greatsD) (by show n + 1 + 3 * k + 1 + 1 ≤ 1000000; omega) rfl (fun f => eVar_ok rfl) (by simp [greatsD, greats]) (by decide)).mono fun y hy => ?_
      obtain ⟨z, hz, rfl⟩ := List.mem_map.mp hy
      exact ⟨z, fun _ => hz, rfl⟩
    · exact (hv_p (F := FN (n + 1 + 3 * k + 1)) (fun f => eUn_ok rfl rfl) ⟨-1, fun h => (by rw [h] at hc; cases hc), rfl⟩).to (FN.le (by omega))
    obtain ⟨z, hz, rfl⟩ := q
    refine hvs_app (F1 := FN (n + 1 + 3 * (k + 1))) (Q := fun y => ∃ a, a ∈ greats ∧ y = .tuple [.int a, .str w, .int z]) rfl (by omega) (((hv_tup (P := fun ys => ∃ a, a ∈ greats ∧ ys = [.int a, .str w, .int z]) (Hv.mono (hv_cons (F1 := FN (n + 1 + 3 * k + 1 + 1 + 1)) (call_any (xs := greatsD) (by show n + 1 + 3 * k + 1 + 1 + 1 ≤ 1000000; omega) rfl (fun f => eVar_ok rfl) (by simp [greatsD, greats]) (by decide)) (hv_p (F := FN (n + 1 + 3 * k + 1 + 1 + 1)) (P := (· = [.str w, .int z])) (fun f => aCons_ok rfl (aCons_ok rfl rfl)) rfl)) fun ys q => ?_) fun ys q => ?_).mono fun y q => ?_).to fun f hf => FN.le (by omega) f hf) fun y q => ?_
    · obtain ⟨y, ys, rfl, hy, rfl⟩ := q
      obtain ⟨a, ha, rfl⟩ := List.mem_map.mp hy
      exact ⟨a, ha, rfl⟩
    · obtain ⟨a, _, rfl⟩ := q
      show 3 ≤ lim; decide
    · obtain ⟨ys, rfl, a, ha, rfl⟩ := q
      exact ⟨a, ha, rfl⟩
    · obtain ⟨a, ha, rfl⟩ := q
      refine ⟨_, _, _, xs ++ [.tuple [.int a, .str w, .int z]], rfl, by rw [List.length_append, hx]; rfl, fun y hy => ?_⟩
      rcases List.mem_append.mp hy with hy | hy
      · exact hm y hy
      · rw [List.mem_singleton.mp hy]
        exact ⟨a, z, w, rfl, ha, hw, hz⟩
  · obtain ⟨s2, s5, s6, xs, rfl, hx, hm⟩ := hj
    exact ⟨_, _, _, xs, rfl, by omega, hm⟩
  · obtain ⟨s2, s5, s6, xs, rfl, hx, hm⟩ := q
    refine fun f hf => .inr ⟨.tuple xs, f, ?_, ⟨xs, rfl, hx, hm⟩, hf⟩
    rfl
/-! ### words put in -/
def strangeS : List Str := (["", "-", "0", "7", "00", "01", "-1", "+1", "1.0", "A", "Go", "stay", "kill", "ends", "e", "go,1", "1_0"] : List Str) ++ (["111111111111111111111111111111111111111111111111111111111111", "1111111111111111111111111111111111111111111111111111111111111", "000000000000000000000000000000000000000000000000000000000000", "go", "aside", "end", "read", "copy", "x y"] : List Str) ++ (["\n", "0 end", "0 go 1", "end\n", "\n1", " ", "1 "] : List Str)
theorem t_strange (ρ : List Sl) : eCall false f__law_strange aNil ρ f = .ok (.list (wordsD strangeS)) f := eCall_ff (f2 := f) rfl (by kernel_rfl)
theorem strange_len {w : Str} (h : w ∈ strangeS) : w.length ≤ 61 := by
  have : strangeS.all (fun w => decide (w.length ≤ 61)) = true := by decide +kernel
  exact of_decide_eq_true (List.all_eq_true.mp this w h)
end Mir

set_option Elab.async false
set_option linter.all false
set_option maxRecDepth 100000
set_option maxHeartbeats 4000000
namespace Mir
open PySem PySem.Spec PyProof.Rows L2 TL
variable {f : FS}
/-! ### a page bent -/
section
variable {ρ : List Sl} {F F1 F2 E : FS → Prop} {N : List Sl → Prop} {P : D → Prop}
theorem hvs_parSplit {i j : Nat} {m1 mo : ME} {c s : Str} {Q : D → Prop} (h : Hv F F1 m1 ρ Q) (hs : ∀ f, mo ρ f = .ok (.str s) f) (hk : (c.length == 0) = false ∧ s.length + 2 ≤ lim) (k : ∀ d, Q d → N ((ρ.set i (.d d)).set j (.l (wordsD (Txt.split s c))))) : HvS F F1 E (sParSplit i j m1 mo c) ρ N P := fun f hf => by
  obtain ⟨d, f1, e1, q, hf1⟩ := h f hf
  refine .inl ⟨_, f1, ?_, k d q, hf1⟩
  unfold sParSplit
  rw [e1]
  show sBind (mo ρ f1) _ = _
  rw [hs f1]
  show (if (c.length == 0) = false ∧ s.length + 2 ≤ lim then _ else _) = _
  rw [if_pos hk]
  rfl
theorem hv_bor {i : Nat} {m : ME} {P : D → Prop} (h : Hv F F1 m (frz i ρ) P) (hs : ∀ d, P d → scal d = true) : Hv F F1 (eBor i m) ρ P := fun f hf => by
  obtain ⟨d, f1, e1, q, hf1⟩ := h f hf
  refine ⟨d, f1, ?_, q, hf1⟩
  unfold eBor
  rw [e1]
  exact if_pos (hs d q)
theorem hvs_setD {i : Nat} {m : ME} {d : D} {rest : MS} (h : ∀ f, m ρ f = .ok d f) (hr : HvS F F1 E rest (ρ.set i (.d d)) N P) : HvS F F1 E (sSeq (sSet i m) rest) ρ N P := hvs_seq (F1 := F) (M := fun ρ' => ρ' = ρ.set i (.d d)) (hvs_set (hv_p (P := (· = d)) h rfl) fun x e => e ▸ rfl) fun ρ' q => by
  rw [q]
  exact hr
theorem hvs_ifU {t : MB} {a : MS} {c : Bool} (ht : ∀ f, t ρ f = .ok c f) (hF : ∀ f, F f → F1 f) (ha : c = true → HvS F F1 E a ρ N P) (hb : c = false → N ρ) : HvS F F1 E (sIf t a sSkip) ρ N P := fun f hf => by
  cases c with
  | true => rw [sIf_t (ht f)]; exact ha rfl f hf
  | false => rw [sIf_f (ht f)]; exact .inl ⟨ρ, f, rfl, hb rfl, hF f hf⟩
end
theorem wsum_take (ws : List Str) (k : Nat) : wsum (ws.take k) + wsum (ws.drop k) = wsum ws := by
  have h1 := wsum_app (ws.take k) (ws.drop k)
  rw [List.take_append_drop] at h1
  omega
theorem wsum_cons (w : Str) (ws : List Str) : wsum (w :: ws) = w.length + 1 + wsum ws := by
  unfold wsum
  rw [List.map_cons, List.sum_cons]
theorem wsum_set : ∀ (ws : List Str) (k : Nat) (J : Str), k < ws.length → wsum (ws.set k J) + ((ws.getD k "").length + 1) = wsum ws + (J.length + 1)
  | w :: ws, 0, J, _ => by
    show wsum (J :: ws) + (w.length + 1) = _
    rw [wsum_cons, wsum_cons]
    omega
  | w :: ws, k + 1, J, h => by
    have ih := wsum_set ws k J (by simpa using h)
    show wsum (w :: ws.set k J) + ((ws.getD k "").length + 1) = _
    rw [wsum_cons, wsum_cons]
    omega
theorem wsum_sub (ws : List Str) (a b : Nat) : wsum ((ws.drop a).take b) ≤ wsum ws := by
  have h1 := wsum_take ws a
  have h2 := wsum_take (ws.drop a) b
  omega
theorem sub_len (ws : List Str) (a b : Nat) : ((ws.drop a).take b).length ≤ ws.length := by
  rw [List.length_take, List.length_drop]
  omega
/-- any cut of words -/
theorem sl_any {m : ME} {lo hi : ME} {ρ : List Sl} {ws : List Str} {a b : Int} (h : m ρ f = .ok (.list (wordsD ws)) f) (h1 : lo ρ f = .ok (.int a) f) (h2 : hi ρ f = .ok (.int b) f) : ∃ i j, eSl m (oAt lo) (oAt hi) ρ f = .ok (.list (wordsD ((ws.drop i).take j))) f := by
  refine ⟨HT.sIx (wordsD ws).length 0 (some a), HT.sIx (wordsD ws).length (wordsD ws).length (some b) - HT.sIx (wordsD ws).length 0 (some a), ?_⟩
  unfold eSl oAt
  rw [h]
  dsimp only [R.bind_ok]
  rw [h1]
  dsimp only [R.bind_ok]
  rw [h2]
  show ofO (some (PyData.list (cutD (wordsD ws) (some a) (some b)))) f = _
  unfold cutD wordsD
  rw [List.map_take, List.map_drop]
  rfl
theorem cutS_len (z : Str) (lo hi : Option Int) : (cutS z lo hi).length ≤ z.length := by
  show (cutS z lo hi).cps.size ≤ z.length
  unfold cutS
  rw [List.size_toArray, List.length_take, List.length_drop, Array.length_toList]
  show _ ≤ z.cps.size
  omega
theorem sIx_nat_le {n k : Nat} : HT.sIx n 0 (some ((k : Nat) : Int)) = min k n := HT.sIx_nat _ _ k
/-- a text cut in two, what lies between is left out -/
theorem cutS_two (z : Str) (j k : Nat) (h : j ≤ k) : (cutS z none (some (j : Nat))).length + (cutS z (some (k : Nat)) none).length ≤ z.length := by
  have e1 : (cutS z none (some (j : Nat))).length = min j z.length := by
    show (cutS z none (some ((j : Nat) : Int))).cps.size = _
    have s0 : HT.sIx z.length 0 none = 0 := rfl
    have s1 : HT.sIx z.length z.length (some ((j : Nat) : Int)) = min j z.length := HT.sIx_nat _ _ j
    have s2 : z.cps.toList.length = z.length := Array.length_toList
    unfold cutS
    rw [List.size_toArray, List.length_take, List.length_drop, s0, s1, s2]
    omega
  have e2 : (cutS z (some (k : Nat)) none).length = z.length - k := by
    show (cutS z (some ((k : Nat) : Int)) none).cps.size = _
    have s0 : HT.sIx z.length 0 (some ((k : Nat) : Int)) = min k z.length := HT.sIx_nat _ _ k
    have s1 : HT.sIx z.length z.length none = z.length := rfl
    have s2 : z.cps.toList.length = z.length := Array.length_toList
    unfold cutS
    rw [List.size_toArray, List.length_take, List.length_drop, s0, s1, s2]
    omega
  omega
def insS : List Str := ["", " ", "\n", "-", "0", "1", "e", "g"]
theorem put_len {w : Str} (h : w ∈ insS) : w.length ≤ 1 := by
  have : insS.all (fun w => decide (w.length ≤ 1)) = true := by decide +kernel
  exact of_decide_eq_true (List.all_eq_true.mp this w h)
theorem add_s3 {a b : Str} (h : a.length + b.length ≤ lim) : gAdd [.str a, .str b] = some (.str (a ++ b)) := add_s h
theorem hvF_bent {n : Nat} (hn : n + 100 ≤ cap) {z : Str} (hz : z.length ≤ 3000) : HvF (FN n) (FN (n + 8)) f__law_bent [.str z] (PgD (2 * z.length + 70)) := by
  have hn : n + 100 ≤ 1000000 := hn
  have hlim := lim_eq
  have b1 : (" " : Str).length = 1 := by decide +kernel
  have bn : ("\n" : Str).length = 1 := by decide +kernel
  refine hvF_of (F1 := FN (n + 8)) rfl ?_
  show HvS _ _ _ _ [.fd, .d (.str z), .no, .no, .no, .no, .no, .no] _ _
  refine hvs_seq (F1 := FN (n + 1)) (M := fun ρ' => ∃ w : Nat, w < 7 ∧ ρ' = [.fd, .d (.str z), .no, .no, .no, .no, .d (.int (w : Nat)), .l (wordsD (Txt.split z "\n"))]) (hvs_parSplit (s := z) (call_draw (n := n) (by show n + 1 ≤ 1000000; omega) rfl (fun f => rfl) (by decide) (by decide)) (fun f => rfl) ⟨by rfl, by omega⟩ fun d q => ?_) fun ρ' h => ?_
  · obtain ⟨r, rfl, a, b⟩ := q
    refine ⟨r.toNat, by omega, ?_⟩
    rw [Int.toNat_of_nonneg a]
    rfl
  obtain ⟨w, hw, rfl⟩ := h
  have es := split_sum (x := z) newl
  have en := split_ne z "\n"
  generalize Txt.split z "\n" = ls at es en
  have ll := wsum_len ls
  have l0 := len1 en
  refine hvs_seq (F1 := FN (n + 2)) (M := fun ρ' => ∃ a : Nat, a < ls.length ∧ ρ' = [.fd, .d (.str z), .d (.int (a : Nat)), .no, .no, .no, .d (.int (w : Nat)), .l (wordsD ls)]) (hvs_set (hv_bor (P := IntIn ((ls.length : Nat) : Int)) (call_draw (n := n + 1) (by show n + 1 + 1 ≤ 1000000; omega) rfl (fun f => eList_ok (aCons_ok rfl rfl) (words_len ls)) (by omega) (by omega)) fun d q => ?_) fun d q => ?_) fun ρ' h => ?_
  · obtain ⟨r, rfl, _⟩ := q
    rfl
  · obtain ⟨r, rfl, a, b⟩ := q
    refine ⟨r.toNat, by omega, ?_⟩
    rw [Int.toNat_of_nonneg a]
    rfl
  obtain ⟨a, ha, rfl⟩ := h
  have hLm := wsum_mem (gd_mem ha)
  have own : ∀ f, eOwnIx 7 (eVar 2) [.fd, .d (.str z), .d (.int (a : Nat)), .no, .no, .no, .d (.int (w : Nat)), .l (wordsD ls)] f = .ok (.str (ls.getD a "")) f := fun f => by
    show ofO (atI (wordsD ls) (a : Nat)) f = _
    have : atI (wordsD ls) ((a : Nat) : Int) = some (.str (ls.getD a "")) := nth_w ha
    rw [this]
    rfl
  refine hvs_setD (d := .list (wordsD (Txt.split (ls.getD a "") " "))) (fun f => eMt_sp (own f) (by omega) rfl) ?_
  have et := split_sum (x := ls.getD a "") blank
  have wset := wsum_set ls a
  generalize ls.getD a "" = L at et hLm wset
  generalize Txt.split L " " = ws at et
  have wl := wsum_len ws
  show HvS _ _ _ _ [.fd, .d (.str z), .d (.int (a : Nat)), .d (.list (wordsD ws)), .no, .no, .d (.int (w : Nat)), .l (wordsD ls)] _ _
  refine hvs_seq (F1 := FN (n + 3)) (M := fun ρ' => ∃ k : Nat, k ≤ ws.length ∧ ρ' = [.fd, .d (.str z), .d (.int (a : Nat)), .d (.list (wordsD ws)), .d (.int (k : Nat)), .no, .d (.int (w : Nat)), .l (wordsD ls)]) (hvs_set (call_draw (n := n + 2) (by show n + 2 + 1 ≤ 1000000; omega) rfl (fun f => eBin_ok (eList_ok (aCons_ok rfl rfl) (words_len ws)) rfl rfl) (by omega) (by omega)) fun d q => ?_) fun ρ' h => ?_
  · obtain ⟨r, rfl, a, b⟩ := q
    refine ⟨r.toNat, by omega, ?_⟩
    rw [Int.toNat_of_nonneg a]
    rfl
  obtain ⟨k, hk, rfl⟩ := h
  have eqW : ∀ (vs : List Str) (j : Nat) f, tB (eBin gEq (eVar 6) (eC (.int (j : Nat)))) [.fd, .d (.str z), .d (.int (a : Nat)), .d (.list (wordsD vs)), .d (.int (k : Nat)), .no, .d (.int (w : Nat)), .l (wordsD ls)] f = .ok (decide (w = j)) f := fun vs j f => (tB_ok (eBin_ok rfl rfl (gEq_int _ _))).trans (by rw [show decide (((w : Nat) : Int) = ((j : Nat) : Int)) = decide (w = j) from by by_cases q : w = j <;> simp [q] <;> omega])
  have tk : ∀ j, (ws.take j).length ≤ ws.length := fun j => by rw [List.length_take]; omega
  have dk : ∀ j, (ws.drop j).length ≤ ws.length := fun j => by rw [List.length_drop]; omega
  have T := wsum_take ws k
  -- 0
  refine hvs_seq (F1 := FN (n + 3)) (M := fun ρ' => ∃ vs, wsum vs ≤ 2 * wsum ws + 62 ∧ (0 < w → vs = ws) ∧ ρ' = [.fd, .d (.str z), .d (.int (a : Nat)), .d (.list (wordsD vs)), .d (.int (k : Nat)), .no, .d (.int (w : Nat)), .l (wordsD ls)]) (hvs_ifU (c := decide (w = 0)) (fun f => eqW ws 0 f) (fun f h => h) (fun hc => hvs_set (hv_p (P := (· = .list (wordsD (ws.take k ++ ws.drop (k + 1))))) (fun f => eBin_ok (sl_to (ws := ws) (k := k) rfl rfl) (sl_from (ws := ws) (k := k + 1) rfl (eBin_ok rfl rfl (add_k k 1))) (add_w (by have := tk k; have := dk (k + 1); omega))) rfl) fun d e => ⟨ws.take k ++ ws.drop (k + 1), ?_, fun h => ?_, by rw [e]; rfl⟩) fun _ => ⟨ws, by omega, fun _ => rfl, rfl⟩) fun ρ' h => ?_
  · rw [wsum_app]
    have := wsum_drop ws k
    omega
  · have := of_decide_eq_true hc; omega
  obtain ⟨v0, p0, q0, rfl⟩ := h
  -- 1
  refine hvs_seq (F1 := FN (n + 4)) (M := fun ρ' => ∃ vs, wsum vs ≤ 2 * wsum ws + 62 ∧ (1 < w → vs = ws) ∧ ρ' = [.fd, .d (.str z), .d (.int (a : Nat)), .d (.list (wordsD vs)), .d (.int (k : Nat)), .no, .d (.int (w : Nat)), .l (wordsD ls)]) (hvs_ifU (c := decide (w = 1)) (fun f => eqW v0 1 f) (FN.le (by omega)) (fun hc => ?_) fun _ => ⟨v0, p0, fun h => q0 (by omega), rfl⟩) fun ρ' h => ?_
  · have hc := of_decide_eq_true hc
    obtain rfl := q0 (by omega)
    refine hvs_set (Q := fun d => ∃ u : Str, u ∈ strangeS ∧ d = .list (wordsD ((v0.take k ++ [u]) ++ v0.drop k))) (hv_bin (F1 := FN (n + 4)) (P := fun d => ∃ u : Str, u ∈ strangeS ∧ d = .list (wordsD (v0.take k ++ [u]))) (Q := (· = .list (wordsD (v0.drop k)))) (hv_bin (F1 := FN (n + 3)) (P := (· = .list (wordsD (v0.take k)))) (Q := fun d => ∃ u : Str, u ∈ strangeS ∧ d = .list (wordsD [u])) (hv_p (fun f => sl_to (ws := v0) (k := k) rfl rfl) rfl) ((hv_lst (hv_one (call_any (n := n + 3) (xs := wordsD strangeS) (by show n + 3 + 1 ≤ 1000000; omega) rfl (fun f => t_strange _) (by simp [wordsD, strangeS]) (by decide +kernel))) fun xs q => ?_).mono fun d q => ?_) fun x y hx hy => ?_) (hv_p (fun f => sl_from (ws := v0) (k := k) rfl rfl) rfl) fun x y hx hy => ?_) fun d q => ?_
    · obtain ⟨_, rfl, _⟩ := q
      show 1 ≤ lim
      decide
    · obtain ⟨_, rfl, _, rfl, hu⟩ := q
      obtain ⟨u, hu', rfl⟩ := List.mem_map.mp hu
      exact ⟨u, hu', rfl⟩
    · subst hx
      obtain ⟨u, hu, rfl⟩ := hy
      exact ⟨_, add_w (by have := tk k; show _ + 1 ≤ lim; omega), u, hu, rfl⟩
    · subst hy
      obtain ⟨u, hu, rfl⟩ := hx
      exact ⟨_, add_w (by have := tk k; have := dk k; rw [List.length_append]; show _ + 1 + _ ≤ lim; omega), u, hu, rfl⟩
    · obtain ⟨u, hu, rfl⟩ := q
      refine ⟨_, ?_, fun h => by omega, rfl⟩
      have := strange_len hu
      rw [wsum_app, wsum_app, wsum_cons]
      show _ + (u.length + 1 + 0) + _ ≤ _
      omega
  obtain ⟨v1, p1, q1, rfl⟩ := h
  -- 2, 3
  refine hvs_seq (F1 := FN (n + 5)) (M := fun ρ' => ∃ vs, wsum vs ≤ 2 * wsum ws + 62 ∧ (3 < w → vs = ws) ∧ ρ' = [.fd, .d (.str z), .d (.int (a : Nat)), .d (.list (wordsD vs)), .d (.int (k : Nat)), .no, .d (.int (w : Nat)), .l (wordsD ls)]) (hvs_ifU (c := decide (w = 2) || decide (w = 3)) (fun f => bOr_ok (eqW v1 2 f) fun _ => eqW v1 3 f) (FN.le (by omega)) (fun hc => ?_) fun hc => ⟨v1, p1, fun h => q1 (by omega), rfl⟩) fun ρ' h => ?_
  · rw [Bool.or_eq_true, decide_eq_true_eq, decide_eq_true_eq] at hc
    obtain rfl := q1 (by omega)
    refine hvs_set (Q := fun d => ∃ u : Str, u ∈ strangeS ∧ d = .list (wordsD ((v1.take k ++ [u]) ++ v1.drop (k + 1)))) (hv_bin (F1 := FN (n + 5)) (P := fun d => ∃ u : Str, u ∈ strangeS ∧ d = .list (wordsD (v1.take k ++ [u]))) (Q := (· = .list (wordsD (v1.drop (k + 1))))) (hv_bin (F1 := FN (n + 4)) (P := (· = .list (wordsD (v1.take k)))) (Q := fun d => ∃ u : Str, u ∈ strangeS ∧ d = .list (wordsD [u])) (hv_p (fun f => sl_to (ws := v1) (k := k) rfl rfl) rfl) ((hv_lst (hv_one (call_any (n := n + 4) (xs := wordsD strangeS) (by show n + 4 + 1 ≤ 1000000; omega) rfl (fun f => t_strange _) (by simp [wordsD, strangeS]) (by decide +kernel))) fun xs q => ?_).mono fun d q => ?_) fun x y hx hy => ?_) (hv_p (fun f => sl_from (ws := v1) (k := k + 1) rfl (eBin_ok rfl rfl (add_k k 1))) rfl) fun x y hx hy => ?_) fun d q => ?_
    · obtain ⟨_, rfl, _⟩ := q
      show 1 ≤ lim
      decide
    · obtain ⟨_, rfl, _, rfl, hu⟩ := q
      obtain ⟨u, hu', rfl⟩ := List.mem_map.mp hu
      exact ⟨u, hu', rfl⟩
    · subst hx
      obtain ⟨u, hu, rfl⟩ := hy
      exact ⟨_, add_w (by have := tk k; show _ + 1 ≤ lim; omega), u, hu, rfl⟩
    · subst hy
      obtain ⟨u, hu, rfl⟩ := hx
      exact ⟨_, add_w (by have := tk k; have := dk (k + 1); rw [List.length_append]; show _ + 1 + _ ≤ lim; omega), u, hu, rfl⟩
    · obtain ⟨u, hu, rfl⟩ := q
      refine ⟨_, ?_, fun h => by omega, rfl⟩
      have := strange_len hu
      have := wsum_drop v1 k
      rw [wsum_app, wsum_app, wsum_cons]
      show _ + (u.length + 1 + 0) + _ ≤ _
      omega
  obtain ⟨v2, p2, q2, rfl⟩ := h
  -- 4
  refine hvs_seq (F1 := FN (n + 5)) (M := fun ρ' => ∃ vs, wsum vs ≤ 2 * wsum ws + 62 ∧ ρ' = [.fd, .d (.str z), .d (.int (a : Nat)), .d (.list (wordsD vs)), .d (.int (k : Nat)), .no, .d (.int (w : Nat)), .l (wordsD ls)]) (hvs_ifU (c := decide (w = 4)) (fun f => eqW v2 4 f) (fun f h => h) (fun hc => ?_) fun _ => ⟨v2, p2, rfl⟩) fun ρ' h => ?_
  · have hc := of_decide_eq_true hc
    obtain rfl := q2 (by omega)
    have mid : ∃ i j, ∀ f, eSl (eVar 3) (oAt (eBin gSub (eVar 4) (eC (.int 1)))) (oAt (eVar 4)) [.fd, .d (.str z), .d (.int (a : Nat)), .d (.list (wordsD v2)), .d (.int (k : Nat)), .no, .d (.int (w : Nat)), .l (wordsD ls)] f = .ok (.list (wordsD ((v2.drop i).take j))) f := by
      refine ⟨HT.sIx (wordsD v2).length 0 (some (((k : Nat) : Int) - 1)), HT.sIx (wordsD v2).length (wordsD v2).length (some ((k : Nat) : Int)) - HT.sIx (wordsD v2).length 0 (some (((k : Nat) : Int) - 1)), fun f => ?_⟩
      show ofO (some (PyData.list (cutD (wordsD v2) (some (((k : Nat) : Int) - 1)) (some ((k : Nat) : Int))))) f = _
      unfold cutD wordsD
      rw [List.map_take, List.map_drop]
      rfl
    obtain ⟨i, j, mid⟩ := mid
    have sl := sub_len v2 i j
    have sw := wsum_sub v2 i j
    have lk := tk k
    have ld := dk k
    refine hvs_set (hv_p (P := (· = .list (wordsD ((v2.take k ++ (v2.drop i).take j) ++ v2.drop k)))) (fun f => eBin_ok (eBin_ok (sl_to (ws := v2) (k := k) rfl rfl) (mid f) (add_w (by omega))) (sl_from (ws := v2) (k := k) rfl rfl) (add_w (by rw [List.length_append]; omega))) rfl) fun d e => ⟨(v2.take k ++ (v2.drop i).take j) ++ v2.drop k, ?_, by rw [e]; rfl⟩
    rw [wsum_app, wsum_app]
    omega
  obtain ⟨vs, pv, rfl⟩ := h
  -- the line is put back
  have jl := join_le " " vs
  rw [b1, wsum_text] at jl
  have J : ∀ f, sSetIx 7 (eVar 2) (eMt "str" gJoin (eC (.str " ")) (aCons (eVar 3) (aNil))) [.fd, .d (.str z), .d (.int (a : Nat)), .d (.list (wordsD vs)), .d (.int (k : Nat)), .no, .d (.int (w : Nat)), .l (wordsD ls)] f = .nx [.fd, .d (.str z), .d (.int (a : Nat)), .d (.list (wordsD vs)), .d (.int (k : Nat)), .no, .d (.int (w : Nat)), .l (wordsD (ls.set a (Txt.join " " vs)))] f := fun f => by
    have ix : ixN (wordsD ls).length ((a : Nat) : Int) = some a := by
      unfold ixN wordsD
      rw [List.length_map, if_pos (by omega), if_pos (by omega), Int.toNat_natCast]
    have ej : eMt "str" gJoin (eC (.str " ")) (aCons (eVar 3) (aNil)) [.fd, .d (.str z), .d (.int (a : Nat)), .d (.list (wordsD vs)), .d (.int (k : Nat)), .no, .d (.int (w : Nat)), .l (wordsD ls)] f = .ok (.str (Txt.join " " vs)) f := eMt_join (zs := vs) rfl (by rw [b1, wsum_text]; omega)
    show sBind (eMt "str" gJoin (eC (.str " ")) (aCons (eVar 3) (aNil)) _ f) _ = _
    rw [ej]
    show (match ixN (wordsD ls).length ((a : Nat) : Int) with | some j => SR.nx _ f | none => SR.bad) = _
    rw [ix]
    unfold wordsD
    rw [List.map_set]
    rfl
  refine hvs_seq (F1 := FN (n + 5)) (M := fun ρ' => ρ' = [.fd, .d (.str z), .d (.int (a : Nat)), .d (.list (wordsD vs)), .d (.int (k : Nat)), .no, .d (.int (w : Nat)), .l (wordsD (ls.set a (Txt.join " " vs)))]) (hvs_p J rfl) fun ρ' h => ?_
  subst h
  have lw := wset (Txt.join " " vs) ha
  have lsl : (ls.set a (Txt.join " " vs)).length = ls.length := List.length_set
  generalize ls.set a (Txt.join " " vs) = l2 at lw lsl
  have j2 := join_le "\n" l2
  rw [bn, wsum_text] at j2
  have late : ∀ f, sFrz 7 (sSet 5 (eMt "str" gJoin (eC (.str "\n")) (aCons (eVar 7) (aNil)))) [.fd, .d (.str z), .d (.int (a : Nat)), .d (.list (wordsD vs)), .d (.int (k : Nat)), .no, .d (.int (w : Nat)), .l (wordsD l2)] f = .nx [.fd, .d (.str z), .d (.int (a : Nat)), .d (.list (wordsD vs)), .d (.int (k : Nat)), .d (.str (Txt.join "\n" l2)), .d (.int (w : Nat)), .d (.list (wordsD l2))] f := fun f => sSet_ok (eMt_join (zs := l2) rfl (by rw [bn, wsum_text]; omega))
  refine hvs_seq (F1 := FN (n + 5)) (M := fun ρ' => ρ' = [.fd, .d (.str z), .d (.int (a : Nat)), .d (.list (wordsD vs)), .d (.int (k : Nat)), .d (.str (Txt.join "\n" l2)), .d (.int (w : Nat)), .d (.list (wordsD l2))]) (hvs_p late rfl) fun ρ' h => ?_
  subst h
  have hl : (Txt.join "\n" l2).length ≤ 2 * z.length + 68 := by omega
  generalize Txt.join "\n" l2 = y at hl
  refine hvs_seq (F1 := FN (n + 8)) (M := fun ρ' => ∃ u : Str, ∃ s4, u.length ≤ 2 * z.length + 70 ∧ ρ' = [.fd, .d (.str z), .d (.int (a : Nat)), .d (.list (wordsD vs)), s4, .d (.str u), .d (.int (w : Nat)), .d (.list (wordsD l2))]) (hvs_ifU (c := decide ((4 : Int) < ((w : Nat) : Int))) (fun f => tB_ok (eBin_ok rfl rfl (gGt_int _ _))) (FN.le (by omega)) (fun hc => ?_) fun _ => ⟨y, _, by omega, rfl⟩) fun ρ' h => ?_
  · have hc := of_decide_eq_true hc
    refine hvs_seq (F1 := FN (n + 6)) (M := fun ρ' => ∃ k : Nat, k ≤ y.length ∧ ρ' = [.fd, .d (.str z), .d (.int (a : Nat)), .d (.list (wordsD vs)), .d (.int (k : Nat)), .d (.str y), .d (.int (w : Nat)), .d (.list (wordsD l2))]) (hvs_set (call_draw (n := n + 5) (by show n + 5 + 1 ≤ 1000000; omega) rfl (fun f => eBin_ok (eList_ok (aCons_ok rfl rfl) (gLen_str (by omega))) rfl rfl) (by omega) (by omega)) fun d q => ?_) fun ρ' h => ?_
    · obtain ⟨r, rfl, a, b⟩ := q
      refine ⟨r.toNat, by omega, ?_⟩
      rw [Int.toNat_of_nonneg a]
      rfl
    obtain ⟨k, hk, rfl⟩ := h
    have cs := cutS_two y k (k + (w - 5)) (by omega)
    have c1 := cutS_len y none (some ((k : Nat) : Int))
    have sa : ∀ f, eSl (eVar 5) (oNo) (oAt (eVar 4)) [.fd, .d (.str z), .d (.int (a : Nat)), .d (.list (wordsD vs)), .d (.int (k : Nat)), .d (.str y), .d (.int (w : Nat)), .d (.list (wordsD l2))] f = .ok (.str (cutS y none (some ((k : Nat) : Int)))) f := fun f => by
      show ofO (if y.length ≤ lim then _ else none) f = _
      rw [if_pos (by omega)]
      rfl
    have sb : ∀ f, eSl (eVar 5) (oAt (eBin gSub (eBin gAdd (eVar 4) (eVar 6)) (eC (.int 5)))) (oNo) [.fd, .d (.str z), .d (.int (a : Nat)), .d (.list (wordsD vs)), .d (.int (k : Nat)), .d (.str y), .d (.int (w : Nat)), .d (.list (wordsD l2))] f = .ok (.str (cutS y (some ((k + (w - 5) : Nat) : Int)) none)) f := fun f => by
      have e : ((k : Nat) : Int) + ((w : Nat) : Int) - 5 = ((k + (w - 5) : Nat) : Int) := by omega
      rw [← e]
      show ofO (if y.length ≤ lim then _ else none) f = _
      rw [if_pos (by omega)]
      rfl
    generalize cutS y none (some ((k : Nat) : Int)) = y1 at cs c1 sa
    generalize cutS y (some ((k + (w - 5) : Nat) : Int)) none = y2 at cs sb
    refine hvs_set (Q := fun d => ∃ u : Str, u.length ≤ 1 ∧ d = .str ((y1 ++ u) ++ y2)) ((hv_bin (F1 := FN (n + 7)) (P := fun d => ∃ u : Str, u.length ≤ 1 ∧ d = .str (y1 ++ u)) (Q := (· = .str y2)) (hv_bin (F1 := FN (n + 6)) (P := (· = .str y1)) (Q := fun d => ∃ u : Str, u.length ≤ 1 ∧ d = .str u) (hv_p sa rfl) ((call_any (n := n + 6) (xs := wordsD insS) (by show n + 6 + 1 ≤ 1000000; omega) rfl (fun f => by kernel_rfl) (by simp [wordsD, insS]) (by decide)).mono fun d hd => ?_) fun x y hx hy => ?_) (hv_p sb rfl) fun x y hx hy => ?_).to (FN.le (by omega))) fun d q => ?_
    · obtain ⟨u, hu, rfl⟩ := List.mem_map.mp hd
      exact ⟨u, put_len hu, rfl⟩
    · subst hx
      obtain ⟨u, hu, rfl⟩ := hy
      exact ⟨_, add_s3 (by omega), u, hu, rfl⟩
    · subst hy
      obtain ⟨u, hu, rfl⟩ := hx
      exact ⟨_, add_s3 (by rw [strLen_append]; omega), u, hu, rfl⟩
    · obtain ⟨u, hu, rfl⟩ := q
      exact ⟨_, _, by rw [strLen_append, strLen_append]; omega, rfl⟩
  obtain ⟨u, s4, hu, rfl⟩ := h
  exact hvs_ret ((hv_var rfl).mono fun d e => ⟨u, e, hu⟩)
end Mir

set_option Elab.async false
set_option linter.all false
set_option maxRecDepth 100000
set_option maxHeartbeats 4000000
namespace Mir
open PySem PySem.Spec PyProof.Rows L2 TL
variable {f : FS}
abbrev St6 (s2 s3 s4 s5 s6 : Sl) : List Sl := [.no, .fd, s2, s3, s4, s5, s6]
def endS : List Str := ["", "-", "--", "- ", " -", "\n", "-\n", "-\n0 end", "0 end\n-", "0 end\n", "\n0 end", "0 end\n\n1 end", "0 go", "0", "0 ", "0 go ", "0 go 1 2", "0 end 1", "0  end", "00 end", "0 go 00", "end", "0 stay", "0 go 1\n1 go\n2"]
theorem end_len {w : Str} (h : w ∈ endS) : w.length ≤ 100 := by
  have : endS.all (fun w => decide (w.length ≤ 100)) = true := by decide +kernel
  exact of_decide_eq_true (List.all_eq_true.mp this w h)
theorem right_ok {m : ME} {ρ : List Sl} {z : Str} {f1 : FS} (h : m ρ f = .ok (.str z) f1) (hz : z.length ≤ 5000) : bNot (tT (eCall false f__law_is_right (aCons m aNil))) ρ f = .ok false f1 :=
  bNot_ok (b := true) (tT_ok (eCall_ff (ds := [.str z]) (aCons_ok h rfl) (t_is_right hz)) rfl)
theorem bAnd_t2 {a b : MB} {ρ : List Sl} {f1 f2 : FS} {y : Bool} (h : a ρ f = .ok true f1) (h2 : b ρ f1 = .ok y f2) : bAnd a b ρ f = .ok y f2 := by
  unfold bAnd
  rw [h]
  exact h2
def Plain (s : Sl) : Prop := s = .no ∨ ∃ d, s = .d d
theorem right_fd {n : Nat} (hn : n + 100 ≤ cap) {m : ME} {ρ : List Sl} {i : Nat} (hi : ρ[i]? = some .fd) {z : Str} (h : ∀ f, m ρ f = .ok (.str z) f) (hz : z.length ≤ 2400) (hf : FN n f) : ∃ f1, bNot (tT (eCall false f__law_is_right (aCons (eCall true f__law_bent (aFd i (aCons m aNil))) aNil))) ρ f = .ok false f1 ∧ FN (n + 8) f1 := by
  obtain ⟨d, f1, e1, ⟨y, rfl, hy⟩, hf1⟩ := hvF_bent hn (z := z) (by omega) f hf
  exact ⟨f1, right_ok (eCall_fd (by rw [aFd_ok hi]; exact aCons_ok (h f) rfl) e1) (by omega), hf1⟩
theorem law_true (ns : List Int) (h : ns.length ≤ 63) : ∃ f, m_law (entryLaw 7 1) ⟨ns.take 61, 0, 0, 0⟩ = .ret (.bool true) f := by
  have hlim := lim_eq
  have run : HvS (FN 0) (FN 600) (FN 600) m_law (St6 .no .no .no .no .no) (fun _ => False) (· = .bool true) := by
    refine hvs_seq (F1 := FN 600) (M := fun ρ' => ∃ s2 s3 s4 s5 s6, Plain s4 ∧ ρ' = St6 s2 s3 s4 s5 s6) (hvs_for (C := (· = rangeD 0 (3 : Int).toNat)) (J := fun _ k ρ' => ∃ s2 s3 s4 s5 s6, Plain s4 ∧ ρ' = St6 s2 s3 s4 s5 s6) (FF := fun k => FN (169 * k)) ?_ (fun _ _ => ⟨_, _, _, _, _, .inl rfl, rfl⟩) (fun ds hds k d ρ' hk hd hj => ?_) (fun _ _ _ q => q) fun ds hds f hf => ?_) fun ρ' q => ?_
    · exact hv_args (F1 := FN 0) (hv_one hv_c) fun xs q => by
        obtain ⟨_, rfl, rfl⟩ := q
        exact ⟨_, rng1_ok (by decide +kernel), rfl⟩
    · subst hds
      have hk : k < 3 := hk
      obtain ⟨s2, s3, s4, s5, s6, _, rfl⟩ := hj
      refine ⟨St6 (.d d) s3 s4 s5 s6, rfl, ?_⟩
      refine hvs_seq (F1 := FN (169 * k + 25)) (M := fun ρ' => ∃ z : Str, z.length ≤ 1060 ∧ ρ' = St6 (.d d) s3 (.d (.str z)) s5 s6) ?_ fun ρ' q => ?_
      · intro f hf
        obtain ⟨t, f1, e1, ht, hf1⟩ := hvF_loose (n := 169 * k) (by show 169 * k + 100 ≤ 1000000; omega) f hf
        obtain ⟨z, ez, hz⟩ := t_text_of (f := f1) ht
        refine .inl ⟨_, f1, sSet_ok (eCall_ff (aCons_ok (eCall_fd (aCons_ok rfl rfl) e1) rfl) ez), ⟨z, hz, rfl⟩, hf1⟩
      obtain ⟨z, hz, rfl⟩ := q
      refine hvs_seq (F1 := FN (169 * k + 25)) (M := fun ρ' => ρ' = St6 (.d d) s3 (.d (.str z)) s5 s6) (hvs_p (fun g => sIf_f (right_ok rfl (by omega))) rfl) fun ρ' q => ?_
      subst q
      refine hvs_for (C := (· = rangeD 0 (9 : Int).toNat)) (J := fun _ j ρ' => ∃ s5 s6, ρ' = St6 (.d d) s3 (.d (.str z)) s5 s6) (FF := fun j => FN (169 * k + 25 + 16 * j)) ?_ (fun _ _ => ⟨_, _, rfl⟩) (fun ds hds j e ρ' hj he hJ => ?_) (fun _ _ ρ' q => ?_) fun ds hds f hf => ?_
      · exact hv_args (F1 := FN (169 * k + 25)) (hv_one hv_c) fun xs q => by
          obtain ⟨_, rfl, rfl⟩ := q
          exact ⟨_, rng1_ok (by decide +kernel), rfl⟩
      · subst hds
        have hj : j < 9 := hj
        obtain ⟨s5, s6, rfl⟩ := hJ
        have he : e = .int (j : Nat) := by
          unfold rangeD at he
          rw [List.getElem?_map, show Int.toNat 9 = 9 from rfl, List.getElem?_range hj] at he
          exact (Option.some.inj he).symm.trans (by show PyData.int (0 + (j : Nat)) = _; rw [Int.zero_add])
        subst he
        refine ⟨St6 (.d d) s3 (.d (.str z)) (.d (.int (j : Nat))) s6, rfl, ?_⟩
        refine hvs_seq (F1 := FN (169 * k + 25 + 16 * j + 8)) (M := fun ρ' => ∃ y : Str, y.length ≤ 2190 ∧ ρ' = St6 (.d d) s3 (.d (.str z)) (.d (.int (j : Nat))) (.d (.str y))) ?_ fun ρ' q => ?_
        · intro f hf
          obtain ⟨t, f1, e1, ⟨y, rfl, hy⟩, hf1⟩ := hvF_bent (n := 169 * k + 25 + 16 * j) (by show 169 * k + 25 + 16 * j + 100 ≤ 1000000; omega) (z := z) (by omega) f hf
          exact .inl ⟨_, f1, sSet_ok (eCall_fd (aCons_ok rfl rfl) e1), ⟨y, by omega, rfl⟩, hf1⟩
        obtain ⟨y, hy, rfl⟩ := q
        have es := split_sum (x := y) newl
        have en := split_ne y "\n"
        have hm := wsum_mem (gd_mem (len1 en))
        refine hvs_seq (F1 := FN (169 * k + 25 + 16 * j + 8)) (M := fun ρ' => ρ' = St6 (.d d) s3 (.d (.str z)) (.d (.int (j : Nat))) (.d (.str y))) (hvs_p (fun g => sIf_f (bOr_ok (x := false) (y := false) (right_ok rfl (by omega)) fun _ => right_ok (z := (Txt.split y "\n").getD 0 "") (eBin_ok (eMt_sp rfl (by omega) rfl) rfl (nth_w (len1 en))) (by omega))) rfl) fun ρ' q => ?_
        subst q
        intro f hf
        by_cases c : (6 : Int) < ((j : Nat) : Int)
        · obtain ⟨f1, e1, hf1⟩ := right_fd (n := 169 * k + 25 + 16 * j + 8) (by show 169 * k + 25 + 16 * j + 8 + 100 ≤ 1000000; omega) (m := eVar 6) (ρ := St6 (.d d) s3 (.d (.str z)) (.d (.int (j : Nat))) (.d (.str y))) (i := 1) rfl (fun f => rfl) (z := y) (by omega) hf
          exact .inl ⟨_, f1, sIf_f (bAnd_t2 ((tB_ok (eBin_ok rfl rfl (gGt_int _ _))).trans (by rw [decide_eq_true c])) e1), ⟨_, _, rfl⟩, FN.le (by omega) f1 hf1⟩
        · exact .inl ⟨_, f, sIf_f (bAnd_f ((tB_ok (eBin_ok rfl rfl (gGt_int _ _))).trans (by rw [decide_eq_false c]))), ⟨_, _, rfl⟩, FN.le (by omega) f hf⟩
      · obtain ⟨s5, s6, rfl⟩ := q
        exact ⟨_, _, _, _, _, .inr ⟨_, rfl⟩, rfl⟩
      · subst hds
        exact FN.le (by show 169 * k + 25 + 16 * 9 ≤ 169 * (k + 1); omega) f hf
    · subst hds
      exact FN.le (by decide) f hf
    · obtain ⟨s2, s3, s4, s5, s6, h4, rfl⟩ := q
      intro f hf
      refine .inr ⟨.bool true, f, ?_, rfl, hf⟩
      have L1 : ∀ s, eLst (aCons (eC (.str "")) (aCons (eC (.str "-")) (aCons (eC (.str "--")) (aCons (eC (.str "- ")) (aCons (eC (.str " -")) (aCons (eC (.str "\n")) (aCons (eC (.str "-\n")) (aCons (eC (.str "-\n0 end")) (aCons (eC (.str "0 end\n-")) (aCons (eC (.str "0 end\n")) (aCons (eC (.str "\n0 end")) (aNil)))))))))))) (St6 s2 s s4 s5 s6) f = .ok (.list (wordsD (endS.take 11))) f := fun s => by kernel_rfl
      have L2' : eBin gAdd (eVar 3) (eLst (aCons (eC (.str "0 end\n\n1 end")) (aCons (eC (.str "0 go")) (aCons (eC (.str "0")) (aCons (eC (.str "0 ")) (aCons (eC (.str "0 go ")) (aCons (eC (.str "0 go 1 2")) (aCons (eC (.str "0 end 1")) (aCons (eC (.str "0  end")) (aCons (eC (.str "00 end")) (aNil))))))))))) (St6 s2 (.d (.list (wordsD (endS.take 11)))) s4 s5 s6) f = .ok (.list (wordsD (endS.take 20))) f := by kernel_rfl
      have L3 : eBin gAdd (eVar 3) (eLst (aCons (eC (.str "0 go 00")) (aCons (eC (.str "end")) (aCons (eC (.str "0 stay")) (aCons (eC (.str "0 go 1\n1 go\n2")) (aNil)))))) (St6 s2 (.d (.list (wordsD (endS.take 20)))) s4 s5 s6) f = .ok (.list (wordsD endS)) f := by kernel_rfl
      rw [sSeq_nx (sSet_ok (L1 _))]
      show sSeq _ _ (St6 s2 (.d (.list (wordsD (endS.take 11)))) s4 s5 s6) f = _
      rw [sSeq_nx (sSet_ok L2')]
      show sSeq _ _ (St6 s2 (.d (.list (wordsD (endS.take 20)))) s4 s5 s6) f = _
      rw [sSeq_nx (sSet_ok L3)]
      show sRet _ (St6 s2 (.d (.list (wordsD endS))) s4 s5 s6) f = _
      have C : eComp [4] (iSeq (eVar 3)) (gmName 4) (bNot (tT (eCall false f__law_is_right (aCons (eVar 4) (aNil))))) (eVar 4) (St6 s2 (.d (.list (wordsD endS))) s4 s5 s6) f = .ok (.list []) f := by
        have hw : okW (St6 s2 (.d (.list (wordsD endS))) s4 s5 s6) [4] = true := by
          rcases h4 with rfl | ⟨d, rfl⟩ <;> rfl
        refine eComp_ok (f1 := f) (f2 := f) (ds := wordsD endS) (iSeq_ok rfl rfl) (by decide +kernel) hw ((comp_filter (p := fun _ => false) (show 4 < 7 by decide) _ _ fun d hd => ?_).trans (by rw [List.nil_append]; rfl))
        obtain ⟨w, hw, rfl⟩ := List.mem_map.mp hd
        exact right_ok (z := w) rfl (by have := end_len hw; omega)
      exact sRet_ok (eBin_ok C (eLst_ok rfl (Nat.zero_le _)) (gEq_nil []))
  rcases run ⟨ns.take 61, 0, 0, 0⟩ ⟨by show (ns.take 61).length ≤ 63; rw [List.length_take]; omega, by show (0 : Int) ≤ 0; decide, by show (0 : Int) ≤ 0; decide⟩ with ⟨_, _, _, q, _⟩ | ⟨d, f, e, rfl, _⟩
  · exact q.elim
  · exact ⟨f, e⟩
end Mir

set_option Elab.async false
set_option linter.all false
set_option maxRecDepth 100000
set_option maxHeartbeats 0
open PySem PySem.W PySem.Calls PyProof.Rows
theorem PySem.Challenge.cw_keptends_k26_whole_texts_read_holds : PySem.Challenge.rw_keptends_k26_whole_texts_read.Holds := by
  w_on; o_law
  refine HandSHeadRun.head_any (r := OpenLaw.row PySem.Challenge.rw_keptends_k26_whole_texts_read) (q := view (OpenLaw.row PySem.Challenge.rw_keptends_k26_whole_texts_read).prog [49]) (H := Mir.hkM) (ob := Mir.obL) (M := 12000) (loose := Mir.looseL) (d := HandSHeadRun.topDef (OpenLaw.row PySem.Challenge.rw_keptends_k26_whole_texts_read).prog 49) (kwd := []) Mir.obL_eq
    (by kernel_rfl) (fun s => by kernel_rfl) Mir.runL (by kernel_rfl) (by kernel_rfl) (by kernel_rfl) (by rfl) (by first | assumption | decide +kernel) (by decide +kernel) ⟨rfl, rfl, rfl, rfl, rfl, by decide +kernel⟩ ?hw ?hc
  case hw => w_witness2
  case hc =>
    refine Mir.walk_ofTG (l := PySem.Challenge.rw_keptends_k26_whole_texts_read) (n := 63) (k := 10) (x := "_law_script") rfl (by decide) (by kernel_rfl) ⟨rfl, by decide, by decide⟩ fun w mg fa h Y G hmg0 => ?F
    obtain ⟨K, KX, c⟩ := Y
    have hmg : mg ("law" : PySem.Str) = some (.ref fa) := by
      have e : (HandSHeadRun.topDef (OpenLaw.row PySem.Challenge.rw_keptends_k26_whole_texts_read).prog 49).name = ("law" : PySem.Str) := by kernel_rfl
      rw [← e]
      exact hmg0
    have T := Mir.facts_of KX G c
    obtain ⟨f, fd, hf, hm, F⟩ := T.d_law
    cases hmg.symm.trans hm
    refine ⟨K, fd, Mir.tfL.map (fun p => He.cT K p), Mir.spLawS K ((Mir.tabsK K Mir.tfL).zip Mir.qsL) 61 Mir.m_law (Mir.n_law).length 1, KX, ?_, ?_, ?_, fun s u => L2.FunD.bindsA (ps := ["_law_script"]) F (fun _ _ _ _ _ _ us hl => match us, hl with | [_], _ => rfl) s [u] rfl, fun H a ns hl hT hS => ⟨a, ns, rfl, Mir.tabs_nil hT, hS, hl, Mir.law_true ns hl, fun _ => rfl⟩, fun base _ _ TB => ?_⟩
    · intro p hp
      obtain ⟨q, hq, rfl⟩ := List.mem_map.mp hp
      exact c.empty q hq
    · intro p hp
      obtain ⟨q, hq, rfl⟩ := List.mem_map.mp hp
      exact c.out q hq
    · intro p hp
      obtain ⟨q, hq, rfl⟩ := List.mem_map.mp hp
      exact PySem.W.codeHd_of_K KX (c.hd q hq)
    · exact Mir.ok_law T (Mir.tbf_of c TB) hf F