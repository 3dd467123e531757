import PyProof.Rows.All
import Wide.All
import OpenK.AllK
import Wide.FinOn
import HandS.ForMost
import HandS.Gcd
import HandS.IsInst
import KE.KDictKeyed
import KE.KDictSum
import KE.SortData
import HandS.TupAny
import HandS.Wide
import HandS.Deep
import HandS.Style
import KE.DataCmp
import HandS.Text
import PySem.Challenge.RW_waycircuits_k08_fractions
set_option Elab.async false
set_option linter.all false
set_option maxRecDepth 100000
set_option maxHeartbeats 2000000
/-! Defs whose promise is kept where no repr is under way. -/
namespace Wc
open PySem PySem.Spec PyProof.Rows L2
abbrev St := L2.St

/-- a def that keeps its promise where it is entered with no guard about -/
structure FnG (P : Program) (w : World) (K : PySem.W.Frag) (mg : Str → Option Value) (base : Heap) (CX : CXT) (k : Nat) (f : Addr) (fd : FuncData) (ps : List Str) (sp : Sp) : Prop where
  len : ∀ vs H Q E, sp vs H Q E → vs.length = ps.length
  go : ∀ (A : Around) (outer : List Env) (s : Shared) (H : Hp) (args : Args) (us : List Value) (vs : List V) (Q : VK) (E : XK),
    Room k A → A.guards = some [] → Env0 P w K mg base A outer s H → BindsTo s fd args (ps.zip us) → Vals vs us → sp vs H Q E →
    codeAny (model P w) A (.call (.ref f) args) (CR CX outer P w H s Q E) s

theorem FnG.mono {P : Program} {w : World} {K : PySem.W.Frag} {mg : Str → Option Value} {base : Heap} {CX : CXT} {i j : Nat} {f : Addr} {fd : FuncData} {ps : List Str} {sp : Sp}
    (F : FnG P w K mg base CX i f fd ps sp) (h : i ≤ j) : FnG P w K mg base CX j f fd ps sp :=
  ⟨F.len, fun A outer s H args us vs Q E hr hg => F.go A outer s H args us vs Q E (hr.mono h) hg⟩
theorem FnG.imp {P : Program} {w : World} {K : PySem.W.Frag} {mg : Str → Option Value} {base : Heap} {CX : CXT} {i : Nat} {f : Addr} {fd : FuncData} {ps : List Str} {sp sp' : Sp}
    (F : FnG P w K mg base CX i f fd ps sp) (h : ∀ vs H Q E, sp' vs H Q E → sp vs H Q E) : FnG P w K mg base CX i f fd ps sp' :=
  ⟨fun vs H Q E q => F.len vs H Q E (h _ _ _ _ q), fun A outer s H args us vs Q E hr hg e0 hb hv hs => F.go A outer s H args us vs Q E hr hg e0 hb hv (h _ _ _ _ hs)⟩

theorem guards_in {A : Around} {env : Env} (h : A.guards = some []) : (A.deeper env).guards = some [] := h

section
variable {P : Program} {w : World} {K : PySem.W.Frag} {mg : Str → Option Value} {base : Heap}
/-- a def by its body -/
theorem fnGX {CX : CXT} {x qual : Str} {st : Stmt} {f : Addr} {fd : FuncData} {N ps : List Str} {k : Nat} {sp : Sp} (F : L2.Fun K x qual st f fd) (S : FnScope N ps (defScope st))
    (len : ∀ vs H Q E, sp vs H Q E → vs.length = ps.length)
    (body : ∀ (cdv : Value) (A : Around) (outer : List Env) (s : Shared) (H : Hp) (vs : List V) (Q : VK) (E : XK),
      Room k (A.deeper (envOfC qual (defScope st) s.heap.objs.size f cdv)) → A.guards = some [] → sp vs H Q E →
      ∃ t, PSs (cxOf CX P w K mg base N qual (defScope st) f cdv A outer s H E) (defBody st) t ∧ t { nx := fun _ H' => Q .non H', rt := Q } (start N vs) H) :
    FnG P w K mg base CX (k + 1) f fd ps sp := by
  obtain ⟨oc, od, kV, dc, pm, an, cdv, ct, osl, rfl, lk, cd⟩ := F.ex
  constructor
  · exact len
  · intro A outer s H args us vs Q E room gd en bd rel hs
    have len1 := len _ _ _ _ hs
    have inK : K.In s.heap := en.mod.kin.keeps (fun b o q => (en.bs b o q).1)
    have nolim : s.heap.NoLimit := en.mod.nolimit.keeps (fun b o q => (en.bs b o q).1)
    have kinds : ∀ z ∈ ps.zip us, (defScope st).names.lookup z.1 = some .local ∨
        ((defScope st).names.lookup z.1 = some .cell ∧ ((cellsFrom (s.heap.objs.size + 1) (defScope st).names []).lookup z.1).isSome = true) := by
      rintro ⟨a, b⟩ hz
      cases S.par a (List.of_mem_zip hz).1 with
      | inl q => exact .inl q
      | inr q => exact .inr ⟨q, PySem.W.cellsFrom_some _ _ _ (.inl q)⟩
    apply codeAny_call_function room.depth (inK _ _ lk) rfl S.co S.gen rfl (PySem.W.codeRec_of inK cd)
    apply bd
    apply wpAny_newFunctionEnv_cells S.kind kinds
    rintro env rfl s1 x
    refine ⟨nolim.keeps x.toInCall.keep, ?_⟩
    apply codeAny_func
    obtain ⟨t, pt, qt⟩ := body cdv A outer s H vs Q E (room.deeper _) gd hs
    have J := inv_start (CX := CX) (E := E) (cd := cdv) S room.hd en len1 rel x
    refine wpAny_mono (pt.run [] s1 _ H _ J qt) ?_ (fun _ _ z => z)
    intro fl s' hz
    cases fl with
    | brk => obtain ⟨_, _, _, z⟩ := hz; exact z.elim
    | cont => obtain ⟨_, _, _, z⟩ := hz; exact z.elim
    | next => obtain ⟨_, H', J', z⟩ := hz; exact ⟨V.non, H', J'.os, J'.bare, J'.base, J'.hok, rfl, z⟩
    | ret u => obtain ⟨v, _, H', J', rv, z⟩ := hz; exact ⟨v, H', J'.os, J'.bare, J'.base, J'.hok, rv, z⟩
/-- a def that lets nothing out -/
theorem fnG {CX : CXT} {x qual : Str} {st : Stmt} {f : Addr} {fd : FuncData} {N ps : List Str} {k : Nat} {sp : Sp} (F : L2.Fun K x qual st f fd) (S : FnScope N ps (defScope st))
    (len : ∀ vs H Q E, sp vs H Q E → vs.length = ps.length)
    (body : ∀ (cdv : Value) (A : Around) (outer : List Env) (s : Shared) (H : Hp) (vs : List V) (Q : VK) (E : XK),
      Room k (A.deeper (envOfC qual (defScope st) s.heap.objs.size f cdv)) → A.guards = some [] → sp vs H Q E →
      ∃ t, PSs (cxOf CX P w K mg base N qual (defScope st) f cdv A outer s H E).nox (defBody st) t ∧ t { nx := fun _ H' => Q .non H', rt := Q } (start N vs) H) :
    FnG P w K mg base CX (k + 1) f fd ps sp := by
  refine fnGX F S len fun cdv A outer s H vs Q E room gd h => ?_
  obtain ⟨t, h1, h2⟩ := body cdv A outer s H vs Q E room gd h
  exact ⟨t, h1.nox, h2⟩
end

section
variable {X : Cx} {CX : CXT} {k : Nat} {f : Addr} {fd : FuncData} {ps : List Str} {sp : Sp} {dvs : List V} {ds : List Value} {E : XK} {x : Str} {p pos : Pos} {e : Expr} {es : List Expr} {t : TA}
theorem runG {pins : List (Addr × Obj)} {σ : St} {H : Hp} {s : Shared} {Q : VK} {us : List Value} {vs : List V} (F : FnG X.prog X.w X.K X.mg X.base CX k f fd ps sp) (room : Room k X.A) (gd : X.A.guards = some [])
    (bd : Binds X.K fd ps ds) (dv : Vals dvs ds) (px : Passes CX X E) (I : Inv X pins σ H s) (r : Vals vs us) (h : sp (vs ++ dvs) H Q E) :
    wpAny (model X.prog X.w) X.A (call (.ref f) us) (EP X pins σ Q) X.xe s := by
  have r2 := r.append dv
  have len2 : (us ++ ds).length = ps.length := r2.length.symm.trans (F.len _ _ _ _ h)
  apply wpAny_call
  refine codeAny_mono (F.go X.A X.stack s H ⟨us, []⟩ (us ++ ds) (vs ++ dvs) Q E room gd I.env0 (bd s us I.kIn len2) r2 h) ?_
  rintro (er | fl) s' hz
  · exact px pins σ H s er s' I hz
  · cases fl with
    | ret u => exact I.after hz
    | next => exact hz.elim
    | brk => exact hz.elim
    | cont => exact hz.elim
theorem pe_callG (F : FnG X.prog X.w X.K X.mg X.base CX k f fd ps sp) (room : Room k X.A) (gd : X.A.guards = some []) (gl : Gl X x) (hm : X.mg x = some (.ref f)) (kp : PySem.W.keepIn X.K (.ref f) = true)
    (bd : Binds X.K fd ps ds) (dv : Vals dvs ds) (px : Passes CX X E) (ha : PA X (e :: es) t) (nb : (x == ("__debug__" : Str)) = false := by decide)
    (st : starEach (e :: es) X.env = (false, eval e X.env) :: starEach es X.env := by rfl) (pl : (backTo pos (starEach es X.env)).any (·.1) = false := by rfl) :
    PE X (.Call (.Name x p) (e :: es) [] pos) (tCall sp dvs E t) := by
  constructor
  intro pins s σ H Q I h
  apply wpAny_Call_Name_kw
  refine ld_glob I gl hm ?_ nb
  refine PySem.W.callWith_K (h₀ := X.base) I.ok.mod.kin kp ?_ st pl
  refine thn (ha.run pos pins s σ H _ I h) ?_
  rintro us s1 ⟨vs, H1, I1, rv, hq⟩
  exact ⟨I1.kIn, runG F room gd bd dv px I1 rv hq⟩
theorem pe_callG0 (F : FnG X.prog X.w X.K X.mg X.base CX k f fd ps sp) (room : Room k X.A) (gd : X.A.guards = some []) (gl : Gl X x) (hm : X.mg x = some (.ref f)) (kp : PySem.W.keepIn X.K (.ref f) = true)
    (bd : Binds X.K fd ps ds) (dv : Vals dvs ds) (px : Passes CX X E) (nb : (x == ("__debug__" : Str)) = false := by decide) :
    PE X (.Call (.Name x p) [] [] pos) (tCall sp dvs E tNil) := by
  constructor
  intro pins s σ H Q I h
  apply wpAny_Call_Name_kw
  refine ld_glob I gl hm ?_ nb
  exact PySem.W.callWith_K0 I.kIn kp (runG (us := []) F room gd bd dv px I .nil h)
end

/-! ### a law's end -/
section
/-- the law's call, at the heap behind the top -/
theorem law_callG {P : Program} {w : World} {K : PySem.W.Frag} {mg mb : Str → Option Value} {CX : CXT} {k : Nat} {fa a : Addr} {fd : FuncData} {x : Str} {sp : Sp} {s₁ : Shared} {vs : List Value} {ns : List Int}
    (inK : K.In s₁.heap) (hns : s₁.heap.Ns mainGlobals mg) (hb : s₁.heap.Ns builtinsNs mb) (hbb : ∀ x : Str, x ≠ "__name__" → mb x = bootBuiltins x) (lim : s₁.heap.NoLimit) (gens : s₁.gens = #[])
    (ha : s₁.heap.get? a = some { cls := .type "list", data := .seq vs.toArray }) (hi : IntsAre vs ns) (hl : ns.length ≤ sizeLine) (room : Room k callerA)
    (F : ∀ base : Heap, K.In base → base.Ns mainGlobals mg → FnG P w K mg base CX k fa fd [x] sp) (bind : ∀ (s : Shared) (u : Value), BindsTo s fd ⟨[u], []⟩ [(x, u)])
    (hsp : ∀ H : Hp, Only H → SqL K H a (ns.map V.int) → sp [.ref a] H (fun v _ => v = .bl true) fun _ _ _ => False)
    (noX : ∀ H e s', CX [] H s₁ (fun _ _ _ => False) e s' → False) :
    codeAny (model P w) callerA (.call (.ref fa) ⟨[.ref a], []⟩) (fun r s' => r = .ok (.ret (.bool true)) ∧ OldK s₁.heap s'.heap ∧ s'.os = s₁.os ∧ AllBare s'.gens) s₁ := by
  have rels := vals_ints hi
  have lens := hi.length
  have main : ∀ H : Hp, Only H → SqL K H a (ns.map V.int) → HOk P w H s₁.heap → (∀ b, H b ≠ none → b = a) → (H a ≠ none → K.lookup a = none) →
      codeAny (model P w) callerA (.call (.ref fa) ⟨[.ref a], []⟩) (fun r s' => r = .ok (.ret (.bool true)) ∧ OldK s₁.heap s'.heap ∧ s'.os = s₁.os ∧ AllBare s'.gens) s₁ := by
    intro H only hS ok hA hKn
    have notA : ∀ {b : Addr} {o : Obj} {es : Array DictEntry} {ep : Nat}, s₁.heap.get? b = some o → o.data = .dict es ep → H b = none := by
      intro b o es ep hg hd
      by_cases z : H b = none
      · exact z
      · have zz := hA b z
        rw [zz, ha] at hg
        have := Option.some.inj hg
        rw [← this] at hd
        exact absurd hd (fun q => by injection q)
    have names : ∀ {b : Addr} {m : Str → Option Value}, s₁.heap.Ns b m → (hidT s₁.heap H).Ns b m := by
      rintro b m ⟨o, es, ep, hg, hd, more⟩
      exact ⟨o, es, ep, hidT_get hg (notA hg hd), hd, more⟩
    have inK' : K.In (hidT s₁.heap H) := by
      intro b o hlk
      refine hidT_get (inK b o hlk) ?_
      by_cases z : H b = none
      · exact z
      · have zz := hA b z
        rw [zz] at hlk z
        rw [hKn z] at hlk
        exact absurd hlk (fun q => by injection q)
    obtain ⟨mc, l1, l2⟩ := lim
    have modu : Mod K mg (hidT s₁.heap H) := ⟨inK', names hns, ⟨mb, names hb, hbb⟩, ⟨mc, names l1, l2⟩⟩
    have en : Env0 P w K mg (hidT s₁.heap H) callerA [] s₁ H :=
      { frames := rfl, mod := modu, bs := fun b o q => of_hidT q, bsz := Nat.le_of_eq (hidT_size _ _), funs := trivial, frf := (fun b hb => nomatch hb), hok := ok, bare := .of_eq gens }
    refine codeAny_mono ((F _ inK' (names hns)).go callerA [] s₁ H ⟨[.ref a], []⟩ [.ref a] [.ref a] _ _ room rfl en (bind s₁ (.ref a)) (.cons rfl .nil) (hsp H only hS)) ?_
    rintro (er | fl) s' hz
    · exact (noX H er s' hz).elim
    · cases fl with
      | next => exact hz.elim
      | brk => exact hz.elim
      | cont => exact hz.elim
      | ret u =>
        obtain ⟨v, H', os, bare, un, ok', rv, rfl⟩ := hz
        cases rv
        refine ⟨rfl, OldK.of_keep ?_, os, bare⟩
        intro b o hg
        rcases only b with z | ⟨ob, xs, z⟩
        · exact un.keep b o hg z (fun q => nomatch q) (fun q => nomatch q)
        · have z2 := un.frzs b ob _ z
          have e1 := (ok b _ z).1
          have e2 := (ok' b _ z2).1
          rw [hg] at e1
          rw [e2, Option.some.inj e1]
  by_cases hk : K.lookup a = none
  · let H0 : Hp := fun b => if b = a then some (.frz { cls := .type "list", data := .seq vs.toArray } (.lst (ns.map V.int))) else none
    have at_a : H0 a = some (.frz { cls := .type "list", data := .seq vs.toArray } (.lst (ns.map V.int))) := if_pos rfl
    have off_a : ∀ b, b ≠ a → H0 b = none := fun b q => if_neg q
    refine main H0 ?_ (.inl (.inr ⟨_, at_a⟩)) ?_ ?_ (fun _ => hk)
    · intro b
      by_cases q : b = a
      · subst q; exact .inr ⟨_, _, at_a⟩
      · exact .inl (off_a b q)
    · intro b u z
      by_cases q : b = a
      · subst q
        rw [at_a] at z
        cases z
        exact ⟨ha, by simpa using hl, vs, _, rels, ha⟩
      · rw [off_a b q] at z; cases z
    · intro b z
      by_cases q : b = a
      · exact q
      · exact absurd (off_a b q) z
  · obtain ⟨o, ho⟩ : ∃ o, K.lookup a = some o := by
      cases q : K.lookup a with
      | none => exact absurd q hk
      | some o => exact ⟨o, rfl⟩
    have hg := inK a o ho
    rw [ha] at hg
    cases hg
    refine main (fun _ => none) (fun _ => .inl rfl) (.inr ⟨_, vs.toArray, _, ho, rfl, rfl, rfl, ?_, by simpa using rels⟩) (fun b u z => nomatch z) (fun b z => absurd rfl z) (fun z => absurd rfl z)
    rw [List.size_toArray, lens]
    exact hl
theorem walk_ofG {l : PySem.W.OpenLaw} {n k : Nat} {q : Program} {loose : List Str} {XP : (Str → Option Value) → Heap → Prop} {YP : World → Heap → Prop} {d : DefRec} {K : Params → PySem.W.Frag} {sp : PySem.W.Frag → Sp} {x : Str}
    (hn : l.most = some n) (hn2 : n ≤ sizeLine) (hdf : d.params.defaults = []) (room : Room k callerA) (hY : ∀ (w : World) (h : Heap), YP w h → (K w.params).In h)
    (F : ∀ (w : World) (mg : Str → Option Value) (fa : Addr) (h : Heap), (K w.params).In h → h.Ns mainGlobals mg → mg d.name = some (.ref fa) →
      ∃ fd : FuncData, (∀ (s : Shared) (u : Value), BindsTo s fd ⟨[u], []⟩ [(x, u)]) ∧
        ∀ base : Heap, (K w.params).In base → base.Ns mainGlobals mg → FnG l.prog w (K w.params) mg base CX0 k fa fd [x] (sp (K w.params)))
    (hsp : ∀ (K : PySem.W.Frag) (H : Hp) (a : Addr) (ns : List Int), ns.length ≤ n → Only H → SqL K H a (ns.map V.int) → sp K [.ref a] H (fun v _ => v = .bl true) fun _ _ _ => False) :
    PySem.W.WalkO q loose XP YP l.row.toRowW d [] (fun f vs => PySem.call f vs) := by
  apply Att.attach_call hn hdf
  intro w s₀ s₁ mg mb fa o pm cd doc a vs ns G Y ho hd hcd hmg hobj hints hlen hg
  have inK := hY w _ Y
  obtain ⟨fd, bd, hF⟩ := F w mg fa _ inK G.T.g hmg
  exact law_callG inK G.T.g G.T.b G.T.builtins G.T.nolimit hg hobj hints (Nat.le_trans hlen hn2) room hF bd (fun H hO hS => hsp _ H a ns hlen hO hS) (fun H e s' z => z)
end
end Wc

/-! The layer of data: a body is read over data (what stands in a slot is a datum), the heap is told once. -/
namespace Wc
open PySem PySem.Spec PyProof.Rows L2

/-- an object that a slot alone holds: it may be changed -/
inductive Own where
  | l (xs : List PyData)
  | k (kvs : List (Key × PyData))
  | t (P : Program) (w : World) (kvs : List (PyData × PyData))
/-- a slot, by its content -/
inductive Sl where
  | un | d (x : PyData) | own (o : Own) | tap
/-- an argument -/
inductive Ar where
  | d (x : PyData) | tap
/-- what stood at the entry, what was frozen there, the tap -/
structure Gh where
  B : Hp
  F0 : Hp
  T : Addr
abbrev Slots := List Sl

/-- a key as data -/
def keyD : Key → PyData
  | .inl i => .int i
  | .inr x => .str x
def dctD (kvs : List (Key × PyData)) : List (PyData × PyData) := kvs.map fun p => (keyD p.1, p.2)
section
variable {K : PySem.W.Frag}
theorem seqT {H H' : Hp} {a : Addr} {xs : List V} (e : Same H H') (h : SqT K H a xs) : SqT K H' a xs := by
  rcases h with (z | ⟨o, z⟩) | z
  · exact .inl (.inl (e _ _ z))
  · exact .inl (.inr ⟨o, e _ _ z⟩)
  · exact .inr z
mutual
/-- a value that stands for a datum: lists are tracked -/
inductive Dt (K : PySem.W.Frag) (H : Hp) : V → PyData → Prop
  | non : Dt K H .non .none
  | bl (b : Bool) : Dt K H (.bl b) (.bool b)
  | int (i : Int) : Dt K H (.int i) (.int i)
  | str (x : Str) : Dt K H (.str x) (.str x)
  | lst {a : Addr} {xs : List V} {ds : List PyData} : H a = some (.lst xs) → DtAll K H xs ds → Dt K H (.ref a) (.list ds)
  | tup {a : Addr} {xs : List V} {ds : List PyData} : SqT K H a xs → DtAll K H xs ds → Dt K H (.ref a) (.tuple ds)
  | dct {a : Addr} {vs : List (Key × V)} {kvs : List (Key × PyData)} : H a = some (.dK vs) → KvAll K H vs kvs → Dt K H (.ref a) (.dict (dctD kvs))
inductive DtAll (K : PySem.W.Frag) (H : Hp) : List V → List PyData → Prop
  | nil : DtAll K H [] []
  | cons {v : V} {vs : List V} {d : PyData} {ds : List PyData} : Dt K H v d → DtAll K H vs ds → DtAll K H (v :: vs) (d :: ds)
/-- a dict's entries -/
inductive KvAll (K : PySem.W.Frag) (H : Hp) : List (Key × V) → List (Key × PyData) → Prop
  | nil : KvAll K H [] []
  | cons {k : Key} {v : V} {x : PyData} {vs : List (Key × V)} {xs : List (Key × PyData)} : Dt K H v x → KvAll K H vs xs → KvAll K H ((k, v) :: vs) ((k, x) :: xs)
end
mutual
theorem Dt.dp {F H : Hp} (e : Same F H) : ∀ {v : V} {x : PyData}, Dt K F v x → x.hasDict = false → Dp K H v x
  | _, _, .non, _ => .non
  | _, _, .bl b, _ => .bl b
  | _, _, .int i, _ => .int i
  | _, _, .str x, _ => .str x
  | _, _, .lst h r, n => .lst (.inl (.inl (e _ _ h))) (DtAll.dp e r (by simpa [PyData.hasDict] using n))
  | _, _, .tup h r, n => .tup (seqT e h) (DtAll.dp e r (by simpa [PyData.hasDict] using n))
  | _, _, .dct h r, n => absurd n (by simp [PyData.hasDict])
theorem DtAll.dp {F H : Hp} (e : Same F H) : ∀ {vs : List V} {xs : List PyData}, DtAll K F vs xs → PyData.hasDictAll xs = false → DpAll K H vs xs
  | _, _, .nil, _ => .nil
  | _, _, .cons h r, n => by
    simp only [PyData.hasDictAll, Bool.or_eq_false_iff] at n
    exact .cons (Dt.dp e h n.1) (DtAll.dp e r n.2)
end
mutual
theorem nd_lay : ∀ {x : PyData}, x.canLay0 = true → x.hasDict = false
  | .none, _ => by simp [PyData.hasDict]
  | .bool _, _ => by simp [PyData.hasDict]
  | .int _, _ => by simp [PyData.hasDict]
  | .str _, _ => by simp [PyData.hasDict]
  | .list xs, h => by
    have z := nd_layAll (xs := xs) (by simpa [PyData.canLay0] using h)
    simpa [PyData.hasDict] using z
  | .tuple xs, h => by
    have z := nd_layAll (xs := xs) (by simpa [PyData.canLay0] using h)
    simpa [PyData.hasDict] using z
  | .dict _, h => by simp [PyData.canLay0] at h
theorem nd_layAll : ∀ {xs : List PyData}, PyData.canLayAll0 xs = true → PyData.hasDictAll xs = false
  | [], _ => by simp [PyData.hasDictAll]
  | x :: xs, h => by
    simp only [PyData.canLayAll0, Bool.and_eq_true] at h
    simp only [PyData.hasDictAll, Bool.or_eq_false_iff]
    exact ⟨nd_lay h.1, nd_layAll h.2⟩
end
mutual
theorem Dt.up {H H' : Hp} (e : Same H H') : ∀ {v : V} {x : PyData}, Dt K H v x → Dt K H' v x
  | _, _, .non => .non
  | _, _, .bl b => .bl b
  | _, _, .int i => .int i
  | _, _, .str x => .str x
  | _, _, .lst h r => .lst (e _ _ h) (DtAll.up e r)
  | _, _, .tup h r => .tup (seqT e h) (DtAll.up e r)
  | _, _, .dct h r => .dct (e _ _ h) (KvAll.up e r)
theorem DtAll.up {H H' : Hp} (e : Same H H') : ∀ {vs : List V} {xs : List PyData}, DtAll K H vs xs → DtAll K H' vs xs
  | _, _, .nil => .nil
  | _, _, .cons h r => .cons (Dt.up e h) (DtAll.up e r)
theorem KvAll.up {H H' : Hp} (e : Same H H') : ∀ {vs : List (Key × V)} {xs : List (Key × PyData)}, KvAll K H vs xs → KvAll K H' vs xs
  | _, _, .nil => .nil
  | _, _, .cons h r => .cons (Dt.up e h) (KvAll.up e r)
end
theorem DtAll.len {H : Hp} : ∀ {vs : List V} {xs : List PyData}, DtAll K H vs xs → vs.length = xs.length
  | _, _, .nil => rfl
  | _, _, .cons _ r => by rw [List.length_cons, List.length_cons, DtAll.len r]
theorem DtAll.at {H : Hp} : ∀ {vs : List V} {xs : List PyData} {i : Nat} {x : PyData}, DtAll K H vs xs → xs[i]? = some x → ∃ v, vs[i]? = some v ∧ Dt K H v x
  | _, _, _, _, .nil, e => by simp at e
  | _, _, 0, _, .cons h _, e => by
    rw [List.getElem?_cons_zero] at e
    cases e
    exact ⟨_, rfl, h⟩
  | _, _, i + 1, x, .cons _ r, e => by
    rw [List.getElem?_cons_succ] at e
    obtain ⟨v, h1, h2⟩ := DtAll.at r e
    exact ⟨v, by rw [List.getElem?_cons_succ]; exact h1, h2⟩
theorem DtAll.at' {H : Hp} : ∀ {vs : List V} {xs : List PyData} {i : Nat} {v : V}, DtAll K H vs xs → vs[i]? = some v → ∃ x, xs[i]? = some x ∧ Dt K H v x
  | _, _, _, _, .nil, e => by simp at e
  | _, _, 0, _, .cons h _, e => by
    rw [List.getElem?_cons_zero] at e
    cases e
    exact ⟨_, rfl, h⟩
  | _, _, i + 1, x, .cons _ r, e => by
    rw [List.getElem?_cons_succ] at e
    obtain ⟨v, h1, h2⟩ := DtAll.at' r e
    exact ⟨v, by rw [List.getElem?_cons_succ]; exact h1, h2⟩
theorem DtAll.app {H : Hp} : ∀ {vs ws : List V} {xs ys : List PyData}, DtAll K H vs xs → DtAll K H ws ys → DtAll K H (vs ++ ws) (xs ++ ys)
  | _, _, _, _, .nil, s => s
  | _, _, _, _, .cons h r, s => .cons h (DtAll.app r s)
theorem DtAll.takeN {H : Hp} : ∀ {vs : List V} {xs : List PyData} (n : Nat), DtAll K H vs xs → DtAll K H (vs.take n) (xs.take n)
  | _, _, 0, _ => by rw [List.take_zero, List.take_zero]; exact .nil
  | _, _, n + 1, .nil => by rw [List.take_nil, List.take_nil]; exact .nil
  | _, _, n + 1, .cons h r => by rw [List.take_succ_cons, List.take_succ_cons]; exact .cons h (DtAll.takeN n r)
theorem DtAll.dropN {H : Hp} : ∀ {vs : List V} {xs : List PyData} (n : Nat), DtAll K H vs xs → DtAll K H (vs.drop n) (xs.drop n)
  | _, _, 0, r => by rw [List.drop_zero, List.drop_zero]; exact r
  | _, _, n + 1, .nil => by rw [List.drop_nil, List.drop_nil]; exact .nil
  | _, _, n + 1, .cons h r => by rw [List.drop_succ_cons, List.drop_succ_cons]; exact DtAll.dropN n r
theorem DtAll.eraseN {H : Hp} : ∀ {vs : List V} {xs : List PyData} (n : Nat), DtAll K H vs xs → DtAll K H (vs.eraseIdx n) (xs.eraseIdx n)
  | _, _, _, .nil => by rw [List.eraseIdx_nil, List.eraseIdx_nil]; exact .nil
  | _, _, 0, .cons h r => by rw [List.eraseIdx_cons_zero, List.eraseIdx_cons_zero]; exact r
  | _, _, n + 1, .cons h r => by rw [List.eraseIdx_cons_succ, List.eraseIdx_cons_succ]; exact .cons h (DtAll.eraseN n r)
theorem DtAll.setN {H : Hp} {v : V} {x : PyData} (q : Dt K H v x) : ∀ {vs : List V} {xs : List PyData} (n : Nat), DtAll K H vs xs → DtAll K H (vs.set n v) (xs.set n x)
  | _, _, _, .nil => by rw [List.set_nil, List.set_nil]; exact .nil
  | _, _, 0, .cons h r => by rw [List.set_cons_zero, List.set_cons_zero]; exact .cons q r
  | _, _, n + 1, .cons h r => by rw [List.set_cons_succ, List.set_cons_succ]; exact .cons h (DtAll.setN q n r)
/-- a datum's value is one -/
theorem Dt.inv_int {H : Hp} {v : V} {i : Int} (h : Dt K H v (.int i)) : v = .int i := by cases h; rfl
theorem Dt.inv_str {H : Hp} {v : V} {z : Str} (h : Dt K H v (.str z)) : v = .str z := by cases h; rfl
theorem Dt.inv_bl {H : Hp} {v : V} {b : Bool} (h : Dt K H v (.bool b)) : v = .bl b := by cases h; rfl
theorem Dt.inv_non {H : Hp} {v : V} (h : Dt K H v .none) : v = .non := by cases h; rfl
theorem Dt.inv_tup {H : Hp} {v : V} {xs : List PyData} (h : Dt K H v (.tuple xs)) : ∃ a vs, v = .ref a ∧ SqT K H a vs ∧ DtAll K H vs xs := by
  cases h with
  | tup h r => exact ⟨_, _, rfl, h, r⟩
theorem Dt.inv_lst {H : Hp} {v : V} {xs : List PyData} (h : Dt K H v (.list xs)) : ∃ a vs, v = .ref a ∧ H a = some (.lst vs) ∧ DtAll K H vs xs := by
  cases h with
  | lst h r => exact ⟨_, _, rfl, h, r⟩

/-- the tap: cells, spot, rest, calls, of which no more than k were -/
def TapAt (F H : Hp) (T : Addr) (k : Nat) : Prop :=
  ∃ (l : Addr) (ns : List Int) (spot rest calls : Int),
    H T = some (.dK [(Sum.inr ("cells" : Str), V.ref l), (Sum.inr ("spot" : Str), V.int spot), (Sum.inr ("rest" : Str), V.int rest), (Sum.inr ("calls" : Str), V.int calls)]) ∧
    F l = some (.lst (ns.map V.int)) ∧ ns.length ≤ 63 ∧ 0 ≤ spot ∧ 0 ≤ rest ∧ 0 ≤ calls ∧ calls ≤ (k : Int)

/-- a dict whose keys are tuples, by its entries: the key, where it stands, the value -/
def RawT (P : Program) (w : World) (a : Addr) (xs : List (NestedKey × Addr × Value)) : Heap → Prop := fun h =>
  ∃ o es ep, h.get? a = some o ∧ o.ExactDict ∧ o.data = .dict es ep ∧ es.toList = xs.map (entryOfKey (nestedKind P w)) ∧ (xs.map (·.1)).Nodup
mutual
/-- data as a key -/
def nkey : PyData → Option NestedKey
  | .none => some .none
  | .bool b => some (.num (if b = true then 1 else 0))
  | .int i => some (.num i)
  | .str x => some (.text x)
  | .tuple xs => (nkeys xs).map .tup
  | .list _ => none
  | .dict _ => none
def nkeys : List PyData → Option (List NestedKey)
  | [] => some []
  | x :: xs => (nkey x).bind fun k => (nkeys xs).map fun ks => k :: ks
end
inductive KtAll (K : PySem.W.Frag) (F : Hp) : List (NestedKey × Addr × Value) → List (PyData × PyData) → Prop
  | nil : KtAll K F [] []
  | cons {k : NestedKey} {b : Addr} {u : Value} {v : V} {x y : PyData} {xs : List (NestedKey × Addr × Value)} {kvs : List (PyData × PyData)} : nkey x = some k → k.depth ≤ 8 → Dt K F (.ref b) x → RelV v u → Dt K F v y → KtAll K F xs kvs → KtAll K F ((k, b, u) :: xs) ((x, y) :: kvs)
theorem KtAll.up {H H' : Hp} (e : Same H H') : ∀ {xs : List (NestedKey × Addr × Value)} {kvs : List (PyData × PyData)}, KtAll K H xs kvs → KtAll K H' xs kvs
  | _, _, .nil => .nil
  | _, _, .cons h1 h2 h3 h4 h5 r => .cons h1 h2 (Dt.up e h3) h4 (Dt.up e h5) (KtAll.up e r)
def OwnOk (K : PySem.W.Frag) (F H : Hp) (a : Addr) : Own → Prop
  | .l xs => ∃ vs, H a = some (.lst vs) ∧ DtAll K F vs xs
  | .k kvs => ∃ vs, H a = some (.dK vs) ∧ KvAll K F vs kvs
  | .t P w kvs => (a == sysModules) = false ∧ ∃ xs, H a = some (.ext (RawT P w a xs)) ∧ KtAll K F xs kvs
theorem OwnOk.there {F H : Hp} {a : Addr} {o : Own} (h : OwnOk K F H a o) : ∃ u, H a = some u := by
  cases o with
  | l xs => obtain ⟨_, e, _⟩ := h; exact ⟨_, e⟩
  | k kvs => obtain ⟨_, e, _⟩ := h; exact ⟨_, e⟩
  | t P w kvs => obtain ⟨_, _, e, _⟩ := h; exact ⟨_, e⟩
theorem OwnOk.up {F F' H H' : Hp} {a : Addr} {o : Own} (h : OwnOk K F H a o) (e : Same F F') (s : H' a = H a) : OwnOk K F' H' a o := by
  cases o with
  | l xs => obtain ⟨vs, q, r⟩ := h; exact ⟨vs, s.trans q, DtAll.up e r⟩
  | k kvs => obtain ⟨vs, q, r⟩ := h; exact ⟨vs, s.trans q, KvAll.up e r⟩
  | t P w kvs => obtain ⟨z, xs, q, r⟩ := h; exact ⟨z, xs, s.trans q, KtAll.up e r⟩

/-- the heap's part -/
structure HeR (K : PySem.W.Frag) (G : Gh) (k : Nat) (H F : Hp) : Prop where
  same : Same F H
  ext : Same G.F0 F
  new : ∀ a o, F a = some o → G.F0 a = some o ∨ G.B a = none
  base : ∀ b o, G.B b = some o → b ≠ G.T → H b = some o
  tapF : F G.T = none
  tapB : ∃ o, G.B G.T = some o
  tap : TapAt F H G.T k

def SlOk (K : PySem.W.Frag) (G : Gh) (F H : Hp) : Sl → Option (Option V) → Prop
  | .un, _ => True
  | .d x, o => ∃ v, o = some (some v) ∧ Dt K F v x
  | .tap, o => o = some (some (.ref G.T))
  | .own w, o => ∃ a, o = some (some (.ref a)) ∧ F a = none ∧ G.B a = none ∧ OwnOk K F H a w

structure EnvR (K : PySem.W.Frag) (G : Gh) (k : Nat) (ρ : Slots) (σ : St) (H F : Hp) : Prop extends HeR K G k H F where
  len : ρ.length = σ.length
  sl : ∀ (i : Nat) (s : Sl), ρ[i]? = some s → SlOk K G F H s σ[i]?
  apart : ∀ (i j : Nat) (o p : Own) (a : Addr), i ≠ j → ρ[i]? = some (.own o) → ρ[j]? = some (.own p) → σ[i]? = some (some (.ref a)) → σ[j]? ≠ some (some (.ref a))

theorem HeR.free {G : Gh} {k : Nat} {H F : Hp} {p : Addr} (h : HeR K G k H F) (n : H p = none) : F p = none ∧ G.B p = none ∧ p ≠ G.T := by
  have nT : p ≠ G.T := by
    rintro rfl
    obtain ⟨_, _, _, _, _, q, _⟩ := h.tap
    rw [n] at q
    cases q
  refine ⟨h.same.free n, ?_, nT⟩
  cases q : G.B p with
  | none => rfl
  | some o =>
    rw [h.base p o q nT] at n
    cases n
theorem HeR.bT {G : Gh} {k : Nat} {H F : Hp} {p : Addr} (h : HeR K G k H F) (n : G.B p = none) : p ≠ G.T := by
  rintro rfl
  obtain ⟨o, q⟩ := h.tapB
  rw [n] at q
  cases q
/-- a new object that is frozen -/
theorem HeR.laid {G : Gh} {k : Nat} {H F : Hp} {p : Addr} {o : HO} (h : HeR K G k H F) (n : H p = none) : HeR K G k (upd H p o) (upd F p o) := by
  obtain ⟨nF, nB, nT⟩ := h.free n
  have up : Same F (upd F p o) := fun b u e => by rw [upd_ne (ne_of_none e nF)]; exact e
  refine ⟨fun b u e => ?_, h.ext.trans up, fun a u e => ?_, fun b u e nb => ?_, by rw [upd_ne (Ne.symm nT)]; exact h.tapF, h.tapB, ?_⟩
  · by_cases q : b = p
    · subst q; rw [upd_same] at e ⊢; exact e
    · rw [upd_ne q] at e ⊢; exact h.same b u e
  · by_cases q : a = p
    · subst q; exact .inr nB
    · rw [upd_ne q] at e; exact h.new a u e
  · rw [upd_ne (ne_of_none e nB)]; exact h.base b u e nb
  · obtain ⟨l, ns, s, r, c, q1, q2, q3⟩ := h.tap
    exact ⟨l, ns, s, r, c, by rw [upd_ne (Ne.symm nT)]; exact q1, up _ _ q2, q3⟩
/-- an object that is no one's yet, laid or changed -/
theorem HeR.put {G : Gh} {k : Nat} {H F : Hp} {p : Addr} {o : HO} (h : HeR K G k H F) (nF : F p = none) (nB : G.B p = none) : HeR K G k (upd H p o) F := by
  have nT : p ≠ G.T := h.bT nB
  refine ⟨fun b u e => by rw [upd_ne (ne_of_none e nF)]; exact h.same b u e, h.ext, h.new, fun b u e nb => by rw [upd_ne (ne_of_none e nB)]; exact h.base b u e nb, h.tapF, h.tapB, ?_⟩
  obtain ⟨l, ns, s, r, c, q1, q2⟩ := h.tap
  exact ⟨l, ns, s, r, c, by rw [upd_ne (Ne.symm nT)]; exact q1, q2⟩
/-- it is frozen -/
theorem HeR.froze {G : Gh} {k : Nat} {H F : Hp} {p : Addr} {o : HO} (h : HeR K G k H F) (e : H p = some o) (nF : F p = none) (nB : G.B p = none) : HeR K G k H (upd F p o) ∧ Same F (upd F p o) := by
  have up : Same F (upd F p o) := fun b u q => by rw [upd_ne (ne_of_none q nF)]; exact q
  refine ⟨⟨fun b u q => ?_, h.ext.trans up, fun a u q => ?_, h.base, by rw [upd_ne (Ne.symm (h.bT nB))]; exact h.tapF, h.tapB, ?_⟩, up⟩
  · by_cases z : b = p
    · subst z; rw [upd_same] at q; rw [← q]; exact e
    · rw [upd_ne z] at q; exact h.same b u q
  · by_cases z : a = p
    · subst z; exact .inr nB
    · rw [upd_ne z] at q; exact h.new a u q
  · obtain ⟨l, ns, s, r, c, q1, q2, q3⟩ := h.tap
    exact ⟨l, ns, s, r, c, q1, up _ _ q2, q3⟩
/-- the slots over a heap that has grown, F too; own objects as they were -/
theorem EnvR.grown {G : Gh} {k k' : Nat} {ρ : Slots} {σ : St} {H F H' F' : Hp} (h : EnvR K G k ρ σ H F) (h' : HeR K G k' H' F') (e : Same F F')
    (own : ∀ (a : Addr), F a = none → G.B a = none → (∃ o, H a = some o) → (∃ (i : Nat) (o : Own), ρ[i]? = some (Sl.own o) ∧ σ[i]? = some (some (V.ref a))) → F' a = none ∧ H' a = H a) : EnvR K G k' ρ σ H' F' := by
  refine ⟨h', h.len, fun i s q => ?_, h.apart⟩
  have z := h.sl i s q
  cases s with
  | un => exact True.intro
  | d x => obtain ⟨v, e1, e2⟩ := z; exact ⟨v, e1, Dt.up e e2⟩
  | tap => exact z
  | own w =>
    obtain ⟨a, e1, e2, e3, e4⟩ := z
    obtain ⟨f1, f2⟩ := own a e2 e3 e4.there ⟨i, w, q, e1⟩
    exact ⟨a, e1, f1, e3, e4.up e f2⟩
theorem EnvR.laid {G : Gh} {k : Nat} {ρ : Slots} {σ : St} {H F : Hp} {p : Addr} {o : HO} (h : EnvR K G k ρ σ H F) (n : H p = none) : EnvR K G k ρ σ (upd H p o) (upd F p o) ∧ Same F (upd F p o) := by
  obtain ⟨nF, nB, nT⟩ := h.toHeR.free n
  have up : Same F (upd F p o) := fun b u e => by rw [upd_ne (ne_of_none e nF)]; exact e
  refine ⟨h.grown (h.toHeR.laid n) up fun a e1 e2 ⟨u, e3⟩ _ => ?_, up⟩
  have ne : a ≠ p := ne_of_none e3 n
  exact ⟨by rw [upd_ne ne]; exact e1, by rw [upd_ne ne]⟩
theorem EnvR.put {G : Gh} {k : Nat} {ρ : Slots} {σ : St} {H F : Hp} {p : Addr} {o : HO} (h : EnvR K G k ρ σ H F) (nF : F p = none) (nB : G.B p = none) (no : ∀ (i : Nat) (w : Own), ρ[i]? = some (.own w) → σ[i]? ≠ some (some (.ref p))) : EnvR K G k ρ σ (upd H p o) F := by
  refine h.grown (h.toHeR.put nF nB) (Same.refl F) fun a e1 e2 _ ⟨i, w, q1, q2⟩ => ⟨e1, ?_⟩
  rw [upd_ne]
  rintro rfl
  exact no i w q1 q2
theorem EnvR.ownNew {G : Gh} {k : Nat} {ρ : Slots} {σ : St} {H F : Hp} {p : Addr} (h : EnvR K G k ρ σ H F) (n : H p = none) : ∀ (i : Nat) (w : Own), ρ[i]? = some (.own w) → σ[i]? ≠ some (some (.ref p)) := fun i w q e => by
  obtain ⟨a, e1, _, _, e4⟩ := h.sl i _ q
  rw [e] at e1
  cases e1
  obtain ⟨u, e5⟩ := e4.there
  rw [n] at e5
  cases e5
/-- the slot i is set -/
theorem EnvR.setD {G : Gh} {k : Nat} {ρ : Slots} {σ : St} {H F : Hp} {v : V} {x : PyData} (h : EnvR K G k ρ σ H F) (i : Nat) (q : Dt K F v x) : EnvR K G k (ρ.set i (.d x)) (σ.set i (some v)) H F := by
  refine ⟨h.toHeR, by rw [List.length_set, List.length_set]; exact h.len, fun j s e => ?_, fun j j' o p a ne e1 e2 e3 e4 => ?_⟩
  · by_cases z : i = j
    · subst z
      by_cases zl : i < ρ.length
      · rw [List.getElem?_set_self zl] at e
        cases e
        exact ⟨v, by rw [List.getElem?_set_self (by rw [← h.len]; exact zl)], q⟩
      · rw [List.getElem?_eq_none (by rw [List.length_set]; omega)] at e
        cases e
    · rw [List.getElem?_set_ne z] at e ⊢
      exact h.sl j s e
  · have n1 : i ≠ j := by
      rintro rfl
      by_cases zl : i < ρ.length
      · rw [List.getElem?_set_self zl] at e1; cases e1
      · rw [List.getElem?_eq_none (by rw [List.length_set]; omega)] at e1; cases e1
    have n2 : i ≠ j' := by
      rintro rfl
      by_cases zl : i < ρ.length
      · rw [List.getElem?_set_self zl] at e2; cases e2
      · rw [List.getElem?_eq_none (by rw [List.length_set]; omega)] at e2; cases e2
    rw [List.getElem?_set_ne n1] at e1 e3
    rw [List.getElem?_set_ne n2] at e2 e4
    exact h.apart j j' o p a ne e1 e2 e3 e4
theorem EnvR.setOwn {G : Gh} {k : Nat} {ρ : Slots} {σ : St} {H F : Hp} {a : Addr} {w : Own} (h : EnvR K G k ρ σ H F) (i : Nat) (nF : F a = none) (nB : G.B a = none) (q : OwnOk K F H a w)
    (no : ∀ (j : Nat) (u : Own), j ≠ i → ρ[j]? = some (.own u) → σ[j]? ≠ some (some (.ref a))) : EnvR K G k (ρ.set i (.own w)) (σ.set i (some (.ref a))) H F := by
  refine ⟨h.toHeR, by rw [List.length_set, List.length_set]; exact h.len, fun j s e => ?_, fun j j' o p b ne e1 e2 e3 e4 => ?_⟩
  · by_cases z : i = j
    · subst z
      by_cases zl : i < ρ.length
      · rw [List.getElem?_set_self zl] at e
        cases e
        exact ⟨a, by rw [List.getElem?_set_self (by rw [← h.len]; exact zl)], nF, nB, q⟩
      · rw [List.getElem?_eq_none (by rw [List.length_set]; omega)] at e
        cases e
    · rw [List.getElem?_set_ne z] at e ⊢
      exact h.sl j s e
  · by_cases z1 : i = j
    · subst z1
      have z2 : i ≠ j' := ne
      have il : i < σ.length := by
        by_cases zl : i < σ.length
        · exact zl
        · rw [List.getElem?_eq_none (by rw [List.length_set]; omega)] at e3; cases e3
      rw [List.getElem?_set_self il] at e3
      cases e3
      rw [List.getElem?_set_ne z2] at e2 e4
      exact no j' p (Ne.symm z2) e2 e4
    · by_cases z2 : i = j'
      · subst z2
        have il : i < σ.length := by
          by_cases zl : i < σ.length
          · exact zl
          · rw [List.getElem?_eq_none (by rw [List.length_set]; omega)] at e4; cases e4
        rw [List.getElem?_set_self il] at e4
        cases e4
        rw [List.getElem?_set_ne z1] at e1 e3
        exact no j o (Ne.symm z1) e1 e3
      · rw [List.getElem?_set_ne z1] at e1 e3
        rw [List.getElem?_set_ne z2] at e2 e4
        exact h.apart j j' o p b ne e1 e2 e3 e4
end

/-! ### readings over data -/
abbrev DT := Slots → Nat → (PyData → Slots → Nat → Prop) → Prop
abbrev DB := Slots → Nat → (Bool → Slots → Nat → Prop) → Prop
abbrev DL := Slots → Nat → (List PyData → Slots → Nat → Prop) → Prop
abbrev DA := Slots → Nat → (List Ar → Slots → Nat → Prop) → Prop
structure DEnds where
  nx : Slots → Nat → Prop
  rt : PyData → Nat → Prop
  bk : Slots → Nat → Prop := fun _ _ => False
  ct : Slots → Nat → Prop := fun _ _ => False
abbrev DTS := DEnds → Slots → Nat → Prop

def ArOk (K : PySem.W.Frag) (T : Addr) (F : Hp) : Ar → V → Prop
  | .d x, v => Dt K F v x
  | .tap, v => v = .ref T
inductive ArAll (K : PySem.W.Frag) (T : Addr) (F : Hp) : List Ar → List V → Prop
  | nil : ArAll K T F [] []
  | cons {a : Ar} {v : V} {as : List Ar} {vs : List V} : ArOk K T F a v → ArAll K T F as vs → ArAll K T F (a :: as) (v :: vs)
theorem ArOk.up {K : PySem.W.Frag} {T : Addr} {F F' : Hp} (e : Same F F') {a : Ar} {v : V} (h : ArOk K T F a v) : ArOk K T F' a v := by
  cases a with
  | d x => exact Dt.up e h
  | tap => exact h
theorem ArAll.up {K : PySem.W.Frag} {T : Addr} {F F' : Hp} (e : Same F F') : ∀ {as : List Ar} {vs : List V}, ArAll K T F as vs → ArAll K T F' as vs
  | _, _, .nil => .nil
  | _, _, .cons h r => .cons (ArOk.up e h) (ArAll.up e r)
theorem ArAll.len {K : PySem.W.Frag} {T : Addr} {F : Hp} : ∀ {as : List Ar} {vs : List V}, ArAll K T F as vs → as.length = vs.length
  | _, _, .nil => rfl
  | _, _, .cons _ r => by rw [List.length_cons, List.length_cons, ArAll.len r]

def cE (K : PySem.W.Frag) (f : DT) : TE := fun σ H R => ∃ G k ρ F Q, EnvR K G k ρ σ H F ∧ f ρ k Q ∧
  ∀ {ρ'} v H' F' k' x, EnvR K G k' ρ' σ H' F' → Same F F' → Dt K F' v x → Q x ρ' k' → R v H'
def cT (K : PySem.W.Frag) (f : DB) : TT := fun σ H R => ∃ G k ρ F Q, EnvR K G k ρ σ H F ∧ f ρ k Q ∧
  ∀ {ρ'} b H' F' k', EnvR K G k' ρ' σ H' F' → Same F F' → Q b ρ' k' → R b H'
def cL (K : PySem.W.Frag) (f : DL) : TA := fun σ H R => ∃ G k ρ F Q, EnvR K G k ρ σ H F ∧ f ρ k Q ∧
  ∀ {ρ'} vs H' F' k' xs, EnvR K G k' ρ' σ H' F' → Same F F' → DtAll K F' vs xs → Q xs ρ' k' → R vs H'
def cA (K : PySem.W.Frag) (f : DA) : TA := fun σ H R => ∃ G k ρ F Q, EnvR K G k ρ σ H F ∧ f ρ k Q ∧
  ∀ {ρ'} vs H' F' k' as, EnvR K G k' ρ' σ H' F' → Same F F' → ArAll K G.T F' as vs → Q as ρ' k' → R vs H'
def cS (K : PySem.W.Frag) (t : DTS) : TS := fun E σ H => ∃ G k ρ F D, EnvR K G k ρ σ H F ∧ t D ρ k ∧
  (∀ σ' H' F' k' ρ', EnvR K G k' ρ' σ' H' F' → Same F F' → D.nx ρ' k' → E.nx σ' H') ∧
  (∀ v H' F' k' x, HeR K G k' H' F' → Same F F' → Dt K F' v x → D.rt x k' → E.rt v H') ∧
  (∀ σ' H' F' k' ρ', EnvR K G k' ρ' σ' H' F' → Same F F' → D.bk ρ' k' → E.bk σ' H') ∧
  (∀ σ' H' F' k' ρ', EnvR K G k' ρ' σ' H' F' → Same F F' → D.ct ρ' k' → E.ct σ' H')
/-- a new list that no one holds: its items -/
def cN (K : PySem.W.Frag) (f : DL) : TE := fun σ H R => ∃ G k ρ F Q, EnvR K G k ρ σ H F ∧ f ρ k Q ∧
  ∀ {ρ'} a H' F' k' vs xs, EnvR K G k' ρ' σ H' F' → Same F F' → F' a = none → G.B a = none → (∀ (i : Nat) (w : Own), ρ'[i]? = some (.own w) → σ[i]? ≠ some (some (.ref a))) → H' a = some (.lst vs) → DtAll K F' vs xs → Q xs ρ' k' → R (.ref a) H'

abbrev DE (X : Cx) (e : Expr) (f : DT) : Prop := PE X e (cE X.K f)
abbrev DN (X : Cx) (e : Expr) (f : DL) : Prop := PE X e (cN X.K f)
abbrev DPt (X : Cx) (e : Expr) (f : DB) : Prop := PT X e (cT X.K f)
abbrev DLs (X : Cx) (es : List Expr) (f : DL) : Prop := PA X es (cL X.K f)
abbrev DAs (X : Cx) (es : List Expr) (f : DA) : Prop := PA X es (cA X.K f)
abbrev DS (X : Cx) (st : Stmt) (t : DTS) : Prop := PS X st (cS X.K t)
abbrev DSs (X : Cx) (st : List Stmt) (t : DTS) : Prop := PSs X st (cS X.K t)

section
variable {X : Cx}
theorem peW {e : Expr} {t t' : TE} (h : PE X e t) (w : ∀ σ H R, t' σ H R → t σ H R) : PE X e t' := ⟨fun pins s σ H Q I q => h.run pins s σ H Q I (w _ _ _ q)⟩
theorem ptW {e : Expr} {t t' : TT} (h : PT X e t) (w : ∀ σ H R, t' σ H R → t σ H R) : PT X e t' := ⟨fun pins s σ H Q I q => h.run pins s σ H Q I (w _ _ _ q)⟩
theorem paW {es : List Expr} {t t' : TA} (h : PA X es t) (w : ∀ σ H R, t' σ H R → t σ H R) : PA X es t' := ⟨fun pos pins s σ H Q I q => h.run pos pins s σ H Q I (w _ _ _ q)⟩
theorem psW {st : Stmt} {t t' : TS} (h : PS X st t) (w : ∀ D σ H, t' D σ H → t D σ H) : PS X st t' := ⟨fun pins s σ H D I q => h.run pins s σ H D I (w _ _ _ q)⟩
theorem pssW {st : List Stmt} {t t' : TS} (h : PSs X st t) (w : ∀ D σ H, t' D σ H → t D σ H) : PSs X st t' := ⟨fun pins s σ H D I q => h.run pins s σ H D I (w _ _ _ q)⟩

/-- how long lists and tuples are -/
def HB (K : PySem.W.Frag) (H : Hp) : Prop := ∀ a xs, SqL K H a xs ∨ SqT K H a xs → xs.length ≤ sizeLine
theorem hb_of {pins : List (Addr × Obj)} {σ : St} {H : Hp} {s : Shared} (I : Inv X pins σ H s) : HB X.K H := by
  rintro a xs (h | h)
  · obtain ⟨_, _, _, z⟩ := I.list h; exact z
  · obtain ⟨_, _, _, z⟩ := I.tuple h; exact z
/-- what is known ahead of it and behind -/
theorem peB {e : Expr} {t : TE} (h : PE X e t) : PE X e (fun σ H R => HB X.K H → t σ H fun v H' => HB X.K H' → R v H') := by
  constructor
  intro pins s σ H Q I q
  refine thn (h.run pins s σ H _ I (q (hb_of I))) ?_
  rintro u s' ⟨v, H', I', r, z⟩
  exact ⟨v, H', I', r, z (hb_of I')⟩
theorem paB {es : List Expr} {t : TA} (h : PA X es t) : PA X es (fun σ H R => HB X.K H → t σ H fun v H' => HB X.K H' → R v H') := by
  constructor
  intro pos pins s σ H Q I q
  refine thn (h.run pos pins s σ H _ I (q (hb_of I))) ?_
  rintro u s' ⟨v, H', I', r, z⟩
  exact ⟨v, H', I', r, z (hb_of I')⟩
theorem cEI {K : PySem.W.Frag} {f : DT} {σ : St} {H : Hp} {R : VK} {G : Gh} {k : Nat} {ρ : Slots} {F : Hp} {Q : PyData → Slots → Nat → Prop} (en : EnvR K G k ρ σ H F) (q : f ρ k Q)
    (r : ∀ {ρ'} v H' F' k' x, EnvR K G k' ρ' σ H' F' → Same F F' → Dt K F' v x → Q x ρ' k' → R v H') : cE K f σ H R := ⟨G, k, ρ, F, Q, en, q, r⟩
theorem cLI {K : PySem.W.Frag} {f : DL} {σ : St} {H : Hp} {R : List V → Hp → Prop} {G : Gh} {k : Nat} {ρ : Slots} {F : Hp} {Q : List PyData → Slots → Nat → Prop} (en : EnvR K G k ρ σ H F) (q : f ρ k Q)
    (r : ∀ {ρ'} vs H' F' k' xs, EnvR K G k' ρ' σ H' F' → Same F F' → DtAll K F' vs xs → Q xs ρ' k' → R vs H') : cL K f σ H R := ⟨G, k, ρ, F, Q, en, q, r⟩
theorem cAI {K : PySem.W.Frag} {f : DA} {σ : St} {H : Hp} {R : List V → Hp → Prop} {G : Gh} {k : Nat} {ρ : Slots} {F : Hp} {Q : List Ar → Slots → Nat → Prop} (en : EnvR K G k ρ σ H F) (q : f ρ k Q)
    (r : ∀ {ρ'} vs H' F' k' as, EnvR K G k' ρ' σ H' F' → Same F F' → ArAll K G.T F' as vs → Q as ρ' k' → R vs H') : cA K f σ H R := ⟨G, k, ρ, F, Q, en, q, r⟩
theorem cTI {K : PySem.W.Frag} {f : DB} {σ : St} {H : Hp} {R : Bool → Hp → Prop} {G : Gh} {k : Nat} {ρ : Slots} {F : Hp} {Q : Bool → Slots → Nat → Prop} (en : EnvR K G k ρ σ H F) (q : f ρ k Q)
    (r : ∀ {ρ'} b H' F' k', EnvR K G k' ρ' σ H' F' → Same F F' → Q b ρ' k' → R b H') : cT K f σ H R := ⟨G, k, ρ, F, Q, en, q, r⟩

/-! ### names, constants -/
def asD (o : Option Sl) (P : PyData → Prop) : Prop := match o with
  | some (.d x) => P x
  | _ => False
def dVar (i : Nat) : DT := fun ρ k Q => asD ρ[i]? fun x => Q x ρ k
def dC (x : PyData) : DT := fun ρ k Q => Q x ρ k
theorem de_var (i : Nat) {x : Str} {pos : Pos} (hN : X.N[i]? = some x := by rfl) (hv : Vis X.env.scope x := by first | exact Or.inl rfl | exact Or.inr (Or.inl rfl) | exact Or.inr (Or.inr rfl)) (n1 : (x == ("__debug__" : Str)) = false := by decide)
    (n2 : (x == ("__classdict__" : Str)) = false := by decide) : DE X (.Name x pos) (dVar i) := by
  refine peW (pv i hN hv n1 n2) ?_
  rintro σ H R ⟨G, k, ρ, F, Q, en, hf, r⟩
  unfold dVar asD at hf
  split at hf
  · rename_i y e
    obtain ⟨v, e1, e2⟩ := en.sl i _ e
    exact ⟨v, e1, r v H F k _ en (Same.refl F) e2 hf⟩
  · exact hf.elim
theorem deC {e : Expr} {v : V} {x : PyData} (h : PE X e (tC v)) (d : ∀ F, Dt X.K F v x) : DE X e (dC x) := by
  refine peW h ?_
  rintro σ H R ⟨G, k, ρ, F, Q, en, hf, r⟩
  exact r v H F k x en (Same.refl F) (d F) hf
theorem de_int {i : Int} {j pos} : DE X (.Constant (.int i) j pos) (dC (.int i)) := deC pe_int fun _ => .int i
theorem de_bl {b : Bool} {j pos} : DE X (.Constant (.bool b) j pos) (dC (.bool b)) := deC pe_bl fun _ => .bl b
theorem de_non {j pos} : DE X (.Constant .none j pos) (dC .none) := deC pe_non fun _ => .non
theorem de_str {x : Str} {j pos} : DE X (.Constant (.str x) j pos) (dC (.str x)) := deC pe_str fun _ => .str x

/-! ### operators -/
def asI (x : PyData) (P : Int → Prop) : Prop := match x with
  | .int i => P i
  | _ => False
def asS (x : PyData) (P : Str → Prop) : Prop := match x with
  | .str i => P i
  | _ => False
def asT (x : PyData) (P : List PyData → Prop) : Prop := match x with
  | .tuple i => P i
  | _ => False
def asL (x : PyData) (P : List PyData → Prop) : Prop := match x with
  | .list i => P i
  | _ => False
def asB (x : PyData) (P : Bool → Prop) : Prop := match x with
  | .bool i => P i
  | _ => False
theorem asI_of {x : PyData} {P : Int → Prop} (h : asI x P) : ∃ i, x = .int i ∧ P i := by
  unfold asI at h; split at h
  · exact ⟨_, rfl, h⟩
  · exact h.elim
theorem asS_of {x : PyData} {P : Str → Prop} (h : asS x P) : ∃ i, x = .str i ∧ P i := by
  unfold asS at h; split at h
  · exact ⟨_, rfl, h⟩
  · exact h.elim
theorem asT_of {x : PyData} {P : List PyData → Prop} (h : asT x P) : ∃ i, x = .tuple i ∧ P i := by
  unfold asT at h; split at h
  · exact ⟨_, rfl, h⟩
  · exact h.elim
theorem asL_of {x : PyData} {P : List PyData → Prop} (h : asL x P) : ∃ i, x = .list i ∧ P i := by
  unfold asL at h; split at h
  · exact ⟨_, rfl, h⟩
  · exact h.elim
theorem asB_of {x : PyData} {P : Bool → Prop} (h : asB x P) : ∃ i, x = .bool i ∧ P i := by
  unfold asB at h; split at h
  · exact ⟨_, rfl, h⟩
  · exact h.elim
/-- an operation on data: what it asks and gives -/
def dOp (r : PyData → PyData → (PyData → Prop) → Prop) (fa fb : DT) : DT := fun ρ k Q => fa ρ k fun x ρ1 k1 => fb ρ1 k1 fun y ρ2 k2 => r x y fun z => Q z ρ2 k2
/-- a rule over values serves one over data -/
def Serves (K : PySem.W.Frag) (r : R2) (d : PyData → PyData → (PyData → Prop) → Prop) : Prop :=
  ∀ (G : Gh) (k : Nat) (ρ : Slots) (σ : St) (F H : Hp) (x y : V) (a b : PyData) (P : PyData → Prop) (R : VK), EnvR K G k ρ σ H F → HB K H → Dt K F x a → Dt K F y b → d a b P →
    (∀ v z F' H', EnvR K G k ρ σ H' F' → Same F F' → Dt K F' v z → P z → R v H') → r x y H R
theorem opD {e : Expr} {a b : Expr} {r : R2} {d : PyData → PyData → (PyData → Prop) → Prop} {fa fb : DT} (mk : ∀ {ta tb : TE}, PE X a ta → PE X b tb → PE X e (tOp r ta tb)) (sv : Serves X.K r d) (ha : DE X a fa) (hb : DE X b fb) : DE X e (dOp d fa fb) := by
  refine peW (mk (peB ha) (peB hb)) ?_
  rintro σ H R ⟨G, k, ρ, F, Q, en, hf, q⟩ _
  refine cEI en hf ?_
  intro ρ1 v1 H1 F1 k1 x1 en1 s1 d1 hf1 hb1 _
  refine cEI en1 hf1 ?_
  intro ρ2 v2 H2 F2 k2 x2 en2 s2 d2 hf2 hb2
  refine sv G k2 ρ2 σ F2 H2 v1 v2 x1 x2 _ _ en2 hb2 (Dt.up s2 d1) d2 hf2 ?_
  intro v z F' H' en3 s3 dz pz
  exact q v H' F' k2 z en3 ((s1.trans s2).trans s3) dz pz
/-- .. as a test -/
def dTest (f : DT) : DB := fun ρ k Q => f ρ k fun x ρ1 k1 => asB x fun b => Q b ρ1 k1
theorem opT {e : Expr} {a b : Expr} {r : R2} {d : PyData → PyData → (PyData → Prop) → Prop} {fa fb : DT} (mk : ∀ {ta tb : TE}, PE X a ta → PE X b tb → PT X e (tTest (tOp r ta tb))) (sv : Serves X.K r d) (ha : DE X a fa) (hb : DE X b fb) : DPt X e (dTest (dOp d fa fb)) := by
  refine ptW (mk (peB ha) (peB hb)) ?_
  rintro σ H R ⟨G, k, ρ, F, Q, en, hf, q⟩ _
  refine cEI en hf ?_
  intro ρ1 v1 H1 F1 k1 x1 en1 s1 d1 hf1 hb1 _
  refine cEI en1 hf1 ?_
  intro ρ2 v2 H2 F2 k2 x2 en2 s2 d2 hf2 hb2
  refine sv G k2 ρ2 σ F2 H2 v1 v2 x1 x2 _ _ en2 hb2 (Dt.up s2 d1) d2 hf2 ?_
  intro v z F' H' en3 s3 dz pz
  obtain ⟨bb, rfl, pw⟩ := asB_of pz
  cases dz
  exact ⟨bb, rfl, q bb H' F' k2 en3 ((s1.trans s2).trans s3) pw⟩
theorem ptD {e : Expr} {f : DT} (h : DE X e f) (he : ∀ whole, isTrue e X.env whole = (do let v ← whole; standAt e.pos; holding [v] (truthy v)) := by intro _; rfl) : DPt X e (dTest f) := by
  refine ptW (pt_val h he) ?_
  rintro σ H R ⟨G, k, ρ, F, Q, en, hf, q⟩
  refine cEI en hf ?_
  intro ρ1 v H' F' k' x en1 s1 d1 pz
  obtain ⟨bb, rfl, pw⟩ := asB_of pz
  cases d1
  exact ⟨bb, rfl, q bb H' F' k' en1 s1 pw⟩
def dI (C : Int → Int → Prop) (g : Int → Int → PyData) : PyData → PyData → (PyData → Prop) → Prop := fun x y P => asI x fun i => asI y fun j => C i j ∧ P (g i j)
theorem svI {K : PySem.W.Frag} {C : Int → Int → Prop} {g : Int → Int → V} {g' : Int → Int → PyData} (h : ∀ i j F, Dt K F (g i j) (g' i j)) : Serves K (rI C g) (dI C g') := by
  intro G k ρ σ F H x y a b P R en _ dx dy q r
  obtain ⟨i, rfl, q1⟩ := asI_of q
  obtain ⟨j, rfl, c, q2⟩ := asI_of q1
  exact ⟨i, j, dx.inv_int, dy.inv_int, c, r _ _ F H en (Same.refl F) (h i j F) q2⟩
theorem svI0 {K : PySem.W.Frag} {g : Int → Int → V} {g' : Int → Int → PyData} (h : ∀ i j F, Dt K F (g i j) (g' i j)) : Serves K (rI0 g) (dI (fun _ _ => True) g') := by
  intro G k ρ σ F H x y a b P R en _ dx dy q r
  obtain ⟨i, rfl, q1⟩ := asI_of q
  obtain ⟨j, rfl, c, q2⟩ := asI_of q1
  exact ⟨i, j, dx.inv_int, dy.inv_int, r _ _ F H en (Same.refl F) (h i j F) q2⟩
end
end Wc

namespace Wc
open PySem PySem.Spec PyProof.Rows L2
section
variable {X : Cx}
/-! ### lists of expressions -/
def dNil : DL := fun ρ k Q => Q [] ρ k
def dCons (fa : DT) (fr : DL) : DL := fun ρ k Q => fa ρ k fun x ρ1 k1 => fr ρ1 k1 fun xs ρ2 k2 => Q (x :: xs) ρ2 k2
theorem dl_nil : DLs X [] dNil := by
  refine paW pa_nil ?_
  rintro σ H R ⟨G, k, ρ, F, Q, en, hf, q⟩
  exact q [] H F k [] en (Same.refl F) .nil hf
theorem dl_cons {e : Expr} {es : List Expr} {fa : DT} {fr : DL} (ha : DE X e fa) (hr : DLs X es fr) (hs : starEach (e :: es) X.env = (false, eval e X.env) :: starEach es X.env := by rfl) : DLs X (e :: es) (dCons fa fr) := by
  refine paW (pa_cons ha hr hs) ?_
  rintro σ H R ⟨G, k, ρ, F, Q, en, hf, q⟩
  refine cEI en hf ?_
  intro ρ1 v H1 F1 k1 x en1 s1 d1 hf1
  refine cLI en1 hf1 ?_
  intro ρ2 vs H2 F2 k2 xs en2 s2 d2 hf2
  exact q (v :: vs) H2 F2 k2 (x :: xs) en2 (s1.trans s2) (.cons (Dt.up s2 d1) d2) hf2
def aNil : DA := fun ρ k Q => Q [] ρ k
def aCons (fa : DT) (fr : DA) : DA := fun ρ k Q => fa ρ k fun x ρ1 k1 => fr ρ1 k1 fun xs ρ2 k2 => Q (.d x :: xs) ρ2 k2
def asTap (o : Option Sl) (P : Prop) : Prop := match o with
  | some .tap => P
  | _ => False
def aTap (i : Nat) (fr : DA) : DA := fun ρ k Q => asTap ρ[i]? (fr ρ k fun xs ρ2 k2 => Q (.tap :: xs) ρ2 k2)
theorem da_nil : DAs X [] aNil := by
  refine paW pa_nil ?_
  rintro σ H R ⟨G, k, ρ, F, Q, en, hf, q⟩
  exact q [] H F k [] en (Same.refl F) .nil hf
theorem da_cons {e : Expr} {es : List Expr} {fa : DT} {fr : DA} (ha : DE X e fa) (hr : DAs X es fr) (hs : starEach (e :: es) X.env = (false, eval e X.env) :: starEach es X.env := by rfl) : DAs X (e :: es) (aCons fa fr) := by
  refine paW (pa_cons ha hr hs) ?_
  rintro σ H R ⟨G, k, ρ, F, Q, en, hf, q⟩
  refine cEI en hf ?_
  intro ρ1 v H1 F1 k1 x en1 s1 d1 hf1
  refine cAI en1 hf1 ?_
  intro ρ2 vs H2 F2 k2 xs en2 s2 d2 hf2
  exact q (v :: vs) H2 F2 k2 (.d x :: xs) en2 (s1.trans s2) (.cons (show ArOk _ _ _ (.d x) v from Dt.up s2 d1) d2) hf2
theorem da_tap (i : Nat) {x : Str} {pos : Pos} {es : List Expr} {fr : DA} (hr : DAs X es fr) (hN : X.N[i]? = some x := by rfl) (hv : Vis X.env.scope x := by first | exact Or.inl rfl | exact Or.inr (Or.inl rfl) | exact Or.inr (Or.inr rfl)) (n1 : (x == ("__debug__" : Str)) = false := by decide)
    (n2 : (x == ("__classdict__" : Str)) = false := by decide) (hs : starEach (.Name x pos :: es) X.env = (false, eval (.Name x pos) X.env) :: starEach es X.env := by rfl) : DAs X (.Name x pos :: es) (aTap i fr) := by
  refine paW (pa_cons (pv i hN hv n1 n2) hr hs) ?_
  rintro σ H R ⟨G, k, ρ, F, Q, en, hf, q⟩
  unfold aTap asTap at hf
  split at hf
  · rename_i e
    have e1 : σ[i]? = some (some (.ref G.T)) := en.sl i _ e
    refine ⟨_, e1, ?_⟩
    refine cAI en hf ?_
    intro ρ2 vs H2 F2 k2 xs en2 s2 d2 hf2
    exact q _ H2 F2 k2 (.tap :: xs) en2 s2 (.cons rfl d2) hf2
  · exact hf.elim

/-! ### displays -/
def dTup (f : DL) : DT := fun ρ k Q => f ρ k fun xs ρ1 k1 => xs.length ≤ sizeLine ∧ Q (.tuple xs) ρ1 k1
theorem de_tup {es : List Expr} {f : DL} {x1 : Nat} {pos : Pos} (h : DLs X es f) : DE X (.Tuple es x1 pos) (dTup f) := by
  refine peW (pe_tup h) ?_
  rintro σ H R ⟨G, k, ρ, F, Q, en, hf, q⟩
  refine cLI en hf ?_
  rintro ρ1 vs H1 F1 k1 xs en1 s1 d1 ⟨hz, pz⟩
  refine ⟨by rw [DtAll.len d1]; exact hz, fun p hp => ?_⟩
  obtain ⟨en2, s2⟩ := en1.laid (o := .tup vs) hp
  exact q _ _ _ k1 _ en2 (s1.trans s2) (.tup (.inl (.inl upd_same)) (DtAll.up s2 d1)) pz
theorem ownFresh {K : PySem.W.Frag} {G : Gh} {k : Nat} {ρ : Slots} {σ : St} {H F : Hp} {p : Addr} {vs : List V} (en : EnvR K G k ρ σ H F) (hp : H p = none) : EnvR K G k ρ σ (upd H p (.lst vs)) F ∧ F p = none ∧ G.B p = none ∧
    (∀ (i : Nat) (w : Own), ρ[i]? = some (.own w) → σ[i]? ≠ some (some (.ref p))) := by
  obtain ⟨nF, nB, nT⟩ := en.toHeR.free hp
  have no := en.ownNew hp
  exact ⟨en.put nF nB no, nF, nB, no⟩
def nList (f : DL) : DL := fun ρ k Q => f ρ k fun xs ρ1 k1 => xs.length ≤ sizeLine ∧ Q xs ρ1 k1
theorem dn_lst {es : List Expr} {f : DL} {pos : Pos} (h : DLs X es f) : DN X (.List es pos) (nList f) := by
  refine peW (pe_lst h) ?_
  rintro σ H R ⟨G, k, ρ, F, Q, en, hf, q⟩
  refine cLI en hf ?_
  rintro ρ1 vs H1 F1 k1 xs en1 s1 d1 ⟨hz, pz⟩
  refine ⟨by rw [DtAll.len d1]; exact hz, fun p hp => ?_⟩
  obtain ⟨en2, nF, nB, no⟩ := ownFresh (vs := vs) en1 hp
  exact q p _ F1 k1 vs xs en2 s1 nF nB no upd_same d1 pz
/-- a new list, frozen at once -/
def dList (f : DL) : DT := fun ρ k Q => f ρ k fun xs ρ1 k1 => Q (.list xs) ρ1 k1
theorem envFroze {K : PySem.W.Frag} {G : Gh} {k : Nat} {ρ : Slots} {σ : St} {H F : Hp} {p : Addr} {o : HO} (en : EnvR K G k ρ σ H F) (e : H p = some o) (nF : F p = none) (nB : G.B p = none)
    (no : ∀ (i : Nat) (w : Own), ρ[i]? = some (.own w) → σ[i]? ≠ some (some (.ref p))) : EnvR K G k ρ σ H (upd F p o) ∧ Same F (upd F p o) := by
  obtain ⟨h1, h2⟩ := en.toHeR.froze e nF nB
  refine ⟨en.grown h1 h2 fun a e1 e2 _ ⟨i, w, q1, q2⟩ => ⟨?_, rfl⟩, h2⟩
  rw [upd_ne]
  · exact e1
  · rintro rfl
    exact no i w q1 q2
theorem de_new {e : Expr} {f : DL} (h : DN X e f) : DE X e (dList f) := by
  refine peW h ?_
  rintro σ H R ⟨G, k, ρ, F, Q, en, hf, q⟩
  refine ⟨G, k, ρ, F, _, en, hf, ?_⟩
  intro ρ1 a H1 F1 k1 vs xs en1 s1 nF nB no e d pz
  obtain ⟨en2, s2⟩ := envFroze en1 e nF nB no
  exact q _ H1 _ k1 _ en2 (s1.trans s2) (.lst upd_same (DtAll.up s2 d)) pz

/-! ### calls -/
/-- a promise over data -/
abbrev DF := List Ar → Nat → (PyData → Nat → Prop) → Prop
def spD (K : PySem.W.Frag) (n : Nat) (g : DF) : Sp := fun vs H Q _ => vs.length = n ∧ ∃ (B F0 : Hp) (T : Addr) (k : Nat) (F : Hp) (as : List Ar) (P : PyData → Nat → Prop), HeR K ⟨B, F0, T⟩ k H F ∧ ArAll K T F as vs ∧ g as k P ∧
  ∀ v H' F' k' x, HeR K ⟨H, F, T⟩ k' H' F' → Dt K F' v x → P x k' → Q v H'
def dCall (g : DF) (f : DA) : DT := fun ρ k Q => f ρ k fun as ρ1 k1 => g as k1 fun x k2 => Q x ρ1 k2
/-- how many arguments come -/
def Many (fa : DA) (n : Nat) : Prop := ∀ ρ k Q, fa ρ k Q → fa ρ k fun as ρ1 k1 => as.length = n ∧ Q as ρ1 k1
theorem HeR.inner {K : PySem.W.Frag} {G : Gh} {k : Nat} {H F : Hp} (h : HeR K G k H F) : HeR K ⟨H, F, G.T⟩ k H F := by
  refine ⟨h.same, Same.refl F, fun a o e => .inl e, fun b o e _ => e, h.tapF, ?_, h.tap⟩
  obtain ⟨_, _, _, _, _, q, _⟩ := h.tap
  exact ⟨_, q⟩
theorem HeR.outer {K : PySem.W.Frag} {G : Gh} {k k' : Nat} {H F H' F' : Hp} (h : HeR K G k H F) (h' : HeR K ⟨H, F, G.T⟩ k' H' F') : HeR K G k' H' F' := by
  refine ⟨h'.same, h.ext.trans h'.ext, fun a o e => ?_, fun b o e nb => h'.base b o (h.base b o e nb) nb, h'.tapF, h.tapB, h'.tap⟩
  rcases h'.new a o e with z | z
  · exact h.new a o z
  · exact .inr (h.free z).2.1
theorem EnvR.outer {K : PySem.W.Frag} {G : Gh} {k k' : Nat} {ρ : Slots} {σ : St} {H F H' F' : Hp} (en : EnvR K G k ρ σ H F) (h' : HeR K ⟨H, F, G.T⟩ k' H' F') : EnvR K G k' ρ σ H' F' := by
  refine en.grown (en.toHeR.outer h') h'.ext fun a e1 e2 ⟨o, e3⟩ _ => ⟨?_, ?_⟩
  · cases q : F' a with
    | none => rfl
    | some u =>
      rcases h'.new a u q with z | z
      · exact absurd (e1.symm.trans z) nofun
      · exact absurd (e3.symm.trans z) nofun
  · rw [h'.base a o e3 (en.toHeR.bT e2), e3]
theorem de_call {CX : CXT} {j : Nat} {f : Addr} {fd : FuncData} {ps : List Str} {n : Nat} {g : DF} {dvs : List V} {E : XK} {x : Str} {p pos : Pos} {e : Expr} {es : List Expr} {fa : DA}
    (F : FnG X.prog X.w X.K X.mg X.base CX j f fd ps (spD X.K n g)) (room : Room j X.A) (gd : X.A.guards = some []) (gl : Gl X x) (hm : X.mg x = some (.ref f)) (kp : PySem.W.keepIn X.K (.ref f) = true)
    (bd : Binds X.K fd ps []) (px : Passes CX X E) (hn : (e :: es).length = n) (ha : DAs X (e :: es) fa) (hn2 : Many fa n) (nb : (x == ("__debug__" : Str)) = false := by decide)
    (st : starEach (e :: es) X.env = (false, eval e X.env) :: starEach es X.env := by rfl) (pl : (backTo pos (starEach es X.env)).any (·.1) = false := by rfl) :
    DE X (.Call (.Name x p) (e :: es) [] pos) (dCall g fa) := by
  refine peW (pe_callG F room gd gl hm kp bd .nil px ha nb st pl) ?_
  rintro σ H R ⟨G, k, ρ, F0, Q, en, hf, q⟩
  refine cAI en (hn2 _ _ _ hf) ?_
  rintro ρ1 vs H1 F1 k1 as en1 s1 d1 ⟨hl, pz⟩
  rw [List.append_nil]
  refine ⟨by rw [← ArAll.len d1, hl], G.B, G.F0, G.T, k1, F1, as, _, en1.toHeR, d1, pz, ?_⟩
  intro v H' F' k' x h' dx px
  exact q v H' F' k' x (en1.outer h') (s1.trans h'.ext) dx px
/-! ### statements -/
theorem cSI {K : PySem.W.Frag} {t : DTS} {E : Ends} {σ : St} {H : Hp} {G : Gh} {k : Nat} {ρ : Slots} {F : Hp} {D : DEnds} (en : EnvR K G k ρ σ H F) (q : t D ρ k)
    (h1 : ∀ σ' H' F' k' ρ', EnvR K G k' ρ' σ' H' F' → Same F F' → D.nx ρ' k' → E.nx σ' H') (h2 : ∀ v H' F' k' x, HeR K G k' H' F' → Same F F' → Dt K F' v x → D.rt x k' → E.rt v H')
    (h3 : ∀ σ' H' F' k' ρ', EnvR K G k' ρ' σ' H' F' → Same F F' → D.bk ρ' k' → E.bk σ' H') (h4 : ∀ σ' H' F' k' ρ', EnvR K G k' ρ' σ' H' F' → Same F F' → D.ct ρ' k' → E.ct σ' H') : cS K t E σ H :=
  ⟨G, k, ρ, F, D, en, q, h1, h2, h3, h4⟩
def sNext : DTS := fun D ρ k => D.nx ρ k
def sSeq (t u : DTS) : DTS := fun D ρ k => t { D with nx := u D } ρ k
theorem dss_nil : DSs X [] sNext := by
  refine pssW pss_nil ?_
  rintro E σ H ⟨G, k, ρ, F, D, en, q, h1, _⟩
  exact h1 σ H F k ρ en (Same.refl F) q
theorem dss_cons {st : Stmt} {rest : List Stmt} {t u : DTS} (a : DS X st t) (b : DSs X rest u) : DSs X (st :: rest) (sSeq t u) := by
  refine pssW (pss_cons a b) ?_
  rintro E σ H ⟨G, k, ρ, F, D, en, q, h1, h2, h3, h4⟩
  refine cSI en q ?_ h2 h3 h4
  intro σ' H' F' k' ρ' en1 s1 q1
  refine cSI en1 q1 (fun _ _ _ _ _ e s z => h1 _ _ _ _ _ e (s1.trans s) z) (fun _ _ _ _ _ e s z y => h2 _ _ _ _ _ e (s1.trans s) z y) (fun _ _ _ _ _ e s z => h3 _ _ _ _ _ e (s1.trans s) z) (fun _ _ _ _ _ e s z => h4 _ _ _ _ _ e (s1.trans s) z)
theorem dss_one {st : Stmt} {t : DTS} (a : DS X st t) : DSs X [st] t := pss_one a
def sRet (f : DT) : DTS := fun D ρ k => f ρ k fun x _ k1 => D.rt x k1
theorem ds_ret {e : Expr} {f : DT} {pos : Pos} (h : DE X e f) : DS X (.Return (some e) pos) (sRet f) := by
  refine psW (ps_ret h) ?_
  rintro E σ H ⟨G, k, ρ, F, D, en, q, h1, h2, h3, h4⟩
  refine cEI en q ?_
  intro ρ1 v H' F' k' x en1 s1 d1 pz
  exact h2 v H' F' k' x en1.toHeR s1 d1 pz
def sRetN : DTS := fun D _ k => D.rt .none k
theorem ds_retN {pos : Pos} : DS X (.Return none pos) sRetN := by
  refine psW ps_retN ?_
  rintro E σ H ⟨G, k, ρ, F, D, en, q, h1, h2, h3, h4⟩
  exact h2 _ H F k .none en.toHeR (Same.refl F) .non q
def sSet (i : Nat) (f : DT) : DTS := fun D ρ k => f ρ k fun x ρ1 k1 => D.nx (ρ1.set i (.d x)) k1
theorem ds_set (i : Nat) {x : Str} {e : Expr} {f : DT} {pos pos' : Pos} (hN : X.N.Nodup) (h : DE X e f) (hi : X.N[i]? = some x := by rfl) (hx : Loc X.env.scope x := by first | exact Or.inl rfl | exact Or.inr rfl)
    (hs : swapsWith e (some (.Name x pos')) pos.line X.env = pure false := by rfl) (hf : X.fn x = true ∨ X.env.scope.names.lookup x = some .local := by first | exact .inl rfl | exact .inr rfl) : DS X (.Assign [.Name x pos'] e pos) (sSet i f) := by
  refine psW (ps_set hN hi hx h hs hf) ?_
  rintro E σ H ⟨G, k, ρ, F, D, en, q, h1, h2, h3, h4⟩
  refine cEI en q ?_
  intro ρ1 v H' F' k' x en1 s1 d1 pz
  exact h1 _ H' F' k' _ (en1.setD i d1) s1 pz
/-- a list that may grow -/
def sOwn (i : Nat) (f : DL) : DTS := fun D ρ k => f ρ k fun xs ρ1 k1 => D.nx (ρ1.set i (.own (.l xs))) k1
theorem ds_own (i : Nat) {x : Str} {e : Expr} {f : DL} {pos pos' : Pos} (hN : X.N.Nodup) (h : DN X e f) (hi : X.N[i]? = some x := by rfl) (hx : Loc X.env.scope x := by first | exact Or.inl rfl | exact Or.inr rfl)
    (hs : swapsWith e (some (.Name x pos')) pos.line X.env = pure false := by rfl) (hf : X.fn x = true ∨ X.env.scope.names.lookup x = some .local := by first | exact .inl rfl | exact .inr rfl) : DS X (.Assign [.Name x pos'] e pos) (sOwn i f) := by
  refine psW (ps_set hN hi hx h hs hf) ?_
  rintro E σ H ⟨G, k, ρ, F, D, en, q, h1, h2, h3, h4⟩
  refine ⟨G, k, ρ, F, _, en, q, ?_⟩
  intro ρ1 a H' F' k' vs xs en1 s1 nF nB no e d pz
  exact h1 _ H' F' k' _ (en1.setOwn (w := .l xs) i nF nB ⟨vs, e, d⟩ fun j u _ e1 => no j u e1) s1 pz
def sDrop (f : DT) : DTS := fun D ρ k => f ρ k fun _ ρ1 k1 => D.nx ρ1 k1
theorem ds_expr {e : Expr} {f : DT} {pos : Pos} (h : DE X e f) (hs : swapsWith e none pos.line X.env = pure false := by rfl) : DS X (.Expr e pos) (sDrop f) := by
  refine psW (ps_expr h hs) ?_
  rintro E σ H ⟨G, k, ρ, F, D, en, q, h1, h2, h3, h4⟩
  refine cEI en q ?_
  intro ρ1 v H' F' k' x en1 s1 d1 pz
  exact h1 _ H' F' k' _ en1 s1 pz
def sIf (c : DB) (t u : DTS) : DTS := fun D ρ k => c ρ k fun b ρ1 k1 => if b = true then t D ρ1 k1 else u D ρ1 k1
theorem ds_if {c : Expr} {a b : List Stmt} {f : DB} {t u : DTS} {pos : Pos} (hc : DPt X c f) (ha : DSs X a t) (hb : DSs X b u) : DS X (.If c a b pos) (sIf f t u) := by
  refine psW (ps_if hc ha hb) ?_
  rintro E σ H ⟨G, k, ρ, F, D, en, q, h1, h2, h3, h4⟩
  refine cTI en q ?_
  intro ρ1 b H' F' k' en1 s1 pz
  cases b with
  | true =>
    refine iteT (cSI en1 (by simpa using pz) (fun _ _ _ _ _ e s z => h1 _ _ _ _ _ e (s1.trans s) z) (fun _ _ _ _ _ e s z y => h2 _ _ _ _ _ e (s1.trans s) z y) (fun _ _ _ _ _ e s z => h3 _ _ _ _ _ e (s1.trans s) z) (fun _ _ _ _ _ e s z => h4 _ _ _ _ _ e (s1.trans s) z))
  | false =>
    refine iteF (cSI en1 (by simpa using pz) (fun _ _ _ _ _ e s z => h1 _ _ _ _ _ e (s1.trans s) z) (fun _ _ _ _ _ e s z y => h2 _ _ _ _ _ e (s1.trans s) z y) (fun _ _ _ _ _ e s z => h3 _ _ _ _ _ e (s1.trans s) z) (fun _ _ _ _ _ e s z => h4 _ _ _ _ _ e (s1.trans s) z))
/-- a, b = e1, e2 -/
def sPar (i j : Nat) (f : DL) : DTS := fun D ρ k => f ρ k fun xs ρ1 k1 => match xs with
  | [x, y] => D.nx ((ρ1.set i (.d x)).set j (.d y)) k1
  | _ => False
theorem ds_par (i j : Nat) {x y : Str} {a b : Expr} {f : DL} {px py pt pos : Pos} {kt k2 pt2} (hc : X.calm = true) (hN : X.N.Nodup) (ha : DLs X [a, b] f) (hi : X.N[i]? = some x := by rfl) (hj : X.N[j]? = some y := by rfl) (hij : i ≠ j := by decide)
    (hx : X.env.scope.names.lookup x = some .local := by rfl) (hy : X.env.scope.names.lookup y = some .local := by rfl)
    (hw : swappedStores [.Tuple [.Name x px, .Name y py] kt pt] (.Tuple [a, b] k2 pt2) X.env = pure (some [x, y]) := by rfl)
    (hs : swapsWithSole [.Tuple [.Name x px, .Name y py] kt pt] (.Tuple [a, b] k2 pt2) pos.line X.env = pure false := by rfl) :
    DS X (.Assign [.Tuple [.Name x px, .Name y py] kt pt] (.Tuple [a, b] k2 pt2) pos) (sPar i j f) := by
  refine psW (ps_par hc hN hi hj hij hx hy ha hw hs) ?_
  rintro E σ H ⟨G, k, ρ, F, D, en, q, h1, h2, h3, h4⟩
  refine cLI en q ?_
  intro ρ1 vs H' F' k' xs en1 s1 d1 pz
  split at pz
  · rename_i x1 y1
    cases d1 with
    | cons dx r =>
      cases r with
      | cons dy r2 =>
        cases r2
        exact ⟨_, _, rfl, h1 _ H' F' k' _ ((en1.setD i dx).setD j dy) s1 pz⟩
  · exact pz.elim

/-! ### tests -/
def bNot (f : DB) : DB := fun ρ k Q => f ρ k fun b ρ1 k1 => Q (!b) ρ1 k1
theorem dpt_not {a : Expr} {f : DB} {pos : Pos} (h : DPt X a f) : DPt X (.UnaryOp .Not a pos) (bNot f) := by
  refine ptW (pt_not h) ?_
  rintro σ H R ⟨G, k, ρ, F, Q, en, hf, q⟩
  exact cTI en hf fun b H' F' k' en1 s1 pz => q _ H' F' k' en1 s1 pz
abbrev DW (X : Cx) (e : Expr) (f : DB) : Prop := PW X e (cT X.K f)
theorem pwW {e : Expr} {t t' : TT} (h : PW X e t) (w : ∀ σ H R, t' σ H R → t σ H R) : PW X e t' := ⟨fun wh pins s σ H Q I q => h.run wh pins s σ H Q I (w _ _ _ q)⟩
def bAnd (f g : DB) : DB := fun ρ k Q => f ρ k fun b ρ1 k1 => if b = true then g ρ1 k1 Q else Q false ρ1 k1
def bOr (f g : DB) : DB := fun ρ k Q => f ρ k fun b ρ1 k1 => if b = true then Q true ρ1 k1 else g ρ1 k1 Q
theorem dw_and1 {a : Expr} {f : DB} {pos : Pos} (h : DPt X a f) : DW X (.BoolOp .And [a] pos) f := pw_and1 h
theorem dw_or1 {a : Expr} {f : DB} {pos : Pos} (h : DPt X a f) : DW X (.BoolOp .Or [a] pos) f := pw_or1 h
theorem dw_and {a b : Expr} {rest : List Expr} {f g : DB} {pos : Pos} (h : DPt X a f) (h2 : DW X (.BoolOp .And (b :: rest) pos) g) : DW X (.BoolOp .And (a :: b :: rest) pos) (bAnd f g) := by
  refine pwW (pw_and h h2) ?_
  rintro σ H R ⟨G, k, ρ, F, Q, en, hf, q⟩
  refine cTI en hf fun b H' F' k' en1 s1 pz => ?_
  cases b with
  | true => exact iteT (cTI en1 (by simpa using pz) fun _ _ _ _ e s z => q _ _ _ _ e (s1.trans s) z)
  | false => exact iteF (q _ _ _ _ en1 s1 (by simpa using pz))
theorem dw_or {a b : Expr} {rest : List Expr} {f g : DB} {pos : Pos} (h : DPt X a f) (h2 : DW X (.BoolOp .Or (b :: rest) pos) g) : DW X (.BoolOp .Or (a :: b :: rest) pos) (bOr f g) := by
  refine pwW (pw_or h h2) ?_
  rintro σ H R ⟨G, k, ρ, F, Q, en, hf, q⟩
  refine cTI en hf fun b H' F' k' en1 s1 pz => ?_
  cases b with
  | true => exact iteT (q _ _ _ _ en1 s1 (by simpa using pz))
  | false => exact iteF (cTI en1 (by simpa using pz) fun _ _ _ _ e s z => q _ _ _ _ e (s1.trans s) z)
/-- .. as values, all but the last True or False -/
def vAnd (f g : DT) : DT := fun ρ k Q => f ρ k fun x ρ1 k1 => asB x fun b => if b = true then g ρ1 k1 Q else Q (.bool false) ρ1 k1
def vOr (f g : DT) : DT := fun ρ k Q => f ρ k fun x ρ1 k1 => asB x fun b => if b = true then Q (.bool true) ρ1 k1 else g ρ1 k1 Q
def vNot (f : DT) : DT := fun ρ k Q => f ρ k fun x ρ1 k1 => asB x fun b => Q (.bool (!b)) ρ1 k1
theorem de_one {op : BoolOp} {a : Expr} {f : DT} {pos : Pos} (h : DE X a f) : DE X (.BoolOp op [a] pos) f := pe_one h
theorem de_and {a b : Expr} {rest : List Expr} {f g : DT} {pos : Pos} (h : DE X a f) (h2 : DE X (.BoolOp .And (b :: rest) pos) g) : DE X (.BoolOp .And (a :: b :: rest) pos) (vAnd f g) := by
  refine peW (pe_and h h2) ?_
  rintro σ H R ⟨G, k, ρ, F, Q, en, hf, q⟩
  refine cEI en hf fun v H' F' k' x en1 s1 d1 pz => ?_
  obtain ⟨b, rfl, pw⟩ := asB_of pz
  cases d1
  cases b with
  | true => exact ⟨true, rfl, iteT (cEI en1 (by simpa using pw) fun _ _ _ _ _ e s d z => q _ _ _ _ _ e (s1.trans s) d z)⟩
  | false => exact ⟨false, rfl, iteF (q _ _ _ _ _ en1 s1 (.bl false) (by simpa using pw))⟩
theorem de_or {a b : Expr} {rest : List Expr} {f g : DT} {pos : Pos} (h : DE X a f) (h2 : DE X (.BoolOp .Or (b :: rest) pos) g) : DE X (.BoolOp .Or (a :: b :: rest) pos) (vOr f g) := by
  refine peW (pe_or h h2) ?_
  rintro σ H R ⟨G, k, ρ, F, Q, en, hf, q⟩
  refine cEI en hf fun v H' F' k' x en1 s1 d1 pz => ?_
  obtain ⟨b, rfl, pw⟩ := asB_of pz
  cases d1
  cases b with
  | true => exact ⟨true, rfl, iteT (q _ _ _ _ _ en1 s1 (.bl true) (by simpa using pw))⟩
  | false => exact ⟨false, rfl, iteF (cEI en1 (by simpa using pw) fun _ _ _ _ _ e s d z => q _ _ _ _ _ e (s1.trans s) d z)⟩
theorem de_not {a : Expr} {f : DT} {pos : Pos} (h : DE X a f) : DE X (.UnaryOp .Not a pos) (vNot f) := by
  refine peW (pe_not h) ?_
  rintro σ H R ⟨G, k, ρ, F, Q, en, hf, q⟩
  refine cEI en hf fun v H' F' k' x en1 s1 d1 pz => ?_
  obtain ⟨b, rfl, pw⟩ := asB_of pz
  cases d1
  exact ⟨_, rfl, q _ _ _ _ _ en1 s1 (.bl _) pw⟩
def dIte (c : DB) (f g : DT) : DT := fun ρ k Q => c ρ k fun b ρ1 k1 => if b = true then f ρ1 k1 Q else g ρ1 k1 Q
theorem de_ite {c a b : Expr} {f : DB} {fa fb : DT} {pos : Pos} (hc : DPt X c f) (ha : DE X a fa) (hb : DE X b fb) : DE X (.IfExp c a b pos) (dIte f fa fb) := by
  refine peW (pe_ifExp hc ha hb) ?_
  rintro σ H R ⟨G, k, ρ, F, Q, en, hf, q⟩
  refine cTI en hf fun b H' F' k' en1 s1 pz => ?_
  cases b with
  | true => exact iteT (cEI en1 (by simpa using pz) fun _ _ _ _ _ e s d z => q _ _ _ _ _ e (s1.trans s) d z)
  | false => exact iteF (cEI en1 (by simpa using pz) fun _ _ _ _ _ e s d z => q _ _ _ _ _ e (s1.trans s) d z)
end
end Wc

namespace Wc
open PySem PySem.Spec PyProof.Rows L2
section
variable {X : Cx}
/-! ### targets -/
abbrev DG := PyData → Slots → (Slots → Prop) → Prop
abbrev DGs := List PyData → Slots → (Slots → Prop) → Prop
structure Off (js : List Nat) (σ σ' : St) (ρ ρ' : Slots) : Prop where
  len : σ'.length = σ.length
  st : ∀ i, i ∉ js → σ'[i]? = σ[i]?
  sl : ∀ i, i ∉ js → ρ'[i]? = ρ[i]?
theorem Off.refl (js : List Nat) (σ : St) (ρ : Slots) : Off js σ σ ρ ρ := ⟨rfl, fun _ _ => rfl, fun _ _ => rfl⟩
theorem Off.trans {js js' : List Nat} {σ σ' σ'' : St} {ρ ρ' ρ'' : Slots} (a : Off js σ σ' ρ ρ') (b : Off js' σ' σ'' ρ' ρ'') : Off (js ++ js') σ σ'' ρ ρ'' :=
  ⟨b.len.trans a.len, fun i h => (b.st i fun z => h (List.mem_append_right _ z)).trans (a.st i fun z => h (List.mem_append_left _ z)),
    fun i h => (b.sl i fun z => h (List.mem_append_right _ z)).trans (a.sl i fun z => h (List.mem_append_left _ z))⟩
def cG (K : PySem.W.Frag) (js : List Nat) (g : DG) : TG := fun v σ H R => ∃ G k ρ F x Q, EnvR K G k ρ σ H F ∧ Dt K F v x ∧ g x ρ Q ∧
  ∀ σ' ρ', EnvR K G k ρ' σ' H F → Off js σ σ' ρ ρ' → Q ρ' → R σ' H
def cGs (K : PySem.W.Frag) (js : List Nat) (g : DGs) : TGs := fun vs σ H R => ∃ G k ρ F xs Q, EnvR K G k ρ σ H F ∧ DtAll K F vs xs ∧ g xs ρ Q ∧
  ∀ σ' ρ', EnvR K G k ρ' σ' H F → Off js σ σ' ρ ρ' → Q ρ' → R σ' H
abbrev DPg (X : Cx) (e : Expr) (js : List Nat) (g : DG) : Prop := PG X e (cG X.K js g)
abbrev DPgs (X : Cx) (es : List Expr) (js : List Nat) (g : DGs) : Prop := PGs X es (cGs X.K js g)
theorem pgW {e : Expr} {t t' : TG} (h : PG X e t) (w : ∀ v σ H R, t' v σ H R → t v σ H R) : PG X e t' := ⟨fun pins s σ H v u Q I r q => h.run pins s σ H v u Q I r (w _ _ _ _ q)⟩
theorem pgsW {es : List Expr} {t t' : TGs} (h : PGs X es t) (w : ∀ v σ H R, t' v σ H R → t v σ H R) : PGs X es t' := ⟨fun pins s σ H v u Q I r q => h.run pins s σ H v u Q I r (w _ _ _ _ q)⟩
def gSet (i : Nat) : DG := fun x ρ Q => Q (ρ.set i (.d x))
theorem dg_name (i : Nat) {x : Str} {pos : Pos} (hN : X.N.Nodup) (hi : X.N[i]? = some x := by rfl) (hx : Loc X.env.scope x := by first | exact Or.inl rfl | exact Or.inr rfl) (hf : X.fn x = true ∨ X.env.scope.names.lookup x = some .local := by first | exact .inl rfl | exact .inr rfl) :
    DPg X (.Name x pos) [i] (gSet i) := by
  refine pgW (pg_name hN hi hx hf) ?_
  rintro v σ H R ⟨G, k, ρ, F, y, Q, en, dy, hg, q⟩
  refine q _ _ (en.setD i dy) ⟨List.length_set .., fun j hj => ?_, fun j hj => ?_⟩ hg
  · exact List.getElem?_set_ne (fun z => hj (by rw [z]; exact List.mem_singleton_self _))
  · exact List.getElem?_set_ne (fun z => hj (by rw [z]; exact List.mem_singleton_self _))
def gsNil : DGs := fun xs ρ Q => xs = [] ∧ Q ρ
def gsCons (g : DG) (r : DGs) : DGs := fun xs ρ Q => match xs with
  | x :: xs => g x ρ fun ρ1 => r xs ρ1 Q
  | [] => False
theorem dgs_nil : DPgs X [] [] gsNil := by
  refine pgsW pgs_nil ?_
  rintro vs σ H R ⟨G, k, ρ, F, xs, Q, en, dy, ⟨rfl, hg⟩, q⟩
  cases dy
  exact ⟨rfl, q _ _ en (Off.refl _ _ _) hg⟩
theorem dgs_cons {e : Expr} {es : List Expr} {js js' : List Nat} {g : DG} {r : DGs} (h1 : DPg X e js g) (h2 : DPgs X es js' r) (hs : (assignEach (e :: es) X.env).map (·.2) = assign e X.env :: (assignEach es X.env).map (·.2) := by rfl) :
    DPgs X (e :: es) (js ++ js') (gsCons g r) := by
  refine pgsW (pgs_cons h1 h2 hs) ?_
  rintro vs σ H R ⟨G, k, ρ, F, xs, Q, en, dy, hg, q⟩
  cases dy with
  | nil => exact hg.elim
  | cons d r =>
    refine ⟨_, _, rfl, G, k, ρ, F, _, _, en, d, hg, ?_⟩
    intro σ1 ρ1 en1 o1 q1
    refine ⟨G, k, ρ1, F, _, _, en1, r, q1, ?_⟩
    intro σ2 ρ2 en2 o2 q2
    exact q _ _ en2 (o1.trans o2) q2
def gTp (n : Nat) (g : DGs) : DG := fun x ρ Q => asT x fun xs => xs.length = n ∧ g xs ρ Q
theorem dg_tup {es : List Expr} {k n : Nat} {js : List Nat} {g : DGs} {pos : Pos} (hc : X.calm = true) (h : DPgs X es js g) (hn : (assignEach es X.env).length = n := by rfl) (hst : (assignEach es X.env).findIdx? (·.1) = none := by rfl) :
    DPg X (.Tuple es k pos) js (gTp n g) := by
  refine pgW (pg_tup hc h hn hst) ?_
  rintro v σ H R ⟨G, k, ρ, F, x, Q, en, dy, hg, q⟩
  obtain ⟨xs, rfl, hl, hg⟩ := asT_of hg
  obtain ⟨a, vs, rfl, ht, da⟩ := dy.inv_tup
  exact ⟨a, vs, rfl, seqT en.same ht, by rw [DtAll.len da, hl], G, k, ρ, F, xs, Q, en, da, hg, q⟩
/-- a, b = e -/
def sAsg (f : DT) (g : DG) : DTS := fun D ρ k => f ρ k fun x ρ1 k1 => g x ρ1 fun ρ2 => D.nx ρ2 k1
theorem ds_asg {tg e : Expr} {f : DT} {js : List Nat} {g : DG} {pos : Pos} (he : DE X e f) (hg : DPg X tg js g) (hs : swapsWithSole [tg] e pos.line X.env = pure false := by rfl) (hw : swappedStores [tg] e X.env = pure none := by rfl)
    (hq : (assignEach [tg] X.env).map (·.2) = [assign tg X.env] := by rfl) : DS X (.Assign [tg] e pos) (sAsg f g) := by
  refine psW (ps_asg he hg hs hw hq) ?_
  rintro E σ H ⟨G, k, ρ, F, D, en, q, h1, h2, h3, h4⟩
  refine cEI en q fun {ρ1} v H' F' k' x en1 s1 d1 pz => ?_
  refine ⟨G, k', ρ1, F', x, _, en1, d1, pz, ?_⟩
  intro σ' ρ' en2 _ q2
  exact h1 _ _ _ _ _ en2 s1 q2

/-! ### for -/
def loopD (g : DG) (tb : DTS) : List PyData → DEnds → Slots → Nat → Prop
  | [], D, ρ, k => D.nx ρ k
  | x :: xs, D, ρ, k => g x ρ fun ρ1 => tb { D with nx := loopD g tb xs D, ct := loopD g tb xs D, bk := D.nx } ρ1 k
theorem piB {tg iter : Expr} {wi : TI} (h : PI X tg iter wi) : PI X tg iter (fun σ H R => wi σ H fun J H1 => HB X.K H1 → R J H1) := by
  constructor
  intro pins s σ H R I q
  refine thn (h.run pins s σ H _ I q) fun v s1 z => thn z ?_
  rintro u s2 ⟨it, fp, tn, J, H', e1, I', t, t0, fo, r⟩
  exact ⟨it, fp, tn, J, H', e1, I', t, t0, fo, r (hb_of I')⟩
theorem drop_at {α : Type} {xs : List α} {i : Nat} {x : α} (e : xs[i]? = some x) : xs.drop i = x :: xs.drop (i + 1) := by
  obtain ⟨h, q⟩ := List.getElem?_eq_some_iff.mp e
  rw [← q]
  exact List.drop_eq_getElem_cons h
/-- one turn -/
theorem turnD {K : PySem.W.Frag} {js : List Nat} {g : DG} {tb : DTS} {G : Gh} {k : Nat} {ρ : Slots} {σ : St} {H F F0 : Hp} {D : DEnds} {E : Ends} {x : PyData} {v : V} {xs : List PyData} (en : EnvR K G k ρ σ H F) (s0 : Same F0 F) (d : Dt K F v x) (q : loopD g tb (x :: xs) D ρ k)
    (h1 : ∀ σ' H' F' k' ρ', EnvR K G k' ρ' σ' H' F' → Same F0 F' → D.nx ρ' k' → E.nx σ' H') (h2 : ∀ v H' F' k' x, HeR K G k' H' F' → Same F0 F' → Dt K F' v x → D.rt x k' → E.rt v H') (N : St → Hp → Prop)
    (hN : ∀ σ' H' F' k' ρ', EnvR K G k' ρ' σ' H' F' → Same F F' → loopD g tb xs D ρ' k' → N σ' H') : cG K js g v σ H fun σ2 H2 => cS K tb { E with nx := N, ct := N, bk := E.nx } σ2 H2 := by
  refine ⟨G, k, ρ, F, x, _, en, d, q, ?_⟩
  intro σ' ρ' en1 _ q1
  refine cSI en1 q1 (fun _ _ _ _ _ e s z => hN _ _ _ _ _ e s z) (fun _ _ _ _ _ e s z y => h2 _ _ _ _ _ e (s0.trans s) z y) (fun _ _ _ _ _ e s z => h1 _ _ _ _ _ e (s0.trans s) z) (fun _ _ _ _ _ e s z => hN _ _ _ _ _ e s z)
def sForT (f : DT) (g : DG) (tb : DTS) : DTS := fun D ρ k => f ρ k fun x ρ1 k1 => asT x fun xs => loopD g tb xs D ρ1 k1
theorem ds_forT {tg iter : Expr} {body : List Stmt} {f : DT} {js : List Nat} {g : DG} {tb : DTS} {pos : Pos} (hp : PassesOwn (model X.prog X.w) X.A X.env X.xe) (hc : X.calm = true) (hi : DE X iter f) (hg : DPg X tg js g) (hb : DSs X body tb) (hs : ∀ x, foldedSetIterable iter X.env x = pure x := by intro _; rfl) : DS X (.For tg iter body [] pos) (sForT f g tb) := by
  refine psW (ps_for hp hc (pi_tup hi) hg hb hs) ?_
  rintro E σ H ⟨G, k, ρ, F, D, en, q, h1, h2, h3, h4⟩
  refine cEI en q ?_
  intro ρ1 v H1 F1 k1 x en1 s1 d1 pz
  obtain ⟨xs, rfl, pz⟩ := asT_of pz
  obtain ⟨a, vs, rfl, ht, da⟩ := d1.inv_tup
  refine ⟨a, rfl, ⟨vs, seqT en1.same ht⟩, ?_⟩
  refine for_tup (K := X.K) (a := a) (xs := vs) (fun i σ' H' => ∃ F' k' ρ', EnvR X.K G k' ρ' σ' H' F' ∧ Same F1 F' ∧ loopD g tb (xs.drop i) D ρ' k') ⟨F1, k1, ρ1, en1, Same.refl _, pz⟩ ?_ ?_ ?_
  · rintro i σ' H' _ ⟨F', k', ρ', e, s, _⟩
    exact seqT (s.trans e.same) ht
  · rintro i y σ' H' hy ⟨F', k', ρ', e, s, z⟩
    obtain ⟨x', hx', dx⟩ := DtAll.at' da hy
    rw [drop_at hx'] at z
    exact turnD e (s1.trans s) (Dt.up s dx) z h1 h2 _ fun σ2 H2 F2 k2 ρ2 e2 s2 z2 => ⟨F2, k2, ρ2, e2, s.trans s2, z2⟩
  · rintro σ' H' ⟨F', k', ρ', e, s, z⟩
    rw [DtAll.len da, List.drop_length] at z
    exact h1 _ _ _ _ _ e (s1.trans s) z
def sForL (f : DT) (g : DG) (tb : DTS) : DTS := fun D ρ k => f ρ k fun x ρ1 k1 => asL x fun xs => loopD g tb xs D ρ1 k1
theorem ds_forL {tg iter : Expr} {body : List Stmt} {f : DT} {js : List Nat} {g : DG} {tb : DTS} {pos : Pos} (hp : PassesOwn (model X.prog X.w) X.A X.env X.xe) (hc : X.calm = true) (hi : DE X iter f) (hg : DPg X tg js g) (hb : DSs X body tb) (hs : ∀ x, foldedSetIterable iter X.env x = pure x := by intro _; rfl) : DS X (.For tg iter body [] pos) (sForL f g tb) := by
  refine psW (ps_for hp hc (pi_list hi) hg hb hs) ?_
  rintro E σ H ⟨G, k, ρ, F, D, en, q, h1, h2, h3, h4⟩
  refine cEI en q ?_
  intro ρ1 v H1 F1 k1 x en1 s1 d1 pz
  obtain ⟨xs, rfl, pz⟩ := asL_of pz
  obtain ⟨a, vs, rfl, ht, da⟩ := d1.inv_lst
  refine ⟨a, rfl, ⟨vs, .inl (.inl (en1.same _ _ ht))⟩, ?_⟩
  refine for_list (K := X.K) (a := a) (xs := vs) (fun i σ' H' => ∃ F' k' ρ', EnvR X.K G k' ρ' σ' H' F' ∧ Same F1 F' ∧ loopD g tb (xs.drop i) D ρ' k') ⟨F1, k1, ρ1, en1, Same.refl _, pz⟩ ?_ ?_ ?_
  · rintro i σ' H' _ ⟨F', k', ρ', e, s, _⟩
    exact .inl (.inl (e.same _ _ (s _ _ ht)))
  · rintro i y σ' H' hy ⟨F', k', ρ', e, s, z⟩
    obtain ⟨x', hx', dx⟩ := DtAll.at' da hy
    rw [drop_at hx'] at z
    exact turnD e (s1.trans s) (Dt.up s dx) z h1 h2 _ fun σ2 H2 F2 k2 ρ2 e2 s2 z2 => ⟨F2, k2, ρ2, e2, s.trans s2, z2⟩
  · rintro σ' H' ⟨F', k', ρ', e, s, z⟩
    rw [DtAll.len da, List.drop_length] at z
    exact h1 _ _ _ _ _ e (s1.trans s) z
/-- range(n), from lo on -/
def rangeD (lo : Int) (n : Nat) : List PyData := (List.range n).map fun i => .int (lo + (i : Nat))
theorem rangeD_at {lo : Int} {n i : Nat} (h : i < n) : (rangeD lo n)[i]? = some (.int (lo + (i : Nat))) := by
  unfold rangeD
  rw [List.getElem?_map, List.getElem?_range h]
  rfl
theorem rangeD_len {lo : Int} {n : Nat} : (rangeD lo n).length = n := by
  unfold rangeD
  rw [List.length_map, List.length_range]
def sForR1 (f : DT) (g : DG) (tb : DTS) : DTS := fun D ρ k => f ρ k fun x ρ1 k1 => asI x fun j => (-(2 ^ 62) ≤ j ∧ j < 2 ^ 62) ∧ loopD g tb (rangeD 0 j.toNat) D ρ1 k1
def sForR2 (f1 f2 : DT) (g : DG) (tb : DTS) : DTS := fun D ρ k => f1 ρ k fun x ρ1 k1 => f2 ρ1 k1 fun y ρ2 k2 => asI x fun i => asI y fun j => (-(2 ^ 62) ≤ i ∧ i < 2 ^ 62 ∧ -(2 ^ 62) ≤ j ∧ j < 2 ^ 62) ∧ loopD g tb (rangeD i (j - i).toNat) D ρ2 k2
theorem rng_loop {K : PySem.W.Frag} {js : List Nat} {g : DG} {tb : DTS} {G : Gh} {k : Nat} {ρ : Slots} {σ : St} {H F F0 : Hp} {D : DEnds} {E : Ends} {lo : Int} {n : Nat} (en : EnvR K G k ρ σ H F) (s0 : Same F0 F) (q : loopD g tb (rangeD lo n) D ρ k)
    (h1 : ∀ σ' H' F' k' ρ', EnvR K G k' ρ' σ' H' F' → Same F0 F' → D.nx ρ' k' → E.nx σ' H') (h2 : ∀ v H' F' k' x, HeR K G k' H' F' → Same F0 F' → Dt K F' v x → D.rt x k' → E.rt v H') :
    ∃ W : Nat → Nat → St → Hp → Prop, (∃ m, W 0 m σ H) ∧ ∀ i m σ H, W i m σ H →
      ((Itr lo n).stop i H ∧ E.nx σ H) ∨ ((Itr lo n).go i H ∧ ∃ N : St → Hp → Prop, (∀ σ' H', N σ' H' → ∃ m', m' < m ∧ W (i + 1) m' σ' H') ∧ ∀ x H', (Itr lo n).yld i H x H' → cG K js g x σ H' fun σ2 H2 => cS K tb { E with nx := N, ct := N, bk := E.nx } σ2 H2) := by
  refine for_range (lo := lo) (n := n) (fun i σ' H' => ∃ F' k' ρ', EnvR K G k' ρ' σ' H' F' ∧ Same F F' ∧ loopD g tb ((rangeD lo n).drop i) D ρ' k') ⟨F, k, ρ, en, Same.refl _, q⟩ ?_ ?_
  · rintro i σ' H' hi ⟨F', k', ρ', e, s, z⟩
    rw [drop_at (rangeD_at hi)] at z
    exact turnD e (s0.trans s) (.int _) z h1 h2 _ fun σ2 H2 F2 k2 ρ2 e2 s2 z2 => ⟨F2, k2, ρ2, e2, s.trans s2, z2⟩
  · rintro σ' H' ⟨F', k', ρ', e, s, z⟩
    have : (rangeD lo n).drop n = [] := by
      rw [List.drop_eq_nil_iff, rangeD_len]
      exact Nat.le_refl _
    rw [this] at z
    exact h1 _ _ _ _ _ e (s0.trans s) z
theorem ds_forR1 {tg a : Expr} {body : List Stmt} {f : DT} {js : List Nat} {g : DG} {tb : DTS} {p pos' pos : Pos} (hp : PassesOwn (model X.prog X.w) X.A X.env X.xe) (hc : X.calm = true) (hgl : Gl X "range") (hm : X.mg "range" = none) (ha : DE X a f)
    (hg : DPg X tg js g) (hb : DSs X body tb) (hs : starEach [a] X.env = (false, eval a X.env) :: starEach [] X.env := by rfl) (hs0 : starEach [a] X.env = [(false, eval a X.env)] := by rfl)
    (hf : ∀ x, foldedSetIterable (.Call (.Name "range" p) [a] [] pos') X.env x = pure x := by intro _; rfl) : DS X (.For tg (.Call (.Name "range" p) [a] [] pos') body [] pos) (sForR1 f g tb) := by
  refine psW (ps_for hp hc (pi_range1 hgl hm (pa_cons ha pa_nil hs) hs0) hg hb hf) ?_
  rintro E σ H ⟨G, k, ρ, F, D, en, q, h1, h2, h3, h4⟩
  refine cEI en q ?_
  intro ρ1 v H1 F1 k1 x en1 s1 d1 pz
  obtain ⟨j, rfl, ⟨b1, b2⟩, pz⟩ := asI_of pz
  cases d1
  exact ⟨j, rfl, b1, b2, rng_loop en1 s1 pz h1 h2⟩
theorem ds_forR2 {tg a b : Expr} {body : List Stmt} {f1 f2 : DT} {js : List Nat} {g : DG} {tb : DTS} {p pos' pos : Pos} (hp : PassesOwn (model X.prog X.w) X.A X.env X.xe) (hc : X.calm = true) (hgl : Gl X "range") (hm : X.mg "range" = none) (ha : DE X a f1) (hb' : DE X b f2)
    (hg : DPg X tg js g) (hb : DSs X body tb) (hs1 : starEach [b] X.env = (false, eval b X.env) :: starEach [] X.env := by rfl) (hs : starEach [a, b] X.env = (false, eval a X.env) :: starEach [b] X.env := by rfl)
    (ht : starEach [a, b] X.env = [(false, eval a X.env), (false, eval b X.env)] := by rfl) (ht2 : starEach [b] X.env = [(false, eval b X.env)] := by rfl)
    (hf : ∀ x, foldedSetIterable (.Call (.Name "range" p) [a, b] [] pos') X.env x = pure x := by intro _; rfl) : DS X (.For tg (.Call (.Name "range" p) [a, b] [] pos') body [] pos) (sForR2 f1 f2 g tb) := by
  refine psW (ps_for hp hc (pi_range2 hgl hm (pa_cons ha (pa_cons hb' pa_nil hs1) hs) ht ht2) hg hb hf) ?_
  rintro E σ H ⟨G, k, ρ, F, D, en, q, h1, h2, h3, h4⟩
  refine cEI en q ?_
  intro ρ1 v H1 F1 k1 x en1 s1 d1 pz
  refine cEI en1 pz ?_
  intro ρ2 w H2 F2 k2 y en2 s2 d2 pz
  obtain ⟨i, rfl, pz2⟩ := asI_of pz
  obtain ⟨j, rfl, bb, pz3⟩ := asI_of pz2
  cases d1
  cases d2
  exact ⟨i, j, rfl, bb, rng_loop en2 (s1.trans s2) pz3 h1 h2⟩

/-! ### while -/
def sWhile (c : DB) (tb : DTS) : DTS := fun D ρ k => ∃ (I : Slots → Nat → Prop) (μ : Slots → Nat → Nat), I ρ k ∧ ∀ ρ k, I ρ k →
  c ρ k fun b ρ1 k1 => if b = true then tb { D with nx := fun ρ' k' => I ρ' k' ∧ μ ρ' k' < μ ρ k, ct := fun ρ' k' => I ρ' k' ∧ μ ρ' k' < μ ρ k, bk := D.nx } ρ1 k1 else D.nx ρ1 k1
theorem ds_while {c : Expr} {body : List Stmt} {f : DB} {tb : DTS} {pos : Pos} (hp : PassesOwn (model X.prog X.w) X.A X.env X.xe) (hc : DPt X c f) (hb : DSs X body tb) : DS X (.While c body [] pos) (sWhile f tb) := by
  refine psW (ps_while hp hc hb) ?_
  rintro E σ H ⟨G, k, ρ, F, D, en, ⟨I, μ, i0, turn⟩, h1, h2, h3, h4⟩
  refine ⟨fun m σ' H' => ∃ F' k' ρ', EnvR X.K G k' ρ' σ' H' F' ∧ Same F F' ∧ I ρ' k' ∧ μ ρ' k' = m, ⟨_, F, k, ρ, en, Same.refl F, i0, rfl⟩, ?_⟩
  rintro m σ' H' ⟨F', k', ρ', e, s, i, rfl⟩
  refine cTI e (turn ρ' k' i) ?_
  intro ρ2 b H2 F2 k2 e2 s2 pz
  cases b with
  | false => exact iteF (h1 _ _ _ _ _ e2 (s.trans s2) (by simpa using pz))
  | true =>
    refine iteT ⟨fun σ3 H3 => ∃ F3 k3 ρ3, EnvR X.K G k3 ρ3 σ3 H3 F3 ∧ Same F F3 ∧ I ρ3 k3 ∧ μ ρ3 k3 < μ ρ' k', ?_, ?_⟩
    · rintro σ3 H3 ⟨F3, k3, ρ3, e3, s3, i3, l3⟩
      exact ⟨_, l3, F3, k3, ρ3, e3, s3, i3, rfl⟩
    · refine cSI e2 (by simpa using pz) ?_ ?_ ?_ ?_
      · exact fun _ _ _ _ _ e3 s3 z => ⟨_, _, _, e3, (s.trans s2).trans s3, z⟩
      · exact fun _ _ _ _ _ e3 s3 z y => h2 _ _ _ _ _ e3 ((s.trans s2).trans s3) z y
      · exact fun _ _ _ _ _ e3 s3 z => h1 _ _ _ _ _ e3 ((s.trans s2).trans s3) z
      · exact fun _ _ _ _ _ e3 s3 z => ⟨_, _, _, e3, (s.trans s2).trans s3, z⟩
end
end Wc

/-! List comprehensions over data. -/
namespace Wc
open PySem PySem.Spec PyProof.Rows L2
def wipeS (ρ : Slots) : List Nat → Slots
  | [] => ρ
  | v :: vs => (wipeS ρ vs).set v .un
theorem wipeS_len (ρ : Slots) : ∀ vs : List Nat, (wipeS ρ vs).length = ρ.length
  | [] => rfl
  | v :: vs => by unfold wipeS; rw [List.length_set, wipeS_len ρ vs]
theorem wipeS_off {ρ : Slots} {i : Nat} : ∀ {vs : List Nat}, i ∉ vs → (wipeS ρ vs)[i]? = ρ[i]?
  | [], _ => rfl
  | v :: vs, h => by
    unfold wipeS
    rw [List.getElem?_set_ne (fun z => h (by rw [z]; exact List.mem_cons_self)), wipeS_off fun z => h (List.mem_cons_of_mem _ z)]
theorem wipe_off {σ : St} {i : Nat} : ∀ {vs : List Nat}, i ∉ vs → (wipe σ vs)[i]? = σ[i]?
  | [], _ => rfl
  | v :: vs, h => by
    unfold wipe
    rw [List.getElem?_set_ne (fun z => h (by rw [z]; exact List.mem_cons_self)), wipe_off fun z => h (List.mem_cons_of_mem _ z)]
theorem wipe_in {σ : St} {i : Nat} : ∀ {vs : List Nat}, i ∈ vs → i < σ.length → (wipe σ vs)[i]? = some none
  | v :: vs, h, hl => by
    unfold wipe
    by_cases z : v = i
    · subst z
      rw [List.getElem?_set_self (by rw [wipe_length]; exact hl)]
    · rw [List.getElem?_set_ne z]
      rcases List.mem_cons.mp h with q | q
      · exact absurd q.symm z
      · exact wipe_in q hl
theorem wipe_same {σ σ2 : St} {vs : List Nat} (hl : σ2.length = σ.length) (h : ∀ i, i ∉ vs → σ2[i]? = (wipe σ vs)[i]?) : wipe σ2 vs = wipe σ vs := by
  apply List.ext_getElem?
  intro i
  by_cases z : i ∈ vs
  · by_cases q : i < σ.length
    · rw [wipe_in z q, wipe_in z (by rw [hl]; exact q)]
    · rw [List.getElem?_eq_none (by rw [wipe_length]; omega), List.getElem?_eq_none (by rw [wipe_length]; omega)]
  · rw [wipe_off z, h i z, wipe_off z]
section
variable {K : PySem.W.Frag}
theorem EnvR.unset {G : Gh} {k : Nat} {ρ : Slots} {σ : St} {H F : Hp} (h : EnvR K G k ρ σ H F) (i : Nat) (o : Option V) : EnvR K G k (ρ.set i .un) (σ.set i o) H F := by
  refine ⟨h.toHeR, by rw [List.length_set, List.length_set]; exact h.len, fun j s e => ?_, fun j j' o p a ne e1 e2 e3 e4 => ?_⟩
  · by_cases z : i = j
    · subst z
      by_cases zl : i < ρ.length
      · rw [List.getElem?_set_self zl] at e
        cases e
        exact True.intro
      · rw [List.getElem?_eq_none (by rw [List.length_set]; omega)] at e
        cases e
    · rw [List.getElem?_set_ne z] at e ⊢
      exact h.sl j s e
  · have n1 : i ≠ j := by
      rintro rfl
      by_cases zl : i < ρ.length
      · rw [List.getElem?_set_self zl] at e1; cases e1
      · rw [List.getElem?_eq_none (by rw [List.length_set]; omega)] at e1; cases e1
    have n2 : i ≠ j' := by
      rintro rfl
      by_cases zl : i < ρ.length
      · rw [List.getElem?_set_self zl] at e2; cases e2
      · rw [List.getElem?_eq_none (by rw [List.length_set]; omega)] at e2; cases e2
    rw [List.getElem?_set_ne n1] at e1 e3
    rw [List.getElem?_set_ne n2] at e2 e4
    exact h.apart j j' o p a ne e1 e2 e3 e4
theorem EnvR.wiped {G : Gh} {k : Nat} {ρ : Slots} {σ : St} {H F : Hp} (h : EnvR K G k ρ σ H F) : ∀ vs : List Nat, EnvR K G k (wipeS ρ vs) (wipe σ vs) H F
  | [] => h
  | v :: vs => (EnvR.wiped h vs).unset v none

def OwnAt (ρ : Slots) (σ : St) (a : Addr) : Prop := ∃ (i : Nat) (w : Own), ρ[i]? = some (.own w) ∧ σ[i]? = some (some (.ref a))
open Classical in
noncomputable def keepB (ρ : Slots) (σ : St) (H : Hp) : Hp := fun b => if OwnAt ρ σ b then none else H b
theorem keepB_of {ρ : Slots} {σ : St} {H : Hp} {b : Addr} {o : HO} (h : keepB ρ σ H b = some o) : H b = some o ∧ ¬ OwnAt ρ σ b := by
  unfold keepB at h
  split at h
  · cases h
  · rename_i n; exact ⟨h, n⟩
theorem keepB_mk {ρ : Slots} {σ : St} {H : Hp} {b : Addr} (n : ¬ OwnAt ρ σ b) : keepB ρ σ H b = H b := by
  unfold keepB
  rw [if_neg n]
theorem EnvR.ownF {G : Gh} {k : Nat} {ρ : Slots} {σ : St} {H F : Hp} {a : Addr} (h : EnvR K G k ρ σ H F) (o : OwnAt ρ σ a) : F a = none ∧ G.B a = none ∧ ∃ u, H a = some u := by
  obtain ⟨i, w, e1, e2⟩ := o
  obtain ⟨b, f1, f2, f3, f4⟩ := h.sl i _ e1
  rw [e2] at f1
  cases f1
  exact ⟨f2, f3, f4.there⟩
theorem EnvR.rebase {G : Gh} {k : Nat} {ρ : Slots} {σ : St} {H F : Hp} (h : EnvR K G k ρ σ H F) : EnvR K ⟨keepB ρ σ H, F, G.T⟩ k ρ σ H F := by
  have nT : ¬ OwnAt ρ σ G.T := fun z => h.toHeR.bT (h.ownF z).2.1 rfl
  refine ⟨⟨h.same, Same.refl F, fun a o e => .inl e, fun b o e _ => (keepB_of e).1, h.tapF, ?_, h.tap⟩, h.len, fun i s e => ?_, h.apart⟩
  · obtain ⟨_, _, _, _, _, q, _⟩ := h.tap
    exact ⟨_, (keepB_mk nT).trans q⟩
  · have z := h.sl i s e
    cases s with
    | un => exact z
    | d x => exact z
    | tap => exact z
    | own w =>
      obtain ⟨a, e1, e2, e3, e4⟩ := z
      refine ⟨a, e1, e2, ?_, e4⟩
      show keepB ρ σ H a = none
      unfold keepB
      exact if_pos ⟨i, w, e, e1⟩
/-- back to the slots as they were, behind a block whose own slots are vs -/
theorem EnvR.back {G : Gh} {k k' : Nat} {ρ ρ1 : Slots} {σ σ1 : St} {H F H' F' : Hp} {vs : List Nat} (h : EnvR K G k ρ σ H F) (h' : EnvR K ⟨keepB (wipeS ρ vs) (wipe σ vs) H, F, G.T⟩ k' ρ1 σ1 H' F')
    (o1 : ∀ i, i ∉ vs → ρ1[i]? = ρ[i]?) (o2 : ∀ i, i ∉ vs → σ1[i]? = σ[i]?) : EnvR K G k' ρ σ H' F' ∧ Same F F' := by
  have hw := h.wiped vs
  refine ⟨⟨⟨h'.same, h.ext.trans h'.ext, fun a o e => ?_, fun b o e nb => ?_, h'.tapF, h.tapB, h'.tap⟩, h.len, fun i s e => ?_, h.apart⟩, h'.ext⟩
  · rcases h'.new a o e with z | z
    · exact h.new a o z
    · refine .inr ?_
      by_cases q : OwnAt (wipeS ρ vs) (wipe σ vs) a
      · exact (hw.ownF q).2.1
      · exact (h.toHeR.free ((keepB_mk q).symm.trans z)).2.1
  · refine h'.base b o ?_ nb
    refine (keepB_mk fun q => ?_).trans (h.base b o e nb)
    have z := (hw.ownF q).2.1
    rw [e] at z
    cases z
  · have z := h.sl i s e
    cases s with
    | un => exact True.intro
    | d x => obtain ⟨v, e1, e2⟩ := z; exact ⟨v, e1, Dt.up h'.ext e2⟩
    | tap => exact z
    | own w =>
      obtain ⟨a, e1, e2, e3, e4⟩ := z
      by_cases q : i ∈ vs
      · have nO : ¬ OwnAt (wipeS ρ vs) (wipe σ vs) a := by
          rintro ⟨j, u, f1, f2⟩
          by_cases qj : j ∈ vs
          · by_cases ql : j < σ.length
            · rw [wipe_in qj ql] at f2; cases f2
            · rw [List.getElem?_eq_none (by rw [wipe_length]; omega)] at f2; cases f2
          · rw [wipeS_off qj] at f1
            rw [wipe_off qj] at f2
            exact h.apart i j w u a (fun z => qj (z ▸ q)) e f1 e1 f2
        obtain ⟨u, e5⟩ := e4.there
        have nT : a ≠ G.T := h.toHeR.bT e3
        have e6 : H' a = some u := h'.base a u ((keepB_mk nO).trans e5) nT
        refine ⟨a, e1, ?_, e3, e4.up h'.ext (e6.trans e5.symm)⟩
        cases r : F' a with
        | none => rfl
        | some u' =>
          rcases h'.new a u' r with z | z
          · exact absurd (e2.symm.trans z) nofun
          · exact absurd (((keepB_mk nO).trans e5).symm.trans z) nofun
      · obtain ⟨b, f1, f2, f3, f4⟩ := h'.sl i _ ((o1 i q).trans e)
        rw [o2 i q, e1] at f1
        cases f1
        exact ⟨a, e1, f2, e3, f4⟩
/-- what is no one's stands -/
theorem EnvR.kept {G : Gh} {k' : Nat} {ρ ρ1 : Slots} {σ σ1 : St} {H F H' F' : Hp} {D : Addr} {o : HO} (h' : EnvR K ⟨keepB ρ σ H, F, G.T⟩ k' ρ1 σ1 H' F') (e : H D = some o) (nF : F D = none) (nT : D ≠ G.T) (nO : ¬ OwnAt ρ σ D) : H' D = some o ∧ F' D = none := by
  have q : keepB ρ σ H D = some o := (keepB_mk nO).trans e
  refine ⟨h'.base D o q nT, ?_⟩
  cases r : F' D with
  | none => rfl
  | some u =>
    rcases h'.new D u r with z | z
    · exact absurd (nF.symm.trans z) nofun
    · exact absurd (q.symm.trans z) nofun
end

section
variable {X : Cx}
/-- the block's turns -/
def lcD (g : DG) (c : DB) (e : DT) (ρ0 : Slots) : List PyData → List PyData → Nat → (List PyData → Nat → Prop) → Prop
  | [], acc, k, Q => Q acc k
  | x :: xs, acc, k, Q => g x ρ0 fun ρ1 => c ρ1 k fun b ρ2 k2 => ρ2 = ρ1 ∧ if b = true then e ρ1 k2 fun y ρ3 k3 => ρ3 = ρ1 ∧ lcD g c e ρ0 xs (acc ++ [y]) k3 Q else lcD g c e ρ0 xs acc k2 Q
def bYes : DB := fun ρ k Q => Q true ρ k
abbrev DPts (X : Cx) (es : List Expr) (f : DB) : Prop := PTs X es (cT X.K f)
theorem ptsW {es : List Expr} {t t' : TT} (h : PTs X es t) (w : ∀ σ H R, t' σ H R → t σ H R) : PTs X es t' := ⟨fun pins s σ H Q I q => h.run pins s σ H Q I (w _ _ _ q)⟩
theorem dpts_nil : DPts X [] bYes := by
  refine ptsW pts_nil ?_
  rintro σ H R ⟨G, k, ρ, F, Q, en, hf, q⟩
  exact q true H F k en (Same.refl F) hf
theorem dpts_one {c : Expr} {f : DB} (h : DPt X c f) : DPts X [c] f := pts_one h

/-- one turn of a block -/
theorem lcTurn {K : PySem.W.Frag} {js vs : List Nat} {g : DG} {c : DB} {e : DT} {G : Gh} {k : Nat} {ρ : Slots} {σ : St} {H F F0 : Hp} {x : PyData} {v : V} {xs acc : List PyData} {vacc : List V} {D : Addr} {Q : List PyData → Nat → Prop} {Nx : Hp → Prop}
    (hjs : ∀ i ∈ js, i ∈ vs) (en : EnvR K G k ρ σ H F) (s0 : Same F0 F) (d : Dt K F v x) (hD : H D = some (.lst vacc)) (nF : F D = none) (nB : G.B D = none) (nO : ∀ (i : Nat) (w : Own), ρ[i]? = some (.own w) → σ[i]? ≠ some (some (.ref D))) (da : DtAll K F vacc acc) (hz : acc.length < sizeLine)
    (q : lcD g c e (wipeS ρ vs) (x :: xs) acc k Q)
    (hN : ∀ H' F' k' acc' vacc', EnvR K G k' ρ σ H' F' → Same F0 F' → H' D = some (.lst vacc') → F' D = none → DtAll K F' vacc' acc' → acc'.length ≤ acc.length + 1 → lcD g c e (wipeS ρ vs) xs acc' k' Q → Nx H') :
    cG K js g v (wipe σ vs) H fun σ2 H2 => wipe σ2 vs = wipe σ vs ∧ cT K c σ2 H2 fun b H3 =>
      if b = true then cE K e σ2 H3 fun y H4 => ∃ acc, H4 D = some (.lst acc) ∧ acc.length < sizeLine ∧ Nx (upd H4 D (.lst (acc ++ [y]))) else Nx H3 := by
  have nT : D ≠ G.T := en.toHeR.bT nB
  have ew := en.wiped vs
  have nO' : ¬ OwnAt (wipeS ρ vs) (wipe σ vs) D := by
    rintro ⟨i, w, f1, f2⟩
    by_cases qi : i ∈ vs
    · by_cases ql : i < σ.length
      · rw [wipe_in qi ql] at f2; cases f2
      · rw [List.getElem?_eq_none (by rw [wipe_length]; omega)] at f2; cases f2
    · rw [wipeS_off qi] at f1
      rw [wipe_off qi] at f2
      exact nO i w f1 f2
  refine ⟨_, k, wipeS ρ vs, F, x, _, ew.rebase, d, q, ?_⟩
  intro σ2 ρ2 en2 off q2
  have ws : wipe σ2 vs = wipe σ vs := wipe_same (off.len.trans (wipe_length _ _)) fun i hi => off.st i fun z => hi (hjs i z)
  have o1 : ∀ i, i ∉ vs → ρ2[i]? = ρ[i]? := fun i hi => (off.sl i fun z => hi (hjs i z)).trans (wipeS_off hi)
  have o2 : ∀ i, i ∉ vs → σ2[i]? = σ[i]? := fun i hi => (off.st i fun z => hi (hjs i z)).trans (wipe_off hi)
  refine ⟨ws, cTI en2 q2 ?_⟩
  rintro ρ3 b H3 F3 k3 en3 s3 ⟨rfl, q3⟩
  cases b with
  | false =>
    refine iteF ?_
    obtain ⟨e4, s4⟩ := en.back en3 o1 o2
    obtain ⟨z1, z2⟩ := en3.kept (G := G) hD nF nT nO'
    exact hN H3 F3 k3 acc vacc e4 (s0.trans s4) z1 z2 (DtAll.up s4 da) (Nat.le_succ _) (by simpa using q3)
  | true =>
    refine iteT (cEI en3 (by simpa using q3) ?_)
    rintro ρ4 y H4 F4 k4 z en4 s4 d4 ⟨rfl, q4⟩
    obtain ⟨e5, s5⟩ := en.back en4 o1 o2
    obtain ⟨z1, z2⟩ := en4.kept (G := G) hD nF nT nO'
    refine ⟨vacc, z1, by rw [DtAll.len da]; exact hz, ?_⟩
    refine hN _ F4 k4 (acc ++ [z]) (vacc ++ [y]) (e5.put z2 nB nO) (s0.trans s5) upd_same z2 (DtAll.app (DtAll.up s5 da) (.cons d4 .nil)) ?_ q4
    rw [List.length_append]
    exact Nat.le_refl _
def nComp (f : DT) (get : PyData → (List PyData → Prop) → Prop) (g : DG) (c : DB) (e : DT) (vs : List Nat) : DL := fun ρ k Q => f ρ k fun x ρ1 k1 => get x fun xs => lcD g c e (wipeS ρ1 vs) xs [] k1 fun ys k2 => Q ys ρ1 k2
section
variable {elt tg iter : Expr} {ifs : List Expr} {scope : Scope} {own : List (Str × Nat)} {js : List Nat} {g : DG} {c : DB} {e : DT} {f : DT} {pos : Pos}
theorem dn_compL (hc : X.calm = true) (hN : X.N.Nodup) (hi : DE X iter f) (ok : BlkOk X.N X.env.scope scope own) (hjs : ∀ i ∈ js, i ∈ own.map (·.2))
    (hg : ∀ (s : Shared) (H : Hp) (C : Addr) (cl : List (Str × Addr)) (fp : List Addr), DPg (X.blk s H scope (compEnvC scope cl C X.env) fp) tg js g) (ht : ∀ (s : Shared) (H : Hp) (C : Addr) (cl : List (Str × Addr)) (fp : List Addr), DPts (X.blk s H scope (compEnvC scope cl C X.env) fp) ifs c)
    (he : ∀ (s : Shared) (H : Hp) (C : Addr) (cl : List (Str × Addr)) (fp : List Addr), DE (X.blk s H scope (compEnvC scope cl C X.env) fp) elt e) (hs : ∀ x, foldedSetIterable iter X.env x = pure x := by intro _; rfl) :
    DN X (.ListComp elt [⟨tg, iter, ifs, 0⟩] scope pos) (nComp f asL g c e (own.map (·.2))) := by
  refine peW (pe_lc (g := cG X.K js g) (tt := cT X.K c) (te := cE X.K e) hc hN (pi_list (peB hi)) ok hg ht he hs) ?_
  rintro σ H R ⟨G, k, ρ, F, Q, en, hf, q⟩
  intro hb0
  refine cEI en hf ?_
  intro ρ1 v H1 F1 k1 x en1 s1 d1 pz hb1
  obtain ⟨xs, rfl, pw⟩ := asL_of pz
  obtain ⟨a, vs, rfl, ht, da⟩ := d1.inv_lst
  refine ⟨a, rfl, ⟨vs, .inl (.inl (en1.same _ _ ht))⟩, fun D hD => ?_⟩
  have hlen : vs.length ≤ sizeLine := hb1 a vs (.inl (.inl (.inl (en1.same _ _ ht))))
  obtain ⟨en2, nF, nB, no⟩ := ownFresh (vs := []) en1 hD
  refine lc_list (K := X.K) (a := a) (xs := vs) (fun i H' => ∃ F' k' acc vacc, EnvR X.K G k' ρ1 σ H' F' ∧ Same F1 F' ∧ H' D = some (.lst vacc) ∧ F' D = none ∧ DtAll X.K F' vacc acc ∧ acc.length ≤ i ∧ lcD g c e (wipeS ρ1 (own.map (·.2))) (xs.drop i) acc k' fun ys k2 => Q ys ρ1 k2)
    ⟨F1, k1, [], [], en2, Same.refl _, upd_same, nF, .nil, Nat.le_refl _, pw⟩ ?_ ?_ ?_
  · rintro i H' _ ⟨F', k', acc, vacc, e, s, _⟩
    exact .inl (.inl (e.same _ _ (s _ _ ht)))
  · rintro i y H' hy ⟨F', k', acc, vacc, e1, s, z1, z2, z3, z4, z5⟩
    obtain ⟨x', hx', dx⟩ := DtAll.at' da hy
    rw [drop_at hx'] at z5
    have hi : i < vs.length := (List.getElem?_eq_some_iff.mp hy).1
    refine lcTurn hjs e1 s (Dt.up s dx) z1 z2 nB no z3 (by omega) z5 ?_
    intro H2 F2 k2 acc2 vacc2 e2 s2 y1 y2 y3 y4 y5
    exact ⟨F2, k2, acc2, vacc2, e2, s2, y1, y2, y3, by omega, y5⟩
  · rintro H' ⟨F', k', acc, vacc, e1, s, z1, z2, z3, z4, z5⟩
    rw [DtAll.len da, List.drop_length] at z5
    exact q D H' F' k' vacc acc e1 (s1.trans s) z2 nB no z1 z3 z5
theorem dn_compT (hc : X.calm = true) (hN : X.N.Nodup) (hi : DE X iter f) (ok : BlkOk X.N X.env.scope scope own) (hjs : ∀ i ∈ js, i ∈ own.map (·.2))
    (hg : ∀ (s : Shared) (H : Hp) (C : Addr) (cl : List (Str × Addr)) (fp : List Addr), DPg (X.blk s H scope (compEnvC scope cl C X.env) fp) tg js g) (ht : ∀ (s : Shared) (H : Hp) (C : Addr) (cl : List (Str × Addr)) (fp : List Addr), DPts (X.blk s H scope (compEnvC scope cl C X.env) fp) ifs c)
    (he : ∀ (s : Shared) (H : Hp) (C : Addr) (cl : List (Str × Addr)) (fp : List Addr), DE (X.blk s H scope (compEnvC scope cl C X.env) fp) elt e) (hs : ∀ x, foldedSetIterable iter X.env x = pure x := by intro _; rfl) :
    DN X (.ListComp elt [⟨tg, iter, ifs, 0⟩] scope pos) (nComp f asT g c e (own.map (·.2))) := by
  refine peW (pe_lc (g := cG X.K js g) (tt := cT X.K c) (te := cE X.K e) hc hN (pi_tup (peB hi)) ok hg ht he hs) ?_
  rintro σ H R ⟨G, k, ρ, F, Q, en, hf, q⟩
  intro hb0
  refine cEI en hf ?_
  intro ρ1 v H1 F1 k1 x en1 s1 d1 pz hb1
  obtain ⟨xs, rfl, pw⟩ := asT_of pz
  obtain ⟨a, vs, rfl, ht, da⟩ := d1.inv_tup
  refine ⟨a, rfl, ⟨vs, seqT en1.same ht⟩, fun D hD => ?_⟩
  have hlen : vs.length ≤ sizeLine := hb1 a vs (.inr (seqT en1.same ht))
  obtain ⟨en2, nF, nB, no⟩ := ownFresh (vs := []) en1 hD
  refine lc_tup (K := X.K) (a := a) (xs := vs) (fun i H' => ∃ F' k' acc vacc, EnvR X.K G k' ρ1 σ H' F' ∧ Same F1 F' ∧ H' D = some (.lst vacc) ∧ F' D = none ∧ DtAll X.K F' vacc acc ∧ acc.length ≤ i ∧ lcD g c e (wipeS ρ1 (own.map (·.2))) (xs.drop i) acc k' fun ys k2 => Q ys ρ1 k2)
    ⟨F1, k1, [], [], en2, Same.refl _, upd_same, nF, .nil, Nat.le_refl _, pw⟩ ?_ ?_ ?_
  · rintro i H' _ ⟨F', k', acc, vacc, e, s, _⟩
    exact seqT (s.trans e.same) ht
  · rintro i y H' hy ⟨F', k', acc, vacc, e1, s, z1, z2, z3, z4, z5⟩
    obtain ⟨x', hx', dx⟩ := DtAll.at' da hy
    rw [drop_at hx'] at z5
    have hi : i < vs.length := (List.getElem?_eq_some_iff.mp hy).1
    refine lcTurn hjs e1 s (Dt.up s dx) z1 z2 nB no z3 (by omega) z5 ?_
    intro H2 F2 k2 acc2 vacc2 e2 s2 y1 y2 y3 y4 y5
    exact ⟨F2, k2, acc2, vacc2, e2, s2, y1, y2, y3, by omega, y5⟩
  · rintro H' ⟨F', k', acc, vacc, e1, s, z1, z2, z3, z4, z5⟩
    rw [DtAll.len da, List.drop_length] at z5
    exact q D H' F' k' vacc acc e1 (s1.trans s) z2 nB no z1 z3 z5
end
end
end Wc

/-! Operators, subscripts, slices, built-in calls over data. -/
namespace Wc
open PySem PySem.Spec PyProof.Rows L2
section
variable {X : Cx}
theorem orOp {f : Value → Value → Sem Value} {r r' : R2} (a : OpR X f r) (b : OpR X f r') : OpR X f (fun x y H Q => r x y H Q ∨ r' x y H Q) := by
  intro pins s σ H x y v u Q I rx ry h
  rcases h with h | h
  · exact a pins s σ H x y v u Q I rx ry h
  · exact b pins s σ H x y v u Q I rx ry h

/-! ### + - * // % ** -/
def dPlus (x y : PyData) (P : PyData → Prop) : Prop := match x, y with
  | .int i, .int j => P (.int (i + j))
  | .str a, .str b => a.length + b.length ≤ sizeLine ∧ P (.str (a ++ b))
  | .tuple a, .tuple b => a.length + b.length ≤ sizeLine ∧ P (.tuple (a ++ b))
  | .list a, .list b => a.length + b.length ≤ sizeLine ∧ P (.list (a ++ b))
  | _, _ => False
def rPlus (K : PySem.W.Frag) : R2 := fun x y H Q => (((rI0 fun i j => V.int (i + j)) x y H Q ∨ (∃ i j, x = .str i ∧ y = .str j ∧ i.length + j.length ≤ sizeLine ∧ Q (.str (i ++ j)) H)) ∨ rCatA K x y H Q) ∨ rCat x y H Q
theorem op_plus : OpR X (binaryOp .Add) (rPlus X.K) := orOp (orOp (orOp op_add op_add_str) op_catA) op_cat
theorem sv_plus {K : PySem.W.Frag} : Serves K (rPlus K) dPlus := by
  intro G k ρ σ F H x y a b P R en hb dx dy q r
  unfold dPlus at q
  split at q
  · exact .inl (.inl (.inl ⟨_, _, dx.inv_int, dy.inv_int, r _ _ F H en (Same.refl F) (.int _) q⟩))
  · exact .inl (.inl (.inr ⟨_, _, dx.inv_str, dy.inv_str, q.1, r _ _ F H en (Same.refl F) (.str _) q.2⟩))
  · rename_i xs ys
    obtain ⟨p, vs, rfl, t1, d1⟩ := dx.inv_tup
    obtain ⟨p2, ws, rfl, t2, d2⟩ := dy.inv_tup
    have l1 := DtAll.len d1
    have l2 := DtAll.len d2
    refine .inl (.inr ⟨p, p2, vs, ws, rfl, rfl, seqT en.same t1, seqT en.same t2, by omega, ?_, ?_, ?_⟩)
    · rintro rfl
      cases d1
      exact r _ _ F H en (Same.refl F) dy (by simpa using q.2)
    · rintro _ rfl
      cases d2
      exact r _ _ F H en (Same.refl F) dx (by simpa using q.2)
    · intro _ _ p3 h3
      obtain ⟨en2, s2⟩ := en.laid (o := .tup (vs ++ ws)) h3
      exact r _ _ _ _ en2 s2 (.tup (.inl (.inl upd_same)) (DtAll.up s2 (DtAll.app d1 d2))) q.2
  · rename_i xs ys
    obtain ⟨p, vs, rfl, t1, d1⟩ := dx.inv_lst
    obtain ⟨p2, ws, rfl, t2, d2⟩ := dy.inv_lst
    have l1 := DtAll.len d1
    have l2 := DtAll.len d2
    refine .inr ⟨p, p2, vs, ws, rfl, rfl, en.same _ _ t1, en.same _ _ t2, by omega, ?_⟩
    intro p3 h3
    obtain ⟨en2, s2⟩ := en.laid (o := .lst (vs ++ ws)) h3
    exact r _ _ _ _ en2 s2 (.lst upd_same (DtAll.up s2 (DtAll.app d1 d2))) q.2
  · exact q.elim
section
variable {a b : Expr} {fa fb : DT} {pos : Pos}
theorem de_add (ha : DE X a fa) (hb : DE X b fb) : DE X (.BinOp a .Add b pos) (dOp dPlus fa fb) := opD (fun p q => pe_op op_plus p q) sv_plus ha hb
theorem de_sub (ha : DE X a fa) (hb : DE X b fb) : DE X (.BinOp a .Sub b pos) (dOp (dI (fun _ _ => True) fun i j => .int (i - j)) fa fb) := opD (fun p q => pe_op op_sub p q) (svI0 fun _ _ _ => .int _) ha hb
theorem de_mul (ha : DE X a fa) (hb : DE X b fb) : DE X (.BinOp a .Mult b pos) (dOp (dI CMulW fun i j => .int (i * j)) fa fb) := opD (fun p q => pe_op op_mulW p q) (svI fun _ _ _ => .int _) ha hb
theorem de_mod (ha : DE X a fa) (hb : DE X b fb) : DE X (.BinOp a .Mod b pos) (dOp (dI (fun _ j => 0 < j) fun i j => .int (i % j)) fa fb) := opD (fun p q => pe_op op_mod p q) (svI fun _ _ _ => .int _) ha hb
theorem de_fdiv (ha : DE X a fa) (hb : DE X b fb) : DE X (.BinOp a .FloorDiv b pos) (dOp (dI CDivW fun i j => .int (i / j)) fa fb) := opD (fun p q => pe_op op_fdivW p q) (svI fun _ _ _ => .int _) ha hb
theorem de_fdivS (ha : DE X a fa) (hb : DE X b fb) : DE X (.BinOp a .FloorDiv b pos) (dOp (dI CDiv fun i j => .int (i / j)) fa fb) := opD (fun p q => pe_op op_fdiv p q) (svI fun _ _ _ => .int _) ha hb
theorem de_pow (ha : DE X a fa) (hb : DE X b fb) : DE X (.BinOp a .Pow b pos) (dOp (dI CPow fun i j => .int (i ^ j.toNat)) fa fb) := opD (fun p q => pe_op op_pow p q) (svI fun _ _ _ => .int _) ha hb
theorem de_neg (ha : DE X a fa) : DE X (.UnaryOp .USub a pos) (fun ρ k Q => fa ρ k fun x ρ1 k1 => asI x fun i => Q (.int (-i)) ρ1 k1) := by
  refine peW (pe_un un_neg ha) ?_
  rintro σ H R ⟨G, k, ρ, F, Q, en, hf, q⟩
  refine cEI en hf ?_
  intro ρ1 v H1 F1 k1 x en1 s1 d1 pz
  obtain ⟨i, rfl, pw⟩ := asI_of pz
  cases d1
  exact ⟨i, rfl, q _ _ _ _ _ en1 s1 (.int _) pw⟩

/-! ### comparisons -/
def okD (x : PyData) : Prop := SeqAt.shaped x = true
theorem nd_ok {x : PyData} (h : okD x) : x.hasDict = false := nd_lay (SeqAt.canLay_of_shaped h)
def dEq (x y : PyData) (P : PyData → Prop) : Prop := okD x ∧ okD y ∧ P (.bool (PyData.eqv x y))
def dNe (x y : PyData) (P : PyData → Prop) : Prop := okD x ∧ okD y ∧ P (.bool (!PyData.eqv x y))
theorem sv_eq {K : PySem.W.Frag} : Serves K (rEqD K) dEq := by
  intro G k ρ σ F H x y a b P R en hb dx dy q r
  exact ⟨a, b, Dt.dp en.same dx (nd_ok q.1), Dt.dp en.same dy (nd_ok q.2.1), q.1, q.2.1, r _ _ F H en (Same.refl F) (.bl _) q.2.2⟩
theorem sv_ne {K : PySem.W.Frag} : Serves K (rNeD K) dNe := by
  intro G k ρ σ F H x y a b P R en hb dx dy q r
  exact ⟨a, b, Dt.dp en.same dx (nd_ok q.1), Dt.dp en.same dy (nd_ok q.2.1), q.1, q.2.1, r _ _ F H en (Same.refl F) (.bl _) q.2.2⟩
def rOrd (K : PySem.W.Frag) (f : PyData → PyData → Bool) : R2 := fun x y H Q => ∃ d e, Dp K H x d ∧ Dp K H y e ∧ PySem.W.alike d e = true ∧ d ≠ .none ∧ d.depth ≤ 60 ∧ Q (.bl (f d e)) H
theorem op_ltD (hu : X.A.units + 64 < cLine) : OpR X (compareOp .Lt) (rOrd X.K PySem.W.dataLt) := by
  rintro pins s σ H x y v u Q I rx ry ⟨d, e, hd, he, al, nn, dp, q⟩
  obtain ⟨as, r1⟩ := Dp.reads I d x v hd rx
  obtain ⟨bs, r2⟩ := Dp.reads I e y u he ry
  exact PySem.W.lt_data r1 r2 al nn (by have := Nat.min_le_left d.depth e.depth; omega) ⟨.bl _, H, I, rfl, q⟩
theorem op_gtD (hu : X.A.units + 64 < cLine) : OpR X (compareOp .Gt) (rOrd X.K fun d e => PySem.W.dataLt e d) := by
  rintro pins s σ H x y v u Q I rx ry ⟨d, e, hd, he, al, nn, dp, q⟩
  obtain ⟨as, r1⟩ := Dp.reads I d x v hd rx
  obtain ⟨bs, r2⟩ := Dp.reads I e y u he ry
  exact PySem.W.gt_data r1 r2 al nn (by have := Nat.min_le_left d.depth e.depth; omega) ⟨.bl _, H, I, rfl, q⟩
theorem op_leD (hu : X.A.units + 64 < cLine) : OpR X (compareOp .LtE) (rOrd X.K fun d e => !PySem.W.dataLt e d) := by
  rintro pins s σ H x y v u Q I rx ry ⟨d, e, hd, he, al, nn, dp, q⟩
  obtain ⟨as, r1⟩ := Dp.reads I d x v hd rx
  obtain ⟨bs, r2⟩ := Dp.reads I e y u he ry
  exact PySem.W.le_data r1 r2 al nn (by have := Nat.min_le_left d.depth e.depth; omega) ⟨.bl _, H, I, rfl, q⟩
theorem op_geD (hu : X.A.units + 64 < cLine) : OpR X (compareOp .GtE) (rOrd X.K fun d e => !PySem.W.dataLt d e) := by
  rintro pins s σ H x y v u Q I rx ry ⟨d, e, hd, he, al, nn, dp, q⟩
  obtain ⟨as, r1⟩ := Dp.reads I d x v hd rx
  obtain ⟨bs, r2⟩ := Dp.reads I e y u he ry
  exact PySem.W.ge_data r1 r2 al nn (by have := Nat.min_le_left d.depth e.depth; omega) ⟨.bl _, H, I, rfl, q⟩
def dOrd (f : PyData → PyData → Bool) (x y : PyData) (P : PyData → Prop) : Prop := (x.hasDict = false ∧ y.hasDict = false) ∧ PySem.W.alike x y = true ∧ x ≠ .none ∧ x.depth ≤ 60 ∧ P (.bool (f x y))
theorem sv_ord {K : PySem.W.Frag} {f : PyData → PyData → Bool} : Serves K (rOrd K f) (dOrd f) := by
  intro G k ρ σ F H x y a b P R en hb dx dy q r
  exact ⟨a, b, Dt.dp en.same dx q.1.1, Dt.dp en.same dy q.1.2, q.2.1, q.2.2.1, q.2.2.2.1, r _ _ F H en (Same.refl F) (.bl _) q.2.2.2.2⟩
/-- ints alone -/
def dIB (f : Int → Int → Bool) (x y : PyData) (P : PyData → Prop) : Prop := asI x fun i => asI y fun j => P (.bool (f i j))
theorem svIB {K : PySem.W.Frag} {f : Int → Int → Bool} : Serves K (rI0 fun i j => .bl (f i j)) (dIB f) := by
  intro G k ρ σ F H x y a b P R en _ dx dy q r
  obtain ⟨i, rfl, q1⟩ := asI_of q
  obtain ⟨j, rfl, q2⟩ := asI_of q1
  exact ⟨i, j, dx.inv_int, dy.inv_int, r _ _ F H en (Same.refl F) (.bl _) q2⟩
/-- in -/
def rInA (K : PySem.W.Frag) (f : Bool → Bool) : R2 := fun x y H Q => ∃ d e ds, Dp K H x d ∧ Dp K H y e ∧ (e = .list ds ∨ e = .tuple ds) ∧ SeqAt.shaped d = true ∧ SeqAt.shaped e = true ∧ Q (.bl (f (ds.any fun z => PyData.eqv z d))) H
theorem op_inA (hu : X.A.units + 65 < cLine) : OpR X (compareOp .In) (rInA X.K id) := by
  rintro pins s σ H x y v u Q I rx ry ⟨d, e, ds, hd, he, ee, sd, se, q⟩
  obtain ⟨as, r1⟩ := Dp.reads I d x v hd rx
  obtain ⟨bs, r2⟩ := Dp.reads I e y u he ry
  rcases ee with rfl | rfl
  · exact SeqAt.in_list_reads r2 r1 (SeqAt.canLay_of_shaped se) (SeqAt.canLay_of_shaped sd) (room_in_shaped sd hu) ⟨.bl _, H, I, rfl, q⟩
  · exact SeqAt.in_tuple_reads r2 r1 (SeqAt.canLay_of_shaped se) (SeqAt.canLay_of_shaped sd) (room_in_shaped sd hu) ⟨.bl _, H, I, rfl, q⟩
theorem op_ninA (hu : X.A.units + 65 < cLine) : OpR X (compareOp .NotIn) (rInA X.K not) := by
  rintro pins s σ H x y v u Q I rx ry ⟨d, e, ds, hd, he, ee, sd, se, q⟩
  obtain ⟨as, r1⟩ := Dp.reads I d x v hd rx
  obtain ⟨bs, r2⟩ := Dp.reads I e y u he ry
  rcases ee with rfl | rfl
  · exact SeqAt.notIn_list_reads r2 r1 (SeqAt.canLay_of_shaped se) (SeqAt.canLay_of_shaped sd) (room_in_shaped sd hu) ⟨.bl _, H, I, rfl, q⟩
  · exact SeqAt.notIn_tuple_reads r2 r1 (SeqAt.canLay_of_shaped se) (SeqAt.canLay_of_shaped sd) (room_in_shaped sd hu) ⟨.bl _, H, I, rfl, q⟩
def asSeq (y : PyData) (P : List PyData → Prop) : Prop := match y with
  | .list ds => P ds
  | .tuple ds => P ds
  | _ => False
def dIn (f : Bool → Bool) (x y : PyData) (P : PyData → Prop) : Prop := okD x ∧ okD y ∧ asSeq y fun ds => P (.bool (f (ds.any fun z => PyData.eqv z x)))
theorem sv_in {K : PySem.W.Frag} {f : Bool → Bool} : Serves K (rInA K f) (dIn f) := by
  intro G k ρ σ F H x y a b P R en hb dx dy q r
  obtain ⟨q1, q2, q3⟩ := q
  unfold asSeq at q3
  split at q3
  · rename_i ds
    exact ⟨a, .list ds, ds, Dt.dp en.same dx (nd_ok q1), Dt.dp en.same dy (nd_ok q2), .inl rfl, q1, q2, r _ _ F H en (Same.refl F) (.bl _) q3⟩
  · rename_i ds
    exact ⟨a, .tuple ds, ds, Dt.dp en.same dx (nd_ok q1), Dt.dp en.same dy (nd_ok q2), .inr rfl, q1, q2, r _ _ F H en (Same.refl F) (.bl _) q3⟩
  · exact q3.elim
/-- a sign in a text -/
def dInS (f : Bool → Bool) (x y : PyData) (P : PyData → Prop) : Prop := asS x fun a => asS y fun z => ∃ c, a = ⟨#[c]⟩ ∧ P (.bool (f (decide (c ∈ z.cps.toList))))
theorem sv_inS {K : PySem.W.Frag} : Serves K (fun x y H Q => ∃ (c : Nat) (z : Str), x = .str ⟨#[c]⟩ ∧ y = .str z ∧ Q (.bl (decide (c ∈ z.cps.toList))) H) (dInS id) := by
  intro G k ρ σ F H x y a b P R en hb dx dy q r
  obtain ⟨s, rfl, q1⟩ := asS_of q
  obtain ⟨z, rfl, c, rfl, q2⟩ := asS_of q1
  exact ⟨c, z, dx.inv_str, dy.inv_str, r _ _ F H en (Same.refl F) (.bl _) q2⟩
theorem sv_ninS {K : PySem.W.Frag} : Serves K (fun x y H Q => ∃ (c : Nat) (z : Str), x = .str ⟨#[c]⟩ ∧ y = .str z ∧ Q (.bl (!decide (c ∈ z.cps.toList))) H) (dInS not) := by
  intro G k ρ σ F H x y a b P R en hb dx dy q r
  obtain ⟨s, rfl, q1⟩ := asS_of q
  obtain ⟨z, rfl, c, rfl, q2⟩ := asS_of q1
  exact ⟨c, z, dx.inv_str, dy.inv_str, r _ _ F H en (Same.refl F) (.bl _) q2⟩
/-- is None, is True -/
theorem sv_isN {K : PySem.W.Frag} : Serves K (fun x y H Q => y = .non ∧ Q (.bl (decide (x = .non))) H) (fun x y P => y = .none ∧ P (.bool (match x with | .none => true | _ => false))) := by
  intro G k ρ σ F H x y a b P R en hb dx dy q r
  obtain ⟨rfl, q⟩ := q
  refine ⟨dy.inv_non, r _ _ F H en (Same.refl F) ?_ q⟩
  cases dx with
  | non => exact .bl _
  | bl b => exact .bl _
  | int b => exact .bl _
  | str b => exact .bl _
  | lst a b => exact .bl _
  | tup a b => exact .bl _
  | dct a b => exact .bl _
theorem sv_notN {K : PySem.W.Frag} : Serves K (fun x y H Q => y = .non ∧ Q (.bl (!decide (x = .non))) H) (fun x y P => y = .none ∧ P (.bool (match x with | .none => false | _ => true))) := by
  intro G k ρ σ F H x y a b P R en hb dx dy q r
  obtain ⟨rfl, q⟩ := q
  refine ⟨dy.inv_non, r _ _ F H en (Same.refl F) ?_ q⟩
  cases dx with
  | non => exact .bl _
  | bl b => exact .bl _
  | int b => exact .bl _
  | str b => exact .bl _
  | lst a b => exact .bl _
  | tup a b => exact .bl _
  | dct a b => exact .bl _
theorem sv_isB {K : PySem.W.Frag} : Serves K rIsB (fun x y P => asB x fun b => asB y fun c => P (.bool (decide (b = c)))) := by
  intro G k ρ σ F H x y a b P R en hb dx dy q r
  obtain ⟨i, rfl, q1⟩ := asB_of q
  obtain ⟨j, rfl, q2⟩ := asB_of q1
  exact ⟨i, j, dx.inv_bl, dy.inv_bl, r _ _ F H en (Same.refl F) (.bl _) q2⟩
/-- the two forms of a comparison -/
theorem de_cmp {op : CmpOp} {r : R2} {d : PyData → PyData → (PyData → Prop) → Prop} (ho : OpR X (compareOp op) r) (sv : Serves X.K r d) (ha : DE X a fa) (hb : DE X b fb) (hm : behindInMarks op b = false := by first | exact nomark _ | rfl) :
    DE X (.Compare a [op] [b] pos) (dOp d fa fb) := opD (fun p q => pe_cmpR ho p q hm) sv ha hb
theorem dpt_cmp {op : CmpOp} {r : R2} {d : PyData → PyData → (PyData → Prop) → Prop} (ho : OpR X (compareOp op) r) (sv : Serves X.K r d) (ha : DE X a fa) (hb : DE X b fb) (hm : behindInMarks op b = false := by first | exact nomark _ | rfl) :
    DPt X (.Compare a [op] [b] pos) (dTest (dOp d fa fb)) := opT (fun p q => pt_cmpR ho p q hm) sv ha hb

/-! ### subscripts, slices -/
def dIx (x y : PyData) (P : PyData → Prop) : Prop := match x, y with
  | .list xs, .int i => ∃ z, atI xs i = some z ∧ P z
  | .tuple xs, .int i => ∃ z, atI xs i = some z ∧ P z
  | .str s, .int i => s.length ≤ sizeLine ∧ ∃ c, atI s.cps.toList i = some c ∧ P (.str ⟨#[c]⟩)
  | _, _ => False
theorem atI_D {K : PySem.W.Frag} {F : Hp} {vs : List V} {xs : List PyData} {i : Int} {z : PyData} (d : DtAll K F vs xs) (h : atI xs i = some z) : ∃ v, atI vs i = some v ∧ Dt K F v z := by
  unfold atI at h ⊢
  rw [DtAll.len d]
  cases e : ixN xs.length i with
  | none => rw [e] at h; cases h
  | some j =>
    rw [e] at h
    exact DtAll.at d h
theorem ix_all : IxR X (fun x y H Q => rIxL X.K x y H Q ∨ rIxT X.K x y H Q ∨ rIxS x y H Q) := IxR.or ix_list (IxR.or ix_tup ix_str)
theorem sv_ix {K : PySem.W.Frag} : Serves K (fun x y H Q => rIxL K x y H Q ∨ rIxT K x y H Q ∨ rIxS x y H Q) dIx := by
  intro G k ρ σ F H x y a b P R en hb dx dy q r
  unfold dIx at q
  split at q
  · obtain ⟨z, e, pz⟩ := q
    obtain ⟨p, vs, rfl, t1, d1⟩ := dx.inv_lst
    obtain ⟨v, e2, dv⟩ := atI_D d1 e
    exact .inl ⟨p, vs, _, v, rfl, dy.inv_int, .inl (.inl (en.same _ _ t1)), e2, r _ _ F H en (Same.refl F) dv pz⟩
  · obtain ⟨z, e, pz⟩ := q
    obtain ⟨p, vs, rfl, t1, d1⟩ := dx.inv_tup
    obtain ⟨v, e2, dv⟩ := atI_D d1 e
    exact .inr (.inl ⟨p, vs, _, v, rfl, dy.inv_int, seqT en.same t1, e2, r _ _ F H en (Same.refl F) dv pz⟩)
  · obtain ⟨hz, c, e, pz⟩ := q
    exact .inr (.inr ⟨_, _, c, dx.inv_str, dy.inv_int, hz, e, r _ _ F H en (Same.refl F) (.str _) pz⟩)
  · exact q.elim
theorem de_ix (ha : DE X a fa) (hb : DE X b fb) (hs : PlainIx b := by exact fun _ _ => rfl) : DE X (.Subscript a b pos) (dOp dIx fa fb) := opD (fun p q => pe_ix ix_all p q hs) sv_ix ha hb
end

/-! ### built-in calls -/
/-- what a call of a built-in asks of data, and gives -/
def dB (d : List PyData → (PyData → Prop) → Prop) (f : DL) : DT := fun ρ k Q => f ρ k fun xs ρ1 k1 => d xs fun z => Q z ρ1 k1
def ServesL (K : PySem.W.Frag) (r : List V → Hp → VK → Prop) (d : List PyData → (PyData → Prop) → Prop) : Prop :=
  ∀ (G : Gh) (k : Nat) (ρ : Slots) (σ : St) (F H : Hp) (vs : List V) (xs : List PyData) (P : PyData → Prop) (R : VK), EnvR K G k ρ σ H F → HB K H → DtAll K F vs xs → d xs P →
    (∀ v z F' H', EnvR K G k ρ σ H' F' → Same F F' → Dt K F' v z → P z → R v H') → r vs H R
theorem callD {e : Expr} {es : List Expr} {r : List V → Hp → VK → Prop} {d : List PyData → (PyData → Prop) → Prop} {f : DL} (mk : ∀ {t : TA}, PA X es t → PE X e (tCB r t)) (sv : ServesL X.K r d) (ha : DLs X es f) : DE X e (dB d f) := by
  refine peW (mk (paB ha)) ?_
  rintro σ H R ⟨G, k, ρ, F, Q, en, hf, q⟩ _
  refine cLI en hf ?_
  intro ρ1 vs H1 F1 k1 xs en1 s1 d1 pz hb
  refine sv G k1 ρ1 σ F1 H1 vs xs _ _ en1 hb d1 pz ?_
  intro v z F' H' en2 s2 dz pw
  exact q v H' F' k1 z en2 (s1.trans s2) dz pw
section
variable {x : Str} {p pos : Pos} {e : Expr} {es : List Expr} {f : DL} {id : String} {r : List V → Hp → VK → Prop} {d : List PyData → (PyData → Prop) → Prop}
theorem de_b (hc : CallR X (.builtin id) r) (sv : ServesL X.K r d) (hg : Gl X x) (hm : X.mg x = none) (ha : DLs X (e :: es) f) (hv : bootBuiltins x = some (.builtin id) := by decide +kernel) (hn : x ≠ "__name__" := by decide) (hdb : (x == ("__debug__" : Str)) = false := by decide)
    (he : starEach (e :: es) X.env = (false, eval e X.env) :: starEach es X.env := by rfl) (hpl : (backTo pos (starEach es X.env)).any (·.1) = false := by rfl) : DE X (.Call (.Name x p) (e :: es) [] pos) (dB d f) :=
  callD (fun h => pe_callB hc hg hm hv h hn hdb he hpl) sv ha
theorem de_ty (hc : CallR X (.type id) r) (sv : ServesL X.K r d) (hg : Gl X x) (hm : X.mg x = none) (ha : DLs X (e :: es) f) (hv : bootBuiltins x = some (.type id) := by decide +kernel) (hn : x ≠ "__name__" := by decide) (hdb : (x == ("__debug__" : Str)) = false := by decide)
    (he : starEach (e :: es) X.env = (false, eval e X.env) :: starEach es X.env := by rfl) (hpl : (backTo pos (starEach es X.env)).any (·.1) = false := by rfl) : DE X (.Call (.Name x p) (e :: es) [] pos) (dB d f) :=
  callD (fun h => pe_callTy hc hg hm hv h hn hdb he hpl) sv ha
theorem de_bf (hc : CallR X (.builtin id) r) (sv : ServesL X.K r d) (hg : Gl X x) (hm : X.mg x = some (.builtin id)) (ha : DLs X (e :: es) f) (hdb : (x == ("__debug__" : Str)) = false := by decide)
    (he : starEach (e :: es) X.env = (false, eval e X.env) :: starEach es X.env := by rfl) (hpl : (backTo pos (starEach es X.env)).any (·.1) = false := by rfl) : DE X (.Call (.Name x p) (e :: es) [] pos) (dB d f) :=
  callD (fun h => pe_callBfun hc hg hm h hdb he hpl) sv ha
end
def one (d : PyData → (PyData → Prop) → Prop) (xs : List PyData) (P : PyData → Prop) : Prop := match xs with
  | [x] => d x P
  | _ => False
def two (d : PyData → PyData → (PyData → Prop) → Prop) (xs : List PyData) (P : PyData → Prop) : Prop := match xs with
  | [x, y] => d x y P
  | _ => False
theorem one_of {d : PyData → (PyData → Prop) → Prop} {xs : List PyData} {P : PyData → Prop} (h : one d xs P) : ∃ x, xs = [x] ∧ d x P := by
  unfold one at h; split at h
  · exact ⟨_, rfl, h⟩
  · exact h.elim
theorem two_of {d : PyData → PyData → (PyData → Prop) → Prop} {xs : List PyData} {P : PyData → Prop} (h : two d xs P) : ∃ x y, xs = [x, y] ∧ d x y P := by
  unfold two at h; split at h
  · exact ⟨_, _, rfl, h⟩
  · exact h.elim
theorem DtAll.one' {K : PySem.W.Frag} {F : Hp} {vs : List V} {x : PyData} (h : DtAll K F vs [x]) : ∃ v, vs = [v] ∧ Dt K F v x := by
  cases h with
  | cons h r => cases r; exact ⟨_, rfl, h⟩
theorem DtAll.two' {K : PySem.W.Frag} {F : Hp} {vs : List V} {x y : PyData} (h : DtAll K F vs [x, y]) : ∃ v w, vs = [v, w] ∧ Dt K F v x ∧ Dt K F w y := by
  cases h with
  | cons h r =>
    obtain ⟨w, rfl, h2⟩ := r.one'
    exact ⟨_, w, rfl, h, h2⟩
/-- len -/
def dLen (x : PyData) (P : PyData → Prop) : Prop := match x with
  | .list xs => P (.int xs.length)
  | .tuple xs => P (.int xs.length)
  | .str s => s.length ≤ sizeLine ∧ P (.int s.length)
  | _ => False
theorem sv_len {K : PySem.W.Frag} : ServesL K (fun xs H Q => ∃ x n, xs = [x] ∧ LenV K x H n ∧ Q (.int n) H) (one dLen) := by
  intro G k ρ σ F H vs xs P R en hb da q r
  obtain ⟨x, rfl, q0⟩ := one_of q
  obtain ⟨v, rfl, dx⟩ := da.one'
  unfold dLen at q0
  split at q0
  · obtain ⟨p, ws, rfl, t1, d1⟩ := dx.inv_lst
    exact ⟨_, _, rfl, .inl ⟨ws, .inl (.inl (en.same _ _ t1)), rfl⟩, r _ _ F H en (Same.refl F) (.int _) (by rw [DtAll.len d1]; exact q0)⟩
  · obtain ⟨p, ws, rfl, t1, d1⟩ := dx.inv_tup
    exact ⟨_, _, rfl, .inr ⟨ws, seqT en.same t1, rfl⟩, r _ _ F H en (Same.refl F) (.int _) (by rw [DtAll.len d1]; exact q0)⟩
  · cases dx
    exact ⟨_, _, rfl, ⟨q0.1, rfl⟩, r _ _ F H en (Same.refl F) (.int _) q0.2⟩
  · exact q0.elim
/-- abs, gcd -/
theorem sv_abs {K : PySem.W.Frag} : ServesL K (fun xs H Q => ∃ i, xs = [.int i] ∧ Q (.int (if i < 0 then -i else i)) H) (one fun x P => asI x fun i => P (.int (if i < 0 then -i else i))) := by
  intro G k ρ σ F H vs xs P R en hb da q r
  obtain ⟨x, rfl, q⟩ := one_of q
  obtain ⟨v, rfl, dx⟩ := da.one'
  obtain ⟨i, rfl, q⟩ := asI_of q
  exact ⟨i, by rw [dx.inv_int], r _ _ F H en (Same.refl F) (.int _) q⟩
theorem sv_gcd {K : PySem.W.Frag} : ServesL K rGcd (two fun x y P => asI x fun i => asI y fun j => P (.int ((Nat.gcd i.natAbs j.natAbs : Nat) : Int))) := by
  intro G k ρ σ F H vs xs P R en hb da q r
  obtain ⟨x, y, rfl, q⟩ := two_of q
  obtain ⟨v, w, rfl, dx, dy⟩ := da.two'
  obtain ⟨i, rfl, q1⟩ := asI_of q
  obtain ⟨j, rfl, q2⟩ := asI_of q1
  exact ⟨i, j, by rw [dx.inv_int, dy.inv_int], r _ _ F H en (Same.refl F) (.int _) q2⟩
/-- str of an int -/
theorem sv_strI {K : PySem.W.Frag} : ServesL K (fun xs H Q => ∃ i, xs = [.int i] ∧ i.natAbs.log2 < 1920 ∧ Q (.str (toString i)) H) (one fun x P => asI x fun i => i.natAbs.log2 < 1920 ∧ P (.str (toString i))) := by
  intro G k ρ σ F H vs xs P R en hb da q r
  obtain ⟨x, rfl, q⟩ := one_of q
  obtain ⟨v, rfl, dx⟩ := da.one'
  obtain ⟨i, rfl, hz, q⟩ := asI_of q
  exact ⟨i, by rw [dx.inv_int], hz, r _ _ F H en (Same.refl F) (.str _) q⟩
/-- int of a bool, of an int -/
def dInt (x : PyData) (P : PyData → Prop) : Prop := match x with
  | .int i => P (.int i)
  | .bool b => P (.int (if b = true then 1 else 0))
  | _ => False
/-- tuple, list of a sequence -/
theorem sv_tuple {K : PySem.W.Frag} : ServesL K (fun xs H Q => ∃ p ys, xs = [.ref p] ∧ ((SqL K H p ys ∧ ∀ l, H l = none → Q (.ref l) (upd H l (.tup ys))) ∨ (SqT K H p ys ∧ Q (.ref p) H))) (one fun x P => asSeq x fun ds => P (.tuple ds)) := by
  intro G k ρ σ F H vs xs P R en hb da q r
  obtain ⟨x, rfl, q0⟩ := one_of q
  obtain ⟨v, rfl, dx⟩ := da.one'
  unfold asSeq at q0
  split at q0
  · obtain ⟨p, ws, rfl, t1, d1⟩ := dx.inv_lst
    refine ⟨p, ws, rfl, .inl ⟨.inl (.inl (en.same _ _ t1)), fun l hl => ?_⟩⟩
    obtain ⟨en2, s2⟩ := en.laid (o := .tup ws) hl
    exact r _ _ _ _ en2 s2 (.tup (.inl (.inl upd_same)) (DtAll.up s2 d1)) q0
  · obtain ⟨p, ws, rfl, t1, d1⟩ := dx.inv_tup
    exact ⟨p, ws, rfl, .inr ⟨seqT en.same t1, r _ _ F H en (Same.refl F) dx q0⟩⟩
  · exact q0.elim
theorem sv_list {K : PySem.W.Frag} : ServesL K (fun xs H Q => ∃ p ys, xs = [.ref p] ∧ (SqL K H p ys ∨ SqT K H p ys) ∧ ∀ l, H l = none → Q (.ref l) (upd H l (.lst ys))) (one fun x P => asSeq x fun ds => P (.list ds)) := by
  intro G k ρ σ F H vs xs P R en hb da q r
  obtain ⟨x, rfl, q0⟩ := one_of q
  obtain ⟨v, rfl, dx⟩ := da.one'
  unfold asSeq at q0
  split at q0
  · obtain ⟨p, ws, rfl, t1, d1⟩ := dx.inv_lst
    refine ⟨p, ws, rfl, .inl (.inl (.inl (en.same _ _ t1))), fun l hl => ?_⟩
    obtain ⟨en2, s2⟩ := en.laid (o := .lst ws) hl
    exact r _ _ _ _ en2 s2 (.lst upd_same (DtAll.up s2 d1)) q0
  · obtain ⟨p, ws, rfl, t1, d1⟩ := dx.inv_tup
    refine ⟨p, ws, rfl, .inr (seqT en.same t1), fun l hl => ?_⟩
    obtain ⟨en2, s2⟩ := en.laid (o := .lst ws) hl
    exact r _ _ _ _ en2 s2 (.lst upd_same (DtAll.up s2 d1)) q0
  · exact q0.elim
/-- repr -/
def rRepr (K : PySem.W.Frag) : List V → Hp → VK → Prop := fun vs H Q => ∃ v d, vs = [v] ∧ Dp K H v d ∧ d.showable = true ∧ d.hasDict = false ∧ d.depth ≤ 60 ∧ d.shown.length ≤ sizeLine ∧ Q (.str d.shown) H
theorem cr_repr (gd : X.A.guards = some []) (hu : X.A.units + 64 < cLine) : CallR X (.builtin "repr") (rRepr X.K) := by
  rintro pins s σ H vs us Q I rv ⟨v, d, rfl, hd, sh, nd, dp, hz, q⟩
  obtain ⟨u, rfl, ru⟩ := vals1 rv
  cases hd with
  | non =>
    cases ru
    exact PySem.P.repr_of_none ⟨.str _, H, I.tok _, ⟨_, rfl⟩, q⟩
  | bl b =>
    cases ru
    exact PySem.P.repr_of_bool ⟨.str _, H, I.tok _, ⟨_, rfl⟩, q⟩
  | int i =>
    obtain ⟨t, rfl⟩ := ru
    exact PySem.P.repr_of_int (by simpa [PyData.showable] using sh) ⟨.str _, H, I.tok _, ⟨_, rfl⟩, q⟩
  | str z =>
    obtain ⟨t, rfl⟩ := ru
    exact PySem.P.repr_of_str ⟨.str _, H, I.tok _, ⟨_, rfl⟩, q⟩ hz
  | lst h1 h2 =>
    obtain ⟨as, rd⟩ := Dp.reads I _ _ u (.lst h1 h2) ru
    cases ru
    exact repr_of_reads' rd sh (fun z => absurd (nd.symm.trans z) nofun) gd (by omega) (fun _ _ e => e) (fun h' u tk kp => ⟨.str _, H, I.kept kp, ⟨_, rfl⟩, q⟩) hz
  | tup h1 h2 =>
    obtain ⟨as, rd⟩ := Dp.reads I _ _ u (.tup h1 h2) ru
    cases ru
    exact repr_of_reads' rd sh (fun z => absurd (nd.symm.trans z) nofun) gd (by omega) (fun _ _ e => e) (fun h' u tk kp => ⟨.str _, H, I.kept kp, ⟨_, rfl⟩, q⟩) hz
/-- what can be shown -/
def okR (d : PyData) : Prop := d.showable = true ∧ d.hasDict = false ∧ d.depth ≤ 60 ∧ d.shown.length ≤ sizeLine
theorem sv_repr {K : PySem.W.Frag} : ServesL K (rRepr K) (one fun x P => okR x ∧ P (.str x.shown)) := by
  intro G k ρ σ F H vs xs P R en hb da q r
  obtain ⟨x, rfl, ⟨h1, h2, h3, h4⟩, q⟩ := one_of q
  obtain ⟨v, rfl, dx⟩ := da.one'
  exact ⟨v, x, rfl, Dt.dp en.same dx h2, h1, h2, h3, h4, r _ _ F H en (Same.refl F) (.str _) q⟩
end
end Wc

/-! isinstance, methods of lists that a slot holds, a def by its body over data. -/
namespace Wc
open PySem PySem.Spec PyProof.Rows L2
def isi (T : String) (x : PyData) : Bool := match x with
  | .none => false
  | .bool _ => T == "bool" || T == "int"
  | .int _ => T == "int"
  | .str _ => T == "str"
  | .list _ => T == "list"
  | .tuple _ => T == "tuple"
  | .dict _ => T == "dict"
/-- the built-in classes that are asked for here -/
def plainT (T : String) : Prop := T = "int" ∨ T = "bool" ∨ T = "str" ∨ T = "tuple" ∨ T = "list"
theorem kit_isi {K : PySem.W.Frag} {T : String} (hT : plainT T) {F H : Hp} {v : V} {x : PyData} (s : Same F H) (h : Dt K F v x) : ∃ t, TyX K H v t ∧ PySem.W.kitOne K t (.type T) = some (isi T x) := by
  cases h with
  | non => exact ⟨_, .base .non, by rcases hT with rfl | rfl | rfl | rfl | rfl <;> first | exact kit_ty (r := true) (by decide +kernel) | exact kit_ty (r := false) (by decide +kernel)⟩
  | bl b => exact ⟨_, .base (.bl b), by rcases hT with rfl | rfl | rfl | rfl | rfl <;> first | exact kit_ty (r := true) (by decide +kernel) | exact kit_ty (r := false) (by decide +kernel)⟩
  | int i => exact ⟨_, .base (.int i), by rcases hT with rfl | rfl | rfl | rfl | rfl <;> first | exact kit_ty (r := true) (by decide +kernel) | exact kit_ty (r := false) (by decide +kernel)⟩
  | str z => exact ⟨_, .base (.str z), by rcases hT with rfl | rfl | rfl | rfl | rfl <;> first | exact kit_ty (r := true) (by decide +kernel) | exact kit_ty (r := false) (by decide +kernel)⟩
  | lst e _ => exact ⟨_, .base (.lst (s _ _ e)), by rcases hT with rfl | rfl | rfl | rfl | rfl <;> first | exact kit_ty (r := true) (by decide +kernel) | exact kit_ty (r := false) (by decide +kernel)⟩
  | dct e _ => exact ⟨_, .base (.dK (s _ _ e)), by rcases hT with rfl | rfl | rfl | rfl | rfl <;> first | exact kit_ty (r := true) (by decide +kernel) | exact kit_ty (r := false) (by decide +kernel)⟩
  | tup e _ =>
    have e2 := seqT s e
    have fin : ∀ ds, PySem.W.kitOne K (.type "tuple") (.type T) = some (isi T (.tuple ds)) := fun ds => by rcases hT with rfl | rfl | rfl | rfl | rfl <;> first | exact kit_ty (r := true) (by decide +kernel) | exact kit_ty (r := false) (by decide +kernel)
    rcases e2 with (z | ⟨o, z⟩) | ⟨o, its, n, z, c, _⟩
    · exact ⟨_, .base (.tup z), fin _⟩
    · exact ⟨_, .fTuple z, fin _⟩
    · exact ⟨_, .kTuple z c, fin _⟩
section
variable {X : Cx}
def wInt : PyData → Bool
  | .none => false | .bool _ => true | .int _ => true | .str _ => false | .list _ => false | .tuple _ => false | .dict _ => false
def wBool : PyData → Bool
  | .none => false | .bool _ => true | .int _ => false | .str _ => false | .list _ => false | .tuple _ => false | .dict _ => false
def wStr : PyData → Bool
  | .none => false | .bool _ => false | .int _ => false | .str _ => true | .list _ => false | .tuple _ => false | .dict _ => false
def wTup : PyData → Bool
  | .none => false | .bool _ => false | .int _ => false | .str _ => false | .list _ => false | .tuple _ => true | .dict _ => false
def wLst : PyData → Bool
  | .none => false | .bool _ => false | .int _ => false | .str _ => false | .list _ => true | .tuple _ => false | .dict _ => false
theorem isi_int : isi "int" = wInt := funext fun x => by cases x <;> rfl
theorem isi_bool : isi "bool" = wBool := funext fun x => by cases x <;> rfl
theorem isi_str : isi "str" = wStr := funext fun x => by cases x <;> rfl
theorem isi_tup : isi "tuple" = wTup := funext fun x => by cases x <;> rfl
theorem isi_lst : isi "list" = wLst := funext fun x => by cases x <;> rfl
theorem wInt_none : wInt .none = false := rfl
theorem wInt_bool {a : Bool} : wInt (.bool a) = true := rfl
theorem wInt_int {a : Int} : wInt (.int a) = true := rfl
theorem wInt_str {a : Str} : wInt (.str a) = false := rfl
theorem wInt_list {a : List PyData} : wInt (.list a) = false := rfl
theorem wInt_tuple {a : List PyData} : wInt (.tuple a) = false := rfl
theorem wInt_dict {a : List (PyData × PyData)} : wInt (.dict a) = false := rfl
theorem wBool_none : wBool .none = false := rfl
theorem wBool_bool {a : Bool} : wBool (.bool a) = true := rfl
theorem wBool_int {a : Int} : wBool (.int a) = false := rfl
theorem wBool_str {a : Str} : wBool (.str a) = false := rfl
theorem wBool_list {a : List PyData} : wBool (.list a) = false := rfl
theorem wBool_tuple {a : List PyData} : wBool (.tuple a) = false := rfl
theorem wBool_dict {a : List (PyData × PyData)} : wBool (.dict a) = false := rfl
theorem wStr_none : wStr .none = false := rfl
theorem wStr_bool {a : Bool} : wStr (.bool a) = false := rfl
theorem wStr_int {a : Int} : wStr (.int a) = false := rfl
theorem wStr_str {a : Str} : wStr (.str a) = true := rfl
theorem wStr_list {a : List PyData} : wStr (.list a) = false := rfl
theorem wStr_tuple {a : List PyData} : wStr (.tuple a) = false := rfl
theorem wStr_dict {a : List (PyData × PyData)} : wStr (.dict a) = false := rfl
theorem wTup_none : wTup .none = false := rfl
theorem wTup_bool {a : Bool} : wTup (.bool a) = false := rfl
theorem wTup_int {a : Int} : wTup (.int a) = false := rfl
theorem wTup_str {a : Str} : wTup (.str a) = false := rfl
theorem wTup_list {a : List PyData} : wTup (.list a) = false := rfl
theorem wTup_tuple {a : List PyData} : wTup (.tuple a) = true := rfl
theorem wTup_dict {a : List (PyData × PyData)} : wTup (.dict a) = false := rfl
theorem wLst_none : wLst .none = false := rfl
theorem wLst_bool {a : Bool} : wLst (.bool a) = false := rfl
theorem wLst_int {a : Int} : wLst (.int a) = false := rfl
theorem wLst_str {a : Str} : wLst (.str a) = false := rfl
theorem wLst_list {a : List PyData} : wLst (.list a) = true := rfl
theorem wLst_tuple {a : List PyData} : wLst (.tuple a) = false := rfl
theorem wLst_dict {a : List (PyData × PyData)} : wLst (.dict a) = false := rfl
def dIsi (t : PyData → Bool) (f : DT) : DT := fun ρ k Q => f ρ k fun x ρ1 k1 => Q (.bool (t x)) ρ1 k1
theorem de_isi {T : String} {t : PyData → Bool} {n : Str} {a : Expr} {f : DT} {p pn pos : Pos} (hT : plainT T) (ht : isi T = t) (hg : Gl X "isinstance") (hm : X.mg "isinstance" = none) (hgn : Gl X n) (hmn : X.mg n = none) (ha : DE X a f) (hbn : bootBuiltins n = some (.type T) := by decide +kernel) (n1 : n ≠ "__name__" := by decide) (n2 : (n == ("__debug__" : Str)) = false := by decide)
    (he : starEach [a, .Name n pn] X.env = (false, eval a X.env) :: starEach [.Name n pn] X.env := by rfl) (he2 : starEach [.Name n pn] X.env = (false, eval (.Name n pn) X.env) :: starEach [] X.env := by rfl) (hpl : (backTo pos (starEach [.Name n pn] X.env)).any (·.1) = false := by rfl) :
    DE X (.Call (.Name "isinstance" p) [a, .Name n pn] [] pos) (dIsi t f) := by
  subst ht
  refine peW (pe_callB call_isi hg hm (by decide +kernel) (pa_cons ha (pa_cons (pe_bltn (v := .ty T) hgn hmn hbn rfl n1 n2) pa_nil he2) he) (by decide) (by decide) he hpl) ?_
  rintro σ H R ⟨G, k, ρ, F, Q, en, hf, q⟩
  refine cEI en hf ?_
  intro ρ1 v H1 F1 k1 x en1 s1 d1 pz
  obtain ⟨t, h1, h2⟩ := kit_isi hT en1.same d1
  exact ⟨v, .ty T, t, _, _, rfl, .ty T, h1, h2, q _ _ _ _ _ en1 s1 (.bl _) pz⟩

/-! ### lists that a slot holds -/
def asO (o : Option Sl) (P : List PyData → Prop) : Prop := match o with
  | some (.own (.l xs)) => P xs
  | _ => False
theorem asO_of {o : Option Sl} {P : List PyData → Prop} (h : asO o P) : ∃ xs, o = some (.own (.l xs)) ∧ P xs := by
  unfold asO at h; split at h
  · exact ⟨_, rfl, h⟩
  · exact h.elim
/-- the own list of slot i is changed -/
theorem EnvR.mend {K : PySem.W.Frag} {G : Gh} {k : Nat} {ρ : Slots} {σ : St} {H F : Hp} {i : Nat} {xs ys : List PyData} {a : Addr} {ws : List V} (h : EnvR K G k ρ σ H F) (e : ρ[i]? = some (.own (.l xs))) (e2 : σ[i]? = some (some (.ref a))) (nF : F a = none) (nB : G.B a = none) (d : DtAll K F ws ys) :
    EnvR K G k (ρ.set i (.own (.l ys))) σ (upd H a (.lst ws)) F := by
  have li : i < ρ.length := (List.getElem?_eq_some_iff.mp e).1
  refine ⟨h.toHeR.put nF nB, by rw [List.length_set]; exact h.len, fun j s q => ?_, fun j j' o p b ne e3 e4 e5 e6 => ?_⟩
  · by_cases z : i = j
    · subst z
      rw [List.getElem?_set_self li] at q
      cases q
      exact ⟨a, e2, nF, nB, ws, upd_same, d⟩
    · rw [List.getElem?_set_ne z] at q
      have y := h.sl j s q
      cases s with
      | un => exact True.intro
      | d x => exact y
      | tap => exact y
      | own w =>
        obtain ⟨b, f1, f2, f3, f4⟩ := y
        have nb : b ≠ a := fun c => h.apart i j _ _ a z e q e2 (c ▸ f1)
        exact ⟨b, f1, f2, f3, f4.up (Same.refl F) (upd_ne nb)⟩
  · have cov : ∀ (m : Nat) (o : Own), (ρ.set i (.own (.l ys)))[m]? = some (.own o) → ∃ o', ρ[m]? = some (.own o') := by
      intro m o q
      by_cases z : i = m
      · subst z; exact ⟨_, e⟩
      · rw [List.getElem?_set_ne z] at q; exact ⟨_, q⟩
    obtain ⟨o1, q1⟩ := cov j o e3
    obtain ⟨o2, q2⟩ := cov j' p e4
    exact h.apart j j' o1 o2 b ne q1 q2 e5 e6
def sAppend (i : Nat) (f : DT) : DTS := fun D ρ k => asO ρ[i]? fun _ => f ρ k fun x ρ1 k1 => asO ρ1[i]? fun xs => xs.length < sizeLine ∧ D.nx (ρ1.set i (.own (.l (xs ++ [x])))) k1
theorem ds_append (i : Nat) {n : Str} {e : Expr} {f : DT} {pn apos cpos pos : Pos} (he : DE X e f) (hN : X.N[i]? = some n := by rfl) (hv : Vis X.env.scope n := by first | exact Or.inl rfl | exact Or.inr (Or.inl rfl) | exact Or.inr (Or.inr rfl)) (n1 : (n == ("__debug__" : Str)) = false := by decide) (n2 : (n == ("__classdict__" : Str)) = false := by decide)
    (hbase : attributeBase (.Name n pn) "append" X.env (eval (.Name n pn) X.env) = eval (.Name n pn) X.env := by rfl)
    (hfew : ((backTo cpos (starEach [e] X.env)).all (fun x => !x.1) && (backToKw cpos (keywordEach [] X.env)).all (fun x => x.1.isSome) && decide ([e].length + ([] : List Keyword).length + (if ([] : List Keyword).isEmpty then 0 else 1) < 30)) = true := by rfl)
    (hline : (apos.endLine == cpos.line) = true := by rfl) (hs : starEach [e] X.env = (false, eval e X.env) :: starEach [] X.env := by rfl) (hplain : (backTo cpos (starEach [] X.env)).any (·.1) = false := by rfl)
    (hsw : swapsWith (.Call (.Attribute (.Name n pn) "append" apos) [e] [] cpos) none pos.line X.env = pure false := by rfl) : DS X (.Expr (.Call (.Attribute (.Name n pn) "append" apos) [e] [] cpos) pos) (sAppend i f) := by
  refine psW (ps_expr (pe_bm PySem.F.plainAttrs_list PySem.F.slot_list_append PySem.F.type_list_append mt_append (pv i hN hv n1 n2) (pa_cons he pa_nil hs) hbase hfew hline hs hplain) hsw) ?_
  rintro E σ H ⟨G, k, ρ, F, D, en, q, h1, h2, h3, h4⟩
  obtain ⟨xs, e1, q0⟩ := asO_of q
  obtain ⟨a, e2, nF, nB, vs, e3, dv⟩ := en.sl i _ e1
  refine ⟨_, e2, .inl ⟨rfl, _, .inl (.inl e3)⟩, ?_⟩
  refine cEI en q0 ?_
  intro ρ1 v H1 F1 k1 x en1 s1 d1 pz
  obtain ⟨xs', f1, hz, pw⟩ := asO_of pz
  obtain ⟨a', f2, nF', nB', vs', f3, dv'⟩ := en1.sl i _ f1
  rw [e2] at f2
  cases f2
  refine ⟨a, vs', v, rfl, rfl, f3, by rw [DtAll.len dv']; exact hz, ?_⟩
  exact h1 _ _ F1 k1 _ (en1.mend f1 e2 nF' nB' (DtAll.app dv' (.cons d1 .nil))) s1 pw
/-- x.pop(e): the slot changes -/
def xPop (i : Nat) (f : DT) : DT := fun ρ k Q => asO ρ[i]? fun _ => f ρ k fun x ρ1 k1 => asI x fun j => asO ρ1[i]? fun xs => (0 ≤ j ∧ j < xs.length ∧ j < 2 ^ 62) ∧
  ∃ z, xs[j.toNat]? = some z ∧ Q z (ρ1.set i (.own (.l (xs.eraseIdx j.toNat)))) k1
theorem de_pop (i : Nat) {n : Str} {e : Expr} {f : DT} {pn apos cpos : Pos} (he : DE X e f) (hN : X.N[i]? = some n := by rfl) (hv : Vis X.env.scope n := by first | exact Or.inl rfl | exact Or.inr (Or.inl rfl) | exact Or.inr (Or.inr rfl)) (n1 : (n == ("__debug__" : Str)) = false := by decide) (n2 : (n == ("__classdict__" : Str)) = false := by decide)
    (hbase : attributeBase (.Name n pn) "pop" X.env (eval (.Name n pn) X.env) = eval (.Name n pn) X.env := by rfl)
    (hfew : ((backTo cpos (starEach [e] X.env)).all (fun x => !x.1) && (backToKw cpos (keywordEach [] X.env)).all (fun x => x.1.isSome) && decide ([e].length + ([] : List Keyword).length + (if ([] : List Keyword).isEmpty then 0 else 1) < 30)) = true := by rfl)
    (hline : (apos.endLine == cpos.line) = true := by rfl) (hs : starEach [e] X.env = (false, eval e X.env) :: starEach [] X.env := by rfl) (hplain : (backTo cpos (starEach [] X.env)).any (·.1) = false := by rfl) :
    DE X (.Call (.Attribute (.Name n pn) "pop" apos) [e] [] cpos) (xPop i f) := by
  refine peW (pe_bm PySem.F.plainAttrs_list PySem.F.slot_list_pop PySem.F.type_list_pop mt_popAt (pv i hN hv n1 n2) (pa_cons he pa_nil hs) hbase hfew hline hs hplain) ?_
  rintro σ H R ⟨G, k, ρ, F, Q, en, q, r⟩
  obtain ⟨xs, e1, q0⟩ := asO_of q
  obtain ⟨a, e2, nF, nB, vs, e3, dv⟩ := en.sl i _ e1
  refine ⟨_, e2, .inl ⟨rfl, _, .inl (.inl e3)⟩, ?_⟩
  refine cEI en q0 ?_
  intro ρ1 v H1 F1 k1 x en1 s1 d1 pz
  obtain ⟨j, rfl, py⟩ := asI_of pz
  obtain ⟨xs', f1, ⟨b1, b2, b3⟩, z, gz, pw⟩ := asO_of py
  obtain ⟨a', f2, nF', nB', vs', f3, dv'⟩ := en1.sl i _ f1
  rw [e2] at f2
  cases f2
  cases d1
  obtain ⟨u, gu, du⟩ := DtAll.at dv' gz
  have l1 := DtAll.len dv'
  refine ⟨a, vs', j, j.toNat, u, rfl, rfl, f3, by omega, by omega, ?_, gu, ?_⟩
  · have hn : ixN vs'.length j = some j.toNat := by
      unfold ixN
      rw [if_pos b1, if_pos (by omega)]
    exact (ixN_seq hn).1
  · exact r _ _ F1 k1 _ (en1.mend f1 e2 nF' nB' (DtAll.eraseN _ dv')) s1 du pw
/-- the own list of slot i is frozen -/
def froze (i : Nat) (t : DTS) : DTS := fun D ρ k => asO ρ[i]? fun xs => t D (ρ.set i (.d (.list xs))) k
theorem EnvR.fz {K : PySem.W.Frag} {G : Gh} {k : Nat} {ρ : Slots} {σ : St} {H F : Hp} {i : Nat} {xs : List PyData} (h : EnvR K G k ρ σ H F) (e : ρ[i]? = some (.own (.l xs))) : ∃ F', EnvR K G k (ρ.set i (.d (.list xs))) σ H F' ∧ Same F F' := by
  obtain ⟨a, e2, nF, nB, vs, e3, dv⟩ := h.sl i _ e
  have en1 : EnvR K G k (ρ.set i .un) σ H F := by
    have z := h.unset i (some (.ref a))
    have e4 : σ.set i (some (.ref a)) = σ := by
      apply List.ext_getElem?
      intro j
      by_cases q : i = j
      · subst q
        rw [List.getElem?_set_self (List.getElem?_eq_some_iff.mp e2).1, e2]
      · rw [List.getElem?_set_ne q]
    rwa [e4] at z
  have no : ∀ (j : Nat) (w : Own), (ρ.set i .un)[j]? = some (.own w) → σ[j]? ≠ some (some (.ref a)) := by
    intro j w q
    have ne : i ≠ j := by
      rintro rfl
      rw [List.getElem?_set_self (List.getElem?_eq_some_iff.mp e).1] at q
      cases q
    rw [List.getElem?_set_ne ne] at q
    exact h.apart i j _ _ a ne e q e2
  obtain ⟨en2, s2⟩ := envFroze en1 e3 nF nB no
  refine ⟨_, ?_, s2⟩
  have z := en2.setD (v := .ref a) (x := .list xs) i (.lst upd_same (DtAll.up s2 dv))
  have e4 : σ.set i (some (.ref a)) = σ := by
    apply List.ext_getElem?
    intro j
    by_cases q : i = j
    · subst q
      rw [List.getElem?_set_self (List.getElem?_eq_some_iff.mp e2).1, e2]
    · rw [List.getElem?_set_ne q]
  rw [e4, List.set_set] at z
  exact z
theorem dss_froze (i : Nat) {st : List Stmt} {t : DTS} (h : DSs X st t) : DSs X st (froze i t) := by
  refine pssW h ?_
  rintro E σ H ⟨G, k, ρ, F, D, en, q, h1, h2, h3, h4⟩
  obtain ⟨xs, e1, q0⟩ := asO_of q
  obtain ⟨F', en1, s⟩ := en.fz e1
  exact cSI en1 q0 (fun _ _ _ _ _ e z y => h1 _ _ _ _ _ e (s.trans z) y) (fun _ _ _ _ _ e z y x => h2 _ _ _ _ _ e (s.trans z) y x) (fun _ _ _ _ _ e z y => h3 _ _ _ _ _ e (s.trans z) y) (fun _ _ _ _ _ e z y => h4 _ _ _ _ _ e (s.trans z) y)
end

/-! ### a def by its body -/
def arSl : Ar → Sl
  | .d x => .d x
  | .tap => .tap
def startD (N : List Str) (as : List Ar) : Slots := as.map arSl ++ List.replicate (N.length - as.length) .un
theorem ArAll.at {K : PySem.W.Frag} {T : Addr} {F : Hp} : ∀ {as : List Ar} {vs : List V} {i : Nat} {a : Ar}, ArAll K T F as vs → as[i]? = some a → ∃ v, vs[i]? = some v ∧ ArOk K T F a v
  | _, _, _, _, .nil, e => by simp at e
  | _, _, 0, _, .cons h _, e => by
    rw [List.getElem?_cons_zero] at e
    cases e
    exact ⟨_, rfl, h⟩
  | _, _, i + 1, _, .cons _ r, e => by
    rw [List.getElem?_cons_succ] at e
    obtain ⟨v, h1, h2⟩ := ArAll.at r e
    exact ⟨v, by rw [List.getElem?_cons_succ]; exact h1, h2⟩
theorem env_start {K : PySem.W.Frag} {G : Gh} {k : Nat} {H F : Hp} {N : List Str} {as : List Ar} {vs : List V} (h : HeR K G k H F) (d : ArAll K G.T F as vs) (hl : vs.length ≤ N.length) : EnvR K G k (startD N as) (L2.start N vs) H F := by
  have l1 := ArAll.len d
  have noOwn : ∀ (i : Nat) (w : Own), (startD N as)[i]? ≠ some (.own w) := by
    intro i w e
    unfold startD at e
    by_cases q : i < as.length
    · rw [List.getElem?_append_left (by rw [List.length_map]; exact q), List.getElem?_map] at e
      cases z : as[i]? with
      | none => rw [z] at e; cases e
      | some a => rw [z] at e; cases a <;> cases e
    · rw [List.getElem?_append_right (by rw [List.length_map]; omega), List.getElem?_replicate] at e
      split at e <;> cases e
  refine ⟨h, ?_, fun i s e => ?_, fun i j o p a _ e => absurd e (noOwn i o)⟩
  · unfold startD L2.start
    rw [List.length_append, List.length_append, List.length_map, List.length_map, List.length_replicate, List.length_replicate, l1]
  · unfold startD at e
    by_cases q : i < as.length
    · rw [List.getElem?_append_left (by rw [List.length_map]; exact q), List.getElem?_map] at e
      cases z : as[i]? with
      | none => rw [z] at e; cases e
      | some a =>
        rw [z] at e
        cases e
        obtain ⟨v, f1, f2⟩ := ArAll.at d z
        have f3 : (L2.start N vs)[i]? = some (some v) := by
          unfold L2.start
          rw [List.getElem?_append_left (by rw [List.length_map, ← l1]; exact q), List.getElem?_map, f1]
          rfl
        cases a with
        | d x => exact ⟨v, f3, f2⟩
        | tap =>
          have f2' : v = .ref G.T := f2
          rw [f3, f2']
          rfl
    · rw [List.getElem?_append_right (by rw [List.length_map]; omega), List.getElem?_replicate] at e
      split at e
      · cases e; exact True.intro
      · cases e
section
variable {P : Program} {w : World} {K : PySem.W.Frag} {mg : Str → Option Value} {base : Heap}
/-- a def by its body, read over data -/
theorem fnD {x qual : Str} {st : Stmt} {f : Addr} {fd : FuncData} {N ps : List Str} {j n : Nat} {g : DF} (F : L2.Fun K x qual st f fd) (S : FnScope N ps (defScope st)) (hn : ps.length = n)
    (body : ∀ (cdv : Value) (A : Around) (outer : List Env) (s : Shared) (H : Hp) (E : XK), Room j (A.deeper (envOfC qual (defScope st) s.heap.objs.size f cdv)) → A.guards = some [] →
      ∃ t : DTS, DSs (cxOf CX0 P w K mg base N qual (defScope st) f cdv A outer s H E).nox (defBody st) t ∧ ∀ as k Q, g as k Q → as.length = n → t { nx := fun _ k => Q .none k, rt := Q } (startD N as) k) :
    FnG P w K mg base CX0 (j + 1) f fd ps (spD K n g) := by
  refine fnG F S (fun vs H Q E h => h.1.trans hn.symm) ?_
  intro cdv A outer s H vs Q E room gd h
  obtain ⟨hl, B, F0, T, k, F1, as, R, he, da, hg, hq⟩ := h
  obtain ⟨t, h1, h2⟩ := body cdv A outer s H E room gd
  refine ⟨_, h1, ⟨H, F1, T⟩, k, startD N as, F1, _, env_start he.inner da ?_, h2 as k R hg ((ArAll.len da).trans hl), ?_, ?_, ?_, ?_⟩
  · have := congrArg List.length S.pre
    rw [List.length_take] at this
    omega
  · intro σ' H' F' k' ρ' e _ z
    exact hq .non H' F' k' .none e.toHeR .non z
  · intro v H' F' k' x e _ d z
    exact hq v H' F' k' x e d z
  · exact fun _ _ _ _ _ _ _ z => z.elim
  · exact fun _ _ _ _ _ _ _ z => z.elim
end
end Wc

/-! Defs of a text: where they stand, what they promise; the tap; a law's start; what reduces. -/
namespace Wc
open PySem PySem.Spec PyProof.Rows L2
def Len (g : DF) (n : Nat) : Prop := ∀ as k Q, g as k Q → as.length = n
/-- a def of the text stands at its name -/
def St0 (K : PySem.W.Frag) (mg : Str → Option Value) (x : Str) (st : Stmt) (ps : List Str) : Prop := ∃ (f : Addr) (fd : FuncData), mg x = some (.ref f) ∧ L2.Fun K x x st f fd ∧ Binds K fd ps []
theorem st0_mk {K : PySem.W.Frag} {mg : Str → Option Value} {h : Heap} {x : Str} {st : Stmt} {ps : List Str} {f : Addr} {oc kV dc pm cd ct : Value} {od an : Option Addr} {sl : Array (Option Value)} (X : K.In h) (G : h.Ns mainGlobals mg) (a : PySem.W.nsIn K mainGlobals x = some (some (.ref f)))
    (l : K.lookup f = some ⟨oc, od, .func (PySem.W.fnOf x x (defArgs st) (defBody st) (defScope st) .none kV dc pm an cd ct), sl⟩) (c : PySem.W.codeIn K cd x = true) (k : PySem.W.keepIn K (.ref f) = true)
    (hb : ∀ (kV doc pm : Value) (an : Option Addr) (cdv ct : Value) (us : List Value), us.length = ps.length → bindArgs (PySem.W.fnOf x x (defArgs st) (defBody st) (defScope st) .none kV doc pm an cdv ct) ⟨us, []⟩ = pure (ps.zip us)) : St0 K mg x st ps := by
  have F := fun_mk (st := st) l c k
  exact ⟨f, _, PySem.W.mg_of X G a, F, F.binds hb⟩
/-- .. and keeps its promise -/
structure Dk (P : Program) (w : World) (K : PySem.W.Frag) (mg : Str → Option Value) (base : Heap) (x : Str) (j n : Nat) (g : DF) : Prop where
  ex : ∃ (f : Addr) (fd : FuncData) (ps : List Str), mg x = some (.ref f) ∧ PySem.W.keepIn K (.ref f) = true ∧ Binds K fd ps [] ∧ FnG P w K mg base CX0 j f fd ps (spD K n g)
  len : Len g n
section
variable {P : Program} {w : World} {K : PySem.W.Frag} {mg : Str → Option Value} {base : Heap}
theorem Dk.mono {x : Str} {i j n : Nat} {g : DF} (d : Dk P w K mg base x i n g) (h : i ≤ j) : Dk P w K mg base x j n g := by
  obtain ⟨f, fd, ps, h1, h2, h3, h4⟩ := d.ex
  exact ⟨⟨f, fd, ps, h1, h2, h3, h4.mono h⟩, d.len⟩
theorem dkD {x : Str} {st : Stmt} {N ps : List Str} {j n : Nat} {g : DF} (s : St0 K mg x st ps) (S : FnScope N ps (defScope st)) (hn : ps.length = n) (hl : Len g n)
    (body : ∀ (f : Addr) (cdv : Value) (A : Around) (outer : List Env) (s : Shared) (H : Hp) (E : XK), Room j (A.deeper (envOfC x (defScope st) s.heap.objs.size f cdv)) → (A.deeper (envOfC x (defScope st) s.heap.objs.size f cdv)).guards = some [] →
      ∃ t : DTS, DSs (cxOf CX0 P w K mg base N x (defScope st) f cdv A outer s H E).nox (defBody st) t ∧ ∀ as k Q, g as k Q → t { nx := fun _ k => Q .none k, rt := Q } (startD N as) k) : Dk P w K mg base x (j + 1) n g := by
  obtain ⟨f, fd, h1, h2, h3⟩ := s
  refine ⟨⟨f, fd, ps, h1, h2.kp, h3, fnD h2 S hn fun cdv A outer s H E room gd => ?_⟩, hl⟩
  obtain ⟨t, q1, q2⟩ := body f cdv A outer s H E room gd
  exact ⟨t, q1, fun as k Q hg _ => q2 as k Q hg⟩
end
section
variable {X : Cx}
theorem de_c {j n : Nat} {g : DF} {x : Str} {p pos : Pos} {e : Expr} {es : List Expr} {fa : DA} (d : Dk X.prog X.w X.K X.mg X.base x j n g) (room : Room j X.A) (gd : X.A.guards = some []) (gl : Gl X x) (ha : DAs X (e :: es) fa)
    (nb : (x == ("__debug__" : Str)) = false := by decide) (st : starEach (e :: es) X.env = (false, eval e X.env) :: starEach es X.env := by rfl) (pl : (backTo pos (starEach es X.env)).any (·.1) = false := by rfl) : DE X (.Call (.Name x p) (e :: es) [] pos) (dCall g fa) := by
  obtain ⟨f, fd, ps, hm, kp, bd, F⟩ := d.ex
  refine peW (pe_callG F room gd gl hm kp bd .nil pass0 ha nb st pl) ?_
  rintro σ H R ⟨G, k, ρ, F0, Q, en, hf, q⟩
  refine cAI en hf ?_
  rintro ρ1 vs H1 F1 k1 as en1 s1 d1 pz
  rw [List.append_nil]
  refine ⟨by rw [← ArAll.len d1, d.len _ _ _ pz], G.B, G.F0, G.T, k1, F1, as, _, en1.toHeR, d1, pz, ?_⟩
  intro v H' F' k' x h' dx px
  exact q v H' F' k' x (en1.outer h') (s1.trans h'.ext) dx px
end

/-! ### a law's start -/
def spTap (K : PySem.W.Frag) : Sp := fun vs H Q _ => ∃ (a : Addr) (ns : List Int), vs = [.ref a] ∧ SqL K H a (ns.map V.int) ∧ ns.length ≤ 63 ∧
  ∀ (H' F' : Hp) (T : Addr), Same F' H' → F' T = none → TapAt F' H' T 0 → Q (.ref T) H'
def spLaw (K : PySem.W.Frag) : Sp := fun vs H Q _ => ∃ (a : Addr) (ns : List Int), vs = [.ref a] ∧ SqL K H a (ns.map V.int) ∧ ns.length ≤ 63 ∧ ∀ H', Q (.bl true) H'
theorem her_start {K : PySem.W.Frag} {H F : Hp} {T : Addr} {k : Nat} (s : Same F H) (t : F T = none) (a : TapAt F H T k) : HeR K ⟨H, F, T⟩ k H F := by
  refine ⟨s, Same.refl F, fun a o e => .inl e, fun b o e _ => e, t, ?_, a⟩
  obtain ⟨_, _, _, _, _, q, _⟩ := a
  exact ⟨_, q⟩
section
variable {P : Program} {w : World} {K : PySem.W.Frag} {mg : Str → Option Value} {base : Heap}
/-- law(script): the tap first, then the rest over data -/
theorem fnLaw {st : Stmt} {f fT : Addr} {fd fdT : FuncData} {N : List Str} {j jT : Nat} {p p1 p2 p3 p4 : Pos} {rest : List Stmt} (F : L2.Fun K "law" "law" st f fd) (S : FnScope N ["_law_script"] (defScope st))
    (hb : defBody st = .Assign [.Name "_law_tap_here" p] (.Call (.Name "_law_tap" p1) [.Name "_law_script" p2] [] p3) p4 :: rest) (FT : FnG P w K mg base CX0 jT fT fdT ["_law_script"] (spTap K)) (hT : mg "_law_tap" = some (.ref fT)) (kT : PySem.W.keepIn K (.ref fT) = true) (bT : Binds K fdT ["_law_script"] [])
    (h0 : N[0]? = some ("_law_script" : Str)) (h1 : N[1]? = some ("_law_tap_here" : Str))
    (body : ∀ (cdv : Value) (A : Around) (outer : List Env) (s : Shared) (H : Hp) (E : XK), Room j (A.deeper (envOfC "law" (defScope st) s.heap.objs.size f cdv)) → (A.deeper (envOfC "law" (defScope st) s.heap.objs.size f cdv)).guards = some [] →
      ∃ (t : DTS) (ta : TS), PS (cxOf CX0 P w K mg base N "law" (defScope st) f cdv A outer s H E).nox (.Assign [.Name "_law_tap_here" p] (.Call (.Name "_law_tap" p1) [.Name "_law_script" p2] [] p3) p4) (tAsg (tCall (spTap K) [] E0 (tCons (tVar 0) tNil)) (gName 1)) ∧
        DSs (cxOf CX0 P w K mg base N "law" (defScope st) f cdv A outer s H E).nox rest t ∧ t { nx := fun _ _ => False, rt := fun x _ => x = .bool true } (.un :: .tap :: List.replicate (N.length - 2) .un) 0) :
    FnG P w K mg base CX0 (j + 1) f fd ["_law_script"] (spLaw K) := by
  refine fnG F S (fun vs H Q E h => ?_) ?_
  · obtain ⟨a, ns, rfl, _⟩ := h
    rfl
  intro cdv A outer s H vs Q E room gd h
  obtain ⟨a, ns, rfl, hS, hlen, q⟩ := h
  obtain ⟨t, ta, b1, b2, b3⟩ := body cdv A outer s H E room gd
  rw [hb]
  have hN2 : 2 ≤ N.length := by
    have := (List.getElem?_eq_some_iff.mp h1).1
    omega
  refine ⟨_, pss_cons b1 b2, ?_⟩
  refine ⟨.ref a, ?_, a, ns, rfl, hS, hlen, ?_⟩
  · unfold L2.start
    rfl
  intro H' F' T s1 t1 tp
  have he := her_start (K := K) s1 t1 tp
  refine ⟨⟨H', F', T⟩, 0, _, F', _, ⟨he, ?_, ?_, ?_⟩, b3, ?_, ?_, ?_, ?_⟩
  · unfold L2.start
    rw [List.length_set, List.length_append, List.length_map, List.length_replicate]
    simp only [List.length_cons, List.length_nil, List.length_replicate]
    omega
  · intro i sl e
    match i, e with
    | 0, e => cases e; exact True.intro
    | 1, e =>
      cases e
      show _ = some (some (V.ref T))
      rw [List.getElem?_set_self]
      unfold L2.start
      rw [List.length_append, List.length_map, List.length_replicate]
      simp only [List.length_cons, List.length_nil]
      omega
    | i + 2, e =>
      rw [List.getElem?_cons_succ, List.getElem?_cons_succ, List.getElem?_replicate] at e
      split at e
      · cases e; exact True.intro
      · cases e
  · intro i j' o p' b ne e1
    match i, e1 with
    | 0, e1 => cases e1
    | 1, e1 => cases e1
    | i + 2, e1 =>
      rw [List.getElem?_cons_succ, List.getElem?_cons_succ, List.getElem?_replicate] at e1
      split at e1 <;> cases e1
  · exact fun _ _ _ _ _ _ _ z => z.elim
  · rintro v H2 F2 k2 x _ _ d rfl
    rw [d.inv_bl]
    exact q H2
  · exact fun _ _ _ _ _ _ _ z => z.elim
  · exact fun _ _ _ _ _ _ _ z => z.elim
end

/-! ### what reduces -/
section
variable {P : PyData → Prop}
theorem asI_int {i : Int} {P : Int → Prop} : asI (.int i) P = P i := rfl
theorem asS_str {i : Str} {P : Str → Prop} : asS (.str i) P = P i := rfl
theorem asT_tup {i : List PyData} {P : List PyData → Prop} : asT (.tuple i) P = P i := rfl
theorem asL_lst {i : List PyData} {P : List PyData → Prop} : asL (.list i) P = P i := rfl
theorem asB_bl {i : Bool} {P : Bool → Prop} : asB (.bool i) P = P i := rfl
theorem asD_d {x : PyData} : asD (some (.d x)) P = P x := rfl
theorem asTap_t {P : Prop} : asTap (some .tap) P = P := rfl
theorem asO_o {xs : List PyData} {P : List PyData → Prop} : asO (some (.own (.l xs))) P = P xs := rfl
theorem wplus_int {i j : Int} : dPlus (.int i) (.int j) P = P (.int (i + j)) := rfl
theorem wplus_str {i j : Str} : dPlus (.str i) (.str j) P = (i.length + j.length ≤ sizeLine ∧ P (.str (i ++ j))) := rfl
theorem wplus_tup {i j : List PyData} : dPlus (.tuple i) (.tuple j) P = (i.length + j.length ≤ sizeLine ∧ P (.tuple (i ++ j))) := rfl
theorem wplus_lst {i j : List PyData} : dPlus (.list i) (.list j) P = (i.length + j.length ≤ sizeLine ∧ P (.list (i ++ j))) := rfl
theorem wix_lst {xs : List PyData} {i : Int} : dIx (.list xs) (.int i) P = ∃ z, atI xs i = some z ∧ P z := rfl
theorem wix_tupl {xs : List PyData} {i : Int} : dIx (.tuple xs) (.int i) P = ∃ z, atI xs i = some z ∧ P z := rfl
theorem wix_strg {s : Str} {i : Int} : dIx (.str s) (.int i) P = (s.length ≤ sizeLine ∧ ∃ c, atI s.cps.toList i = some c ∧ P (.str ⟨#[c]⟩)) := rfl
theorem wseq_lst {xs : List PyData} {P : List PyData → Prop} : asSeq (.list xs) P = P xs := rfl
theorem wseq_tup {xs : List PyData} {P : List PyData → Prop} : asSeq (.tuple xs) P = P xs := rfl
theorem wlen_lst {xs : List PyData} : dLen (.list xs) P = P (.int xs.length) := rfl
theorem wlen_tup {xs : List PyData} : dLen (.tuple xs) P = P (.int xs.length) := rfl
theorem wlen_str {s : Str} : dLen (.str s) P = (s.length ≤ sizeLine ∧ P (.int s.length)) := rfl
theorem wone {d : PyData → (PyData → Prop) → Prop} {x : PyData} : one d [x] P = d x P := rfl
theorem wtwo {d : PyData → PyData → (PyData → Prop) → Prop} {x y : PyData} : two d [x, y] P = d x y P := rfl
theorem loop_nil {g : DG} {tb : DTS} {D : DEnds} {ρ : Slots} {k : Nat} : loopD g tb [] D ρ k = D.nx ρ k := rfl
theorem loop_cons {g : DG} {tb : DTS} {D : DEnds} {ρ : Slots} {k : Nat} {x : PyData} {xs : List PyData} : loopD g tb (x :: xs) D ρ k = g x ρ fun ρ1 => tb { D with nx := loopD g tb xs D, ct := loopD g tb xs D, bk := D.nx } ρ1 k := rfl
theorem lc_nil {g : DG} {c : DB} {e : DT} {ρ : Slots} {acc : List PyData} {k : Nat} {Q : List PyData → Nat → Prop} : lcD g c e ρ [] acc k Q = Q acc k := rfl
theorem lc_cons {g : DG} {c : DB} {e : DT} {ρ : Slots} {acc : List PyData} {k : Nat} {Q : List PyData → Nat → Prop} {x : PyData} {xs : List PyData} : lcD g c e ρ (x :: xs) acc k Q =
    g x ρ fun ρ1 => c ρ1 k fun b ρ2 k2 => ρ2 = ρ1 ∧ if b = true then e ρ1 k2 fun y ρ3 k3 => ρ3 = ρ1 ∧ lcD g c e ρ xs (acc ++ [y]) k3 Q else lcD g c e ρ xs acc k2 Q := rfl
theorem ix0 {α : Type} {x : α} {xs : List α} : atI (x :: xs) 0 = some x := by
  unfold atI ixN
  rw [if_pos (by omega), if_pos (by rw [List.length_cons]; omega)]
  rfl
theorem ixS {α : Type} {x : α} {xs : List α} {n : Nat} : atI (x :: xs) ((n : Int) + 1) = atI xs n := by
  unfold atI ixN
  rw [if_pos (by omega), if_pos (show (0 : Int) ≤ n by omega), List.length_cons]
  by_cases h : n < xs.length
  · rw [if_pos (by omega), if_pos (by omega)]
    show (x :: xs)[((n : Int) + 1).toNat]? = xs[((n : Int)).toNat]?
    rw [show ((n : Int) + 1).toNat = n + 1 by omega, show ((n : Int)).toNat = n by omega, List.getElem?_cons_succ]
  · rw [if_neg (by omega), if_neg (by omega)]
    rfl
theorem atNat {α : Type} {xs : List α} {n : Nat} {z : α} (h : xs[n]? = some z) : atI xs (n : Int) = some z := atI_nat h
/-- a place that is reckoned -/
theorem atOf {α : Type} {xs : List α} {i : Int} (h0 : 0 ≤ i) (h1 : i < xs.length) : ∃ z, atI xs i = some z ∧ z ∈ xs ∧ xs[i.toNat]? = some z := by
  have hl : i.toNat < xs.length := by omega
  have e : xs[i.toNat]? = some xs[i.toNat] := List.getElem?_eq_getElem hl
  have := atI_nat e
  rw [show ((i.toNat : Nat) : Int) = i by omega] at this
  exact ⟨_, this, List.getElem_mem hl, e⟩
end
end Wc

namespace Wc
open PySem PySem.Spec PyProof.Rows L2
theorem u64 {k : Nat} {A : Around} (r : Room k A) : A.units + 64 < cLine := by
  have := r.un
  omega
theorem u65 {k : Nat} {A : Around} (r : Room k A) : A.units + 65 < cLine := by
  have := r.un
  omega
section
variable {X : Cx}
/-! ### comparisons whatever is compared -/
def dOrdU (f : Int → Int → Bool) (g : PyData → PyData → Bool) (x y : PyData) (P : PyData → Prop) : Prop := match x, y with
  | .int i, .int j => P (.bool (f i j))
  | x, y => dOrd g x y P
theorem sv_ordU {K : PySem.W.Frag} {f : Int → Int → Bool} {g : PyData → PyData → Bool} : Serves K (fun x y H Q => (rI0 fun i j => V.bl (f i j)) x y H Q ∨ rOrd K g x y H Q) (dOrdU f g) := by
  intro G k ρ σ F H x y a b P R en hb dx dy q r
  unfold dOrdU at q
  split at q
  · exact .inl ⟨_, _, dx.inv_int, dy.inv_int, r _ _ F H en (Same.refl F) (.bl _) q⟩
  · exact .inr (sv_ord G k ρ σ F H x y _ _ P R en hb dx dy q r)
theorem op_ltU {j : Nat} (r : Room j X.A) : OpR X (compareOp .Lt) (fun x y H Q => (rI0 fun i j => V.bl (decide (i < j))) x y H Q ∨ rOrd X.K PySem.W.dataLt x y H Q) := orOp op_lt (op_ltD (u64 r))
theorem op_leU {j : Nat} (r : Room j X.A) : OpR X (compareOp .LtE) (fun x y H Q => (rI0 fun i j => V.bl (decide (i ≤ j))) x y H Q ∨ rOrd X.K (fun d e => !PySem.W.dataLt e d) x y H Q) := orOp op_le (op_leD (u64 r))
theorem op_gtU {j : Nat} (r : Room j X.A) : OpR X (compareOp .Gt) (fun x y H Q => (rI0 fun i j => V.bl (decide (j < i))) x y H Q ∨ rOrd X.K (fun d e => PySem.W.dataLt e d) x y H Q) := orOp op_gt (op_gtD (u64 r))
theorem op_geU {j : Nat} (r : Room j X.A) : OpR X (compareOp .GtE) (fun x y H Q => (rI0 fun i j => V.bl (decide (j ≤ i))) x y H Q ∨ rOrd X.K (fun d e => !PySem.W.dataLt d e) x y H Q) := orOp op_ge (op_geD (u64 r))
/-- in a sequence, a sign in a text -/
def dInU (f : Bool → Bool) (x y : PyData) (P : PyData → Prop) : Prop := match x, y with
  | .str a, .str z => ∃ c, a = ⟨#[c]⟩ ∧ P (.bool (f (decide (c ∈ z.cps.toList))))
  | x, y => dIn f x y P
theorem sv_inU {K : PySem.W.Frag} : Serves K (fun x y H Q => (∃ (c : Nat) (z : Str), x = .str ⟨#[c]⟩ ∧ y = .str z ∧ Q (.bl (decide (c ∈ z.cps.toList))) H) ∨ rInA K id x y H Q) (dInU id) := by
  intro G k ρ σ F H x y a b P R en hb dx dy q r
  unfold dInU at q
  split at q
  · obtain ⟨c, rfl, q⟩ := q
    exact .inl ⟨c, _, dx.inv_str, dy.inv_str, r _ _ F H en (Same.refl F) (.bl _) q⟩
  · exact .inr (sv_in G k ρ σ F H x y _ _ P R en hb dx dy q r)
theorem sv_ninU {K : PySem.W.Frag} : Serves K (fun x y H Q => (∃ (c : Nat) (z : Str), x = .str ⟨#[c]⟩ ∧ y = .str z ∧ Q (.bl (!decide (c ∈ z.cps.toList))) H) ∨ rInA K not x y H Q) (dInU not) := by
  intro G k ρ σ F H x y a b P R en hb dx dy q r
  unfold dInU at q
  split at q
  · obtain ⟨c, rfl, q⟩ := q
    exact .inl ⟨c, _, dx.inv_str, dy.inv_str, r _ _ F H en (Same.refl F) (.bl _) q⟩
  · exact .inr (sv_in G k ρ σ F H x y _ _ P R en hb dx dy q r)
theorem op_inU {j : Nat} (r : Room j X.A) : OpR X (compareOp .In) (fun x y H Q => (∃ (c : Nat) (z : Str), x = .str ⟨#[c]⟩ ∧ y = .str z ∧ Q (.bl (decide (c ∈ z.cps.toList))) H) ∨ rInA X.K id x y H Q) := orOp op_in_sign (op_inA (u65 r))
theorem op_ninU {j : Nat} (r : Room j X.A) : OpR X (compareOp .NotIn) (fun x y H Q => (∃ (c : Nat) (z : Str), x = .str ⟨#[c]⟩ ∧ y = .str z ∧ Q (.bl (!decide (c ∈ z.cps.toList))) H) ∨ rInA X.K not x y H Q) := orOp op_notIn_sign (op_ninA (u65 r))
/-- a < b < c -/
def dChain (d d' : PyData → PyData → (PyData → Prop) → Prop) (fa fb fc : DT) : DT := fun ρ k Q => fa ρ k fun x ρ1 k1 => fb ρ1 k1 fun y ρ2 k2 => d x y fun z => asB z fun b => if b = true then fc ρ2 k2 fun w ρ3 k3 => d' y w fun u => Q u ρ3 k3 else Q (.bool false) ρ2 k2
theorem de_chain {op op' : CmpOp} {r r' : R2} {d d' : PyData → PyData → (PyData → Prop) → Prop} {a b c : Expr} {fa fb fc : DT} {pos : Pos} (ho : OpR X (compareOp op) r) (sv : Serves X.K r d) (ho' : OpR X (compareOp op') r') (sv' : Serves X.K r' d') (ha : DE X a fa) (hb : DE X b fb) (hc : DE X c fc)
    (hm : lastMarks [op, op'] [b, c] = false := by with_unfolding_all rfl) : DE X (.Compare a [op, op'] [b, c] pos) (dChain d d' fa fb fc) := by
  refine peW (pe_chain ho ho' (peB ha) (peB hb) (peB hc) hm) ?_
  rintro σ H R ⟨G, k, ρ, F, Q, en, hf, q⟩ _
  refine cEI en hf ?_
  intro ρ1 v1 H1 F1 k1 x1 en1 s1 d1 hf1 hb1 _
  refine cEI en1 hf1 ?_
  intro ρ2 v2 H2 F2 k2 x2 en2 s2 d2 hf2 hb2
  refine sv G k2 ρ2 σ F2 H2 v1 v2 x1 x2 _ _ en2 hb2 (Dt.up s2 d1) d2 hf2 ?_
  intro v z F' H' en3 s3 dz pz
  obtain ⟨bb, rfl, pw⟩ := asB_of pz
  cases dz
  cases bb with
  | true =>
    refine ⟨true, rfl, iteT fun _ => ?_⟩
    refine cEI en3 (by simpa using pw) ?_
    intro ρ4 v4 H4 F4 k4 x4 en4 s4 d4 hf4 hb4
    refine sv' G k4 ρ4 σ F4 H4 v2 v4 x2 x4 _ _ en4 hb4 (Dt.up (s3.trans s4) d2) d4 hf4 ?_
    intro v5 z5 F5 H5 en5 s5 dz5 pz5
    exact q v5 H5 F5 k4 z5 en5 ((((s1.trans s2).trans s3).trans s4).trans s5) dz5 pz5
  | false => exact ⟨false, rfl, iteF (q _ H' F' k2 _ en3 ((s1.trans s2).trans s3) (.bl _) (by simpa using pw))⟩

/-! ### own lists read -/
def dLenO (i : Nat) : DT := fun ρ k Q => asO ρ[i]? fun xs => Q (.int xs.length) ρ k
theorem de_lenO (i : Nat) {n : Str} {p pn pos : Pos} (hg : Gl X "len") (hm : X.mg "len" = none) (hN : X.N[i]? = some n := by rfl) (hv : Vis X.env.scope n := by first | exact Or.inl rfl | exact Or.inr (Or.inl rfl) | exact Or.inr (Or.inr rfl)) (n1 : (n == ("__debug__" : Str)) = false := by decide)
    (n2 : (n == ("__classdict__" : Str)) = false := by decide) (he : starEach [.Name n pn] X.env = (false, eval (.Name n pn) X.env) :: starEach [] X.env := by rfl) (hpl : (backTo pos (starEach [] X.env)).any (·.1) = false := by rfl) :
    DE X (.Call (.Name "len" p) [.Name n pn] [] pos) (dLenO i) := by
  refine peW (pe_callB call_len_seq hg hm (by decide +kernel) (pa_cons (pv i hN hv n1 n2) pa_nil he) (by decide) (by decide) he hpl) ?_
  rintro σ H R ⟨G, k, ρ, F, Q, en, q, r⟩
  obtain ⟨xs, e1, q0⟩ := asO_of q
  obtain ⟨a, e2, nF, nB, vs, e3, dv⟩ := en.sl i _ e1
  refine ⟨_, e2, a, vs, rfl, .inl (.inl (.inl e3)), ?_⟩
  exact r _ H F k _ en (Same.refl F) (.int _) (by rw [DtAll.len dv]; exact q0)

/-! ### slices -/
def cut {α : Type} (xs : List α) (lo hi : Option Int) : List α := (xs.drop (HT.sIx xs.length 0 lo)).take (HT.sIx xs.length xs.length hi - HT.sIx xs.length 0 lo)
theorem cutV_eq (xs : List V) (lo hi : Option Int) : cutV xs lo hi = cut xs lo hi := rfl
theorem DtAll.cut {K : PySem.W.Frag} {F : Hp} {vs : List V} {xs : List PyData} (d : DtAll K F vs xs) (lo hi : Option Int) : DtAll K F (cut vs lo hi) (cut xs lo hi) := by
  unfold Wc.cut
  rw [DtAll.len d]
  exact DtAll.takeN _ (DtAll.dropN _ d)
abbrev DO := Slots → Nat → (Option Int → Slots → Nat → Prop) → Prop
def cO (K : PySem.W.Frag) (f : DO) : TO := fun σ H R => ∃ G k ρ F Q, EnvR K G k ρ σ H F ∧ f ρ k Q ∧ ∀ {ρ'} o H' F' k', EnvR K G k' ρ' σ H' F' → Same F F' → Q o ρ' k' → R o H'
theorem poW {e : Option Expr} {t t' : TO} (h : PO X e t) (w : ∀ σ H R, t' σ H R → t σ H R) : PO X e t' := ⟨fun pins s σ H Q I q => h.run pins s σ H Q I (w _ _ _ q)⟩
def oNone : DO := fun ρ k Q => Q none ρ k
def oSome (f : DT) : DO := fun ρ k Q => f ρ k fun x ρ1 k1 => asI x fun i => Q (some i) ρ1 k1
theorem do_none : PO X none (cO X.K oNone) := by
  refine poW po_none ?_
  rintro σ H R ⟨G, k, ρ, F, Q, en, hf, q⟩
  exact q none H F k en (Same.refl F) hf
theorem do_some {e : Expr} {f : DT} (h : DE X e f) : PO X (some e) (cO X.K (oSome f)) := by
  refine poW (po_some h) ?_
  rintro σ H R ⟨G, k, ρ, F, Q, en, hf, q⟩
  refine cEI en hf ?_
  intro ρ1 v H1 F1 k1 x en1 s1 d1 pz
  obtain ⟨i, rfl, pw⟩ := asI_of pz
  cases d1
  exact ⟨i, rfl, q _ H1 F1 k1 en1 s1 pw⟩
def dCut (x : PyData) (lo hi : Option Int) (P : PyData → Prop) : Prop := match x with
  | .tuple xs => P (.tuple (cut xs lo hi))
  | .list xs => P (.list (cut xs lo hi))
  | .str s => s.length ≤ sizeLine ∧ P (.str (cutS s lo hi))
  | _ => False
def dSl (fa : DT) (fl fh : DO) : DT := fun ρ k Q => fa ρ k fun x ρ1 k1 => fl ρ1 k1 fun lo ρ2 k2 => fh ρ2 k2 fun hi ρ3 k3 => dCut x lo hi fun z => Q z ρ3 k3
theorem de_slice {e : Expr} {lo hi : Option Expr} {fa : DT} {fl fh : DO} {p2 pos : Pos} (ha : DE X e fa) (hl : PO X lo (cO X.K fl)) (hh : PO X hi (cO X.K fh)) : DE X (.Subscript e (.Slice lo hi none p2) pos) (dSl fa fl fh) := by
  refine peW (pe_slice (SlR.or sl_tupA (SlR.or sl_list sl_str)) ha hl hh) ?_
  rintro σ H R ⟨G, k, ρ, F, Q, en, hf, q⟩
  refine cEI en hf ?_
  intro ρ1 v H1 F1 k1 x en1 s1 d1 pz
  refine ⟨G, k1, ρ1, F1, _, en1, pz, ?_⟩
  intro ρ2 l H2 F2 k2 en2 s2 pz2
  refine ⟨G, k2, ρ2, F2, _, en2, pz2, ?_⟩
  intro ρ3 h H3 F3 k3 en3 s3 pz3
  have d3 := Dt.up (s2.trans s3) d1
  unfold dCut at pz3
  split at pz3
  · rename_i xs
    obtain ⟨a, vs, rfl, t1, da⟩ := d3.inv_tup
    refine .inl ⟨a, vs, rfl, seqT en3.same t1, fun z => ?_, fun _ p hp => ?_⟩
    · refine q _ H3 F3 k3 _ en3 ((s1.trans s2).trans s3) d3 ?_
      have : cut xs l h = xs := by
        unfold cut
        have hl := DtAll.len da
        rw [← hl, z.1, z.2, List.drop_zero, Nat.sub_zero, hl]
        exact List.take_length
      rw [this] at pz3
      exact pz3
    · obtain ⟨en4, s4⟩ := en3.laid (o := .tup (cutV vs l h)) hp
      exact q _ _ _ k3 _ en4 (((s1.trans s2).trans s3).trans s4) (.tup (.inl (.inl upd_same)) (DtAll.up s4 (DtAll.cut da l h))) pz3
  · obtain ⟨a, vs, rfl, t1, da⟩ := d3.inv_lst
    refine .inr (.inl ⟨a, vs, rfl, .inl (.inl (en3.same _ _ t1)), fun p hp => ?_⟩)
    obtain ⟨en4, s4⟩ := en3.laid (o := .lst (cutV vs l h)) hp
    exact q _ _ _ k3 _ en4 (((s1.trans s2).trans s3).trans s4) (.lst upd_same (DtAll.up s4 (DtAll.cut da l h))) pz3
  · cases d3
    exact .inr (.inr ⟨_, rfl, pz3.1, q _ H3 F3 k3 _ en3 ((s1.trans s2).trans s3) (.str _) pz3.2⟩)
  · exact pz3.elim

/-! ### new lists -/
/-- list(x) -/
def nListOf (f : DT) : DL := fun ρ k Q => f ρ k fun x ρ1 k1 => asSeq x fun xs => Q xs ρ1 k1
theorem dn_list {a : Expr} {f : DT} {p pos : Pos} (hg : Gl X "list") (hm : X.mg "list" = none) (ha : DE X a f) (he : starEach [a] X.env = (false, eval a X.env) :: starEach [] X.env := by rfl) (hpl : (backTo pos (starEach [] X.env)).any (·.1) = false := by rfl) :
    DN X (.Call (.Name "list" p) [a] [] pos) (nListOf f) := by
  refine peW (pe_callTy call_list_of hg hm (by decide +kernel) (pa_cons ha pa_nil he) (by decide) (by decide) he hpl) ?_
  rintro σ H R ⟨G, k, ρ, F, Q, en, hf, q⟩
  refine cEI en hf ?_
  intro ρ1 v H1 F1 k1 x en1 s1 d1 pz
  have fin : ∀ (a : Addr) (vs : List V) (xs : List PyData), DtAll X.K F1 vs xs → Q xs ρ1 k1 → ∀ l, H1 l = none → R (.ref l) (upd H1 l (.lst vs)) := by
    intro a vs xs da pq l hl
    obtain ⟨en2, nF, nB, no⟩ := ownFresh (vs := vs) en1 hl
    exact q l _ F1 k1 vs xs en2 s1 nF nB no upd_same da pq
  unfold asSeq at pz
  split at pz
  · obtain ⟨a, vs, rfl, t1, da⟩ := d1.inv_lst
    exact ⟨a, vs, rfl, .inl (.inl (.inl (en1.same _ _ t1))), fin a vs _ da pz⟩
  · obtain ⟨a, vs, rfl, t1, da⟩ := d1.inv_tup
    exact ⟨a, vs, rfl, .inr (seqT en1.same t1), fin a vs _ da pz⟩
  · exact pz.elim
/-- a + b, both lists -/
def nCat (fa fb : DT) : DL := fun ρ k Q => fa ρ k fun x ρ1 k1 => fb ρ1 k1 fun y ρ2 k2 => asL x fun xs => asL y fun ys => xs.length + ys.length ≤ sizeLine ∧ Q (xs ++ ys) ρ2 k2
theorem dn_cat {a b : Expr} {fa fb : DT} {pos : Pos} (ha : DE X a fa) (hb : DE X b fb) : DN X (.BinOp a .Add b pos) (nCat fa fb) := by
  refine peW (pe_op op_cat ha hb) ?_
  rintro σ H R ⟨G, k, ρ, F, Q, en, hf, q⟩
  refine cEI en hf ?_
  intro ρ1 v H1 F1 k1 x en1 s1 d1 pz
  refine cEI en1 pz ?_
  intro ρ2 w H2 F2 k2 y en2 s2 d2 pz2
  obtain ⟨xs, rfl, pz3⟩ := asL_of pz2
  obtain ⟨ys, rfl, hz, pz4⟩ := asL_of pz3
  obtain ⟨a1, vs, rfl, t1, da⟩ := (Dt.up s2 d1).inv_lst
  obtain ⟨a2, ws, rfl, t2, db⟩ := d2.inv_lst
  have l1 := DtAll.len da
  have l2 := DtAll.len db
  refine ⟨a1, a2, vs, ws, rfl, rfl, en2.same _ _ t1, en2.same _ _ t2, by omega, fun p hp => ?_⟩
  obtain ⟨en3, nF, nB, no⟩ := ownFresh (vs := vs ++ ws) en2 hp
  exact q p _ F2 k2 _ _ en3 (s1.trans s2) nF nB no upd_same (DtAll.app da db) pz4
/-! ### names of the module -/
theorem de_glob {x : Str} {u : Value} {v : V} {d : PyData} {pos : Pos} (hg : Gl X x) (hm : X.mg x = some u) (r : RelV v u) (hd : ∀ F, Dt X.K F v d) (nb : (x == ("__debug__" : Str)) = false := by decide) : DE X (.Name x pos) (dC d) := deC (pe_glob hg hm r nb) hd
end
end Wc
namespace Wc
open PySem PySem.Spec PyProof.Rows L2
/-! ### the tap's dict -/
abbrev tapKv (l : Addr) (s r c : V) : List (Key × V) := [(Sum.inr ("cells" : Str), V.ref l), (Sum.inr ("spot" : Str), s), (Sum.inr ("rest" : Str), r), (Sum.inr ("calls" : Str), c)]
theorem tk1 : ¬ (("cells" : Str) = "spot") := by decide +kernel
theorem tk2 : ¬ (("cells" : Str) = "rest") := by decide +kernel
theorem tk3 : ¬ (("cells" : Str) = "calls") := by decide +kernel
theorem tk4 : ¬ (("spot" : Str) = "rest") := by decide +kernel
theorem tk5 : ¬ (("spot" : Str) = "calls") := by decide +kernel
theorem tk6 : ¬ (("rest" : Str) = "calls") := by decide +kernel
section
variable {l : Addr} {s r c x : V}
theorem tg_cells : valV (tapKv l s r c) (Sum.inr ("cells" : Str)) = some (.ref l) := by simp [valV, tapKv]
theorem tg_spot : valV (tapKv l s r c) (Sum.inr ("spot" : Str)) = some s := by simp [valV, tapKv, tk1]
theorem tg_rest : valV (tapKv l s r c) (Sum.inr ("rest" : Str)) = some r := by simp [valV, tapKv, tk2, tk4]
theorem tg_calls : valV (tapKv l s r c) (Sum.inr ("calls" : Str)) = some c := by simp [valV, tapKv, tk3, tk5, tk6]
theorem tp_spot : putK (tapKv l s r c) (Sum.inr ("spot" : Str)) x = tapKv l x r c := by simp [putK, tapKv, tk1, Ne.symm tk4, Ne.symm tk5]
theorem tp_rest : putK (tapKv l s r c) (Sum.inr ("rest" : Str)) x = tapKv l s x c := by simp [putK, tapKv, tk2, tk4, Ne.symm tk6]
theorem tp_calls : putK (tapKv l s r c) (Sum.inr ("calls" : Str)) x = tapKv l s r x := by simp [putK, tapKv, tk3, tk5, tk6]
theorem tm_all : mergeK [] (tapKv l s r c) = tapKv l s r c := by simp [mergeK, putK, tapKv, tk1, tk2, tk3, tk4, tk5, tk6]
theorem tget_cells {H : Hp} {a : Addr} (e : H a = some (.dK (tapKv l s r c))) : DGet H a (.str "cells") (some (.ref l)) := tg_cells (l := l) (s := s) (r := r) (c := c) ▸ DGet.k (k := Sum.inr "cells") e
theorem tget_spot {H : Hp} {a : Addr} (e : H a = some (.dK (tapKv l s r c))) : DGet H a (.str "spot") (some s) := tg_spot (l := l) (s := s) (r := r) (c := c) ▸ DGet.k (k := Sum.inr "spot") e
theorem tget_rest {H : Hp} {a : Addr} (e : H a = some (.dK (tapKv l s r c))) : DGet H a (.str "rest") (some r) := tg_rest (l := l) (s := s) (r := r) (c := c) ▸ DGet.k (k := Sum.inr "rest") e
theorem tget_calls {H : Hp} {a : Addr} (e : H a = some (.dK (tapKv l s r c))) : DGet H a (.str "calls") (some c) := tg_calls (l := l) (s := s) (r := r) (c := c) ▸ DGet.k (k := Sum.inr "calls") e
theorem small4 : (tapKv l s r c).length < sizeLine := by rw [sizeLine_eq]; show 4 < 16777216; decide
theorem tput_spot {H : Hp} {a : Addr} (e : H a = some (.dK (tapKv l s r c))) : DPut H a (.str "spot") x (upd H a (.dK (tapKv l x r c))) := by
  have z := DPut.k (k := Sum.inr "spot") (v := x) e small4
  rwa [tp_spot] at z
theorem tput_rest {H : Hp} {a : Addr} (e : H a = some (.dK (tapKv l s r c))) : DPut H a (.str "rest") x (upd H a (.dK (tapKv l s x c))) := by
  have z := DPut.k (k := Sum.inr "rest") (v := x) e small4
  rwa [tp_rest] at z
theorem tput_calls {H : Hp} {a : Addr} (e : H a = some (.dK (tapKv l s r c))) : DPut H a (.str "calls") x (upd H a (.dK (tapKv l s r x))) := by
  have z := DPut.k (k := Sum.inr "calls") (v := x) e small4
  rwa [tp_calls] at z
end
/-- the tap is asked for a number below many -/
def g__law_take : DF := fun as k Q => ∃ n : Int, as = [.tap, .d (.int n)] ∧ (0 < n ∧ n < 100000000 ∧ k < 1000000) ∧ ∀ r, 0 ≤ r → r < n → Q (.int r) (k + 1)
theorem len__law_take : Len g__law_take 2 := by
  rintro _ _ _ ⟨n, rfl, _⟩
  rfl
/-- behind a turn of the tap -/
theorem her_tap {K : PySem.W.Frag} {G : Gh} {k k' : Nat} {H F : Hp} {l : Addr} {ns : List Int} {s r c : Int} (h : HeR K G k H F) (e : F l = some (.lst (ns.map V.int))) (hl : ns.length ≤ 63) (h1 : 0 ≤ s) (h2 : 0 ≤ r) (h3 : 0 ≤ c) (h4 : c ≤ (k' : Int)) :
    HeR K G k' (upd H G.T (.dK (tapKv l (.int s) (.int r) (.int c)))) F := by
  refine ⟨fun b o q => ?_, h.ext, h.new, fun b o q nb => by rw [upd_ne nb]; exact h.base b o q nb, h.tapF, h.tapB, ⟨l, ns, s, r, c, upd_same, e, hl, h1, h2, h3, h4⟩⟩
  have nb : b ≠ G.T := by
    rintro rfl
    rw [h.tapF] at q
    cases q
  rw [upd_ne nb]
  exact h.same b o q
theorem upd2 {H : Hp} {a : Addr} {o u : HO} : upd (upd H a o) a u = upd H a u := upd_upd
theorem sub_ints (ns : List Int) (lo hi : Option Int) : ∃ ms : List Int, cutV (ns.map V.int) lo hi = ms.map V.int ∧ ms.length ≤ ns.length := by
  refine ⟨(ns.drop (HT.sIx (ns.map V.int).length 0 lo)).take (HT.sIx (ns.map V.int).length (ns.map V.int).length hi - HT.sIx (ns.map V.int).length 0 lo), ?_, ?_⟩
  · unfold cutV
    rw [List.map_take, List.map_drop]
  · rw [List.length_take, List.length_drop]
    omega
end Wc

/-! Equality whatever is compared; what can be shown; a range's comprehension. -/
namespace Wc
open PySem PySem.Spec PyProof.Rows L2
section
variable {K : PySem.W.Frag} {X : Cx}
def dEqU (f : Bool → Bool) (x y : PyData) (P : PyData → Prop) : Prop := match x, y with
  | .str a, .str b => P (.bool (f (decide (a = b))))
  | .int a, .int b => P (.bool (f (decide (a = b))))
  | x, y => okD x ∧ okD y ∧ P (.bool (f (PyData.eqv x y)))
theorem sv_eqU : Serves K (fun x y H Q => rEq x y H Q ∨ rEqD K x y H Q) (dEqU id) := by
  intro G k ρ σ F H x y a b P R en hb dx dy q r
  unfold dEqU at q
  split at q
  · rename_i s t
    refine .inl ⟨by rw [dx.inv_str, dy.inv_str]; rfl, ?_⟩
    rw [dx.inv_str, dy.inv_str]
    have : decide (V.str s = V.str t) = decide (s = t) := by
      by_cases h : s = t
      · subst h; simp
      · rw [decide_eq_false h, decide_eq_false fun z => h (V.str.inj z)]
    rw [this]
    exact r _ _ F H en (Same.refl F) (.bl _) q
  · rename_i s t
    refine .inl ⟨by rw [dx.inv_int, dy.inv_int]; rfl, ?_⟩
    rw [dx.inv_int, dy.inv_int]
    have : decide (V.int s = V.int t) = decide (s = t) := by
      by_cases h : s = t
      · subst h; simp
      · rw [decide_eq_false h, decide_eq_false fun z => h (V.int.inj z)]
    rw [this]
    exact r _ _ F H en (Same.refl F) (.bl _) q
  · exact .inr (sv_eq G k ρ σ F H x y _ _ P R en hb dx dy q r)
theorem sv_neU : Serves K (fun x y H Q => rNe x y H Q ∨ rNeD K x y H Q) (dEqU not) := by
  intro G k ρ σ F H x y a b P R en hb dx dy q r
  unfold dEqU at q
  split at q
  · rename_i s t
    refine .inl ⟨by rw [dx.inv_str, dy.inv_str]; rfl, ?_⟩
    rw [dx.inv_str, dy.inv_str]
    have : decide (V.str s = V.str t) = decide (s = t) := by
      by_cases h : s = t
      · subst h; simp
      · rw [decide_eq_false h, decide_eq_false fun z => h (V.str.inj z)]
    rw [this]
    exact r _ _ F H en (Same.refl F) (.bl _) q
  · rename_i s t
    refine .inl ⟨by rw [dx.inv_int, dy.inv_int]; rfl, ?_⟩
    rw [dx.inv_int, dy.inv_int]
    have : decide (V.int s = V.int t) = decide (s = t) := by
      by_cases h : s = t
      · subst h; simp
      · rw [decide_eq_false h, decide_eq_false fun z => h (V.int.inj z)]
    rw [this]
    exact r _ _ F H en (Same.refl F) (.bl _) q
  · exact .inr (sv_ne G k ρ σ F H x y _ _ P R en hb dx dy q r)
theorem op_eqU {j : Nat} (r : Room j X.A) : OpR X (compareOp .Eq) (fun x y H Q => rEq x y H Q ∨ rEqD X.K x y H Q) := orOp op_eq (op_eqD (u64 r))
theorem op_neU {j : Nat} (r : Room j X.A) : OpR X (compareOp .NotEq) (fun x y H Q => rNe x y H Q ∨ rNeD X.K x y H Q) := orOp op_ne (op_neD (u64 r))
end

/-! ### what can be shown -/
mutual
/-- no dict, no great number, plain signs -/
def fine : PyData → Bool
  | .none => true
  | .bool _ => true
  | .int i => decide (i.natAbs.log2 < 1920)
  | .str x => x.cps.toList.all fun c => decide (c < 1000)
  | .list xs => fineAll xs
  | .tuple xs => fineAll xs
  | .dict _ => false
def fineAll : List PyData → Bool
  | [] => true
  | x :: xs => fine x && fineAll xs
end
mutual
/-- how long its repr may be -/
def wt : PyData → Nat
  | .none => 5
  | .bool _ => 5
  | .int _ => 1921
  | .str x => 10 * x.length + 2
  | .list xs => wtAll xs + 3
  | .tuple xs => wtAll xs + 3
  | .dict _ => 0
def wtAll : List PyData → Nat
  | [] => 0
  | x :: xs => wt x + 2 + wtAll xs
end
theorem strLen_app (a b : Str) : (a ++ b).length = a.length + b.length := Str.length_append a b
theorem len_none : (("None" : String) : Str).length ≤ 5 := by decide +kernel
theorem len_true : (("True" : String) : Str).length ≤ 5 := by decide +kernel
theorem len_false : (("False" : String) : Str).length ≤ 5 := by decide +kernel
mutual
theorem shown_le : ∀ d : PyData, fine d = true → d.shown.length ≤ wt d
  | .none, _ => len_none
  | .bool true, _ => len_true
  | .bool false, _ => len_false
  | .int i, h => by
    have h' : i.natAbs.log2 < 1920 := by simpa [fine] using h
    exact int_text_len_1921 h'
  | .str x, h => by
    have h' : ∀ c ∈ x.cps.toList, c < 1000 := fun c hc => by
      unfold fine at h
      exact of_decide_eq_true (List.all_eq_true.mp h c hc)
    exact StrLaws.reprText_len x fun c hc => Nat.lt_trans (h' c hc) (by decide)
  | .list xs, h => by
    have h' : fineAll xs = true := by simpa [fine] using h
    have a1 := shownAll_le xs h'
    have a2 := listText_len_le (PyData.shownAll xs)
    show (listText (PyData.shownAll xs)).length ≤ wtAll xs + 3
    omega
  | .tuple xs, h => by
    have h' : fineAll xs = true := by simpa [fine] using h
    have a1 := shownAll_le xs h'
    have a2 := tupleText_len_le (PyData.shownAll xs)
    show (tupleText (PyData.shownAll xs)).length ≤ wtAll xs + 3
    omega
  | .dict _, h => by simp [fine] at h
theorem shownAll_le : ∀ xs : List PyData, fineAll xs = true → ((PyData.shownAll xs).map (·.length)).sum + 2 * (PyData.shownAll xs).length ≤ wtAll xs
  | [], _ => Nat.le_refl _
  | x :: xs, h => by
    have h' : fine x = true ∧ fineAll xs = true := by simpa [fineAll] using h
    have a1 := shown_le x h'.1
    have a2 := shownAll_le xs h'.2
    show ((x.shown :: PyData.shownAll xs).map (·.length)).sum + 2 * (x.shown :: PyData.shownAll xs).length ≤ wt x + 2 + wtAll xs
    rw [List.map_cons, List.sum_cons, List.length_cons]
    omega
end
mutual
theorem fine_show : ∀ d : PyData, fine d = true → d.showable = true ∧ d.hasDict = false
  | .none, _ => ⟨rfl, by simp [PyData.hasDict]⟩
  | .bool _, _ => ⟨rfl, by simp [PyData.hasDict]⟩
  | .int i, h => ⟨by simpa [fine, PyData.showable] using h, by simp [PyData.hasDict]⟩
  | .str _, _ => ⟨rfl, by simp [PyData.hasDict]⟩
  | .list xs, h => by
    have := fineAll_show xs (by simpa [fine] using h)
    exact ⟨by simpa [PyData.showable] using this.1, by simpa [PyData.hasDict] using this.2⟩
  | .tuple xs, h => by
    have := fineAll_show xs (by simpa [fine] using h)
    exact ⟨by simpa [PyData.showable] using this.1, by simpa [PyData.hasDict] using this.2⟩
  | .dict _, h => by simp [fine] at h
theorem fineAll_show : ∀ xs : List PyData, fineAll xs = true → PyData.showableAll xs = true ∧ PyData.hasDictAll xs = false
  | [], _ => ⟨by simp [PyData.showableAll], by simp [PyData.hasDictAll]⟩
  | x :: xs, h => by
    have h' : fine x = true ∧ fineAll xs = true := by simpa [fineAll] using h
    have a1 := fine_show x h'.1
    have a2 := fineAll_show xs h'.2
    exact ⟨by simp [PyData.showableAll, a1.1, a2.1], by simp [PyData.hasDictAll, a1.2, a2.2]⟩
end
theorem okR_of {d : PyData} (h : fine d = true) (hd : d.depth ≤ 60) (hw : wt d ≤ 16000000) : okR d := by
  have h1 := fine_show d h
  have h2 := shown_le d h
  exact ⟨h1.1, h1.2, hd, by rw [sizeLine_eq]; omega⟩
mutual
theorem fine_lay : ∀ d : PyData, fine d = true → d.canLay0 = true
  | .none, _ => by simp [PyData.canLay0]
  | .bool _, _ => by simp [PyData.canLay0]
  | .int _, _ => by simp [PyData.canLay0]
  | .str x, h => by
    have h' : ∀ c ∈ x.cps.toList, c < 1000 := fun c hc => by
      unfold fine at h
      exact of_decide_eq_true (List.all_eq_true.mp h c hc)
    unfold PyData.canLay0 PyData.strOk
    rw [← Array.all_toList, List.all_eq_true]
    intro c hc
    exact decide_eq_true (Nat.lt_trans (h' c hc) (by decide))
  | .list xs, h => by
    have := fineAll_lay xs (by simpa [fine] using h)
    simpa [PyData.canLay0] using this
  | .tuple xs, h => by
    have := fineAll_lay xs (by simpa [fine] using h)
    simpa [PyData.canLay0] using this
  | .dict _, h => by simp [fine] at h
theorem fineAll_lay : ∀ xs : List PyData, fineAll xs = true → PyData.canLayAll0 xs = true
  | [], _ => by simp [PyData.canLayAll0]
  | x :: xs, h => by
    have h' : fine x = true ∧ fineAll xs = true := by simpa [fineAll] using h
    simp [PyData.canLayAll0, fine_lay x h'.1, fineAll_lay xs h'.2]
end
theorem okD_of {d : PyData} (h : fine d = true) (hd : d.depth ≤ 60) : okD d := by
  unfold okD SeqAt.shaped
  rw [fine_lay d h, Bool.true_and]
  exact decide_eq_true (by omega)
theorem eqv_self {d : PyData} (h : fine d = true) : PyData.eqv d d = true := SeqAt.eqv_refl d (fine_lay d h)
theorem szl {n : Nat} (h : n ≤ 1000) : (n ≤ sizeLine) = True := eq_true (by rw [sizeLine_eq]; omega)
theorem take_mk {n : Int} {k : Nat} {Q : PyData → Nat → Prop} (h0 : 0 < n) (h1 : n < 100000000) (hk : k < 1000000) (h : ∀ r, 0 ≤ r → r < n → Q (.int r) (k + 1)) : g__law_take [.tap, .d (.int n)] k Q := ⟨n, rfl, ⟨h0, h1, hk⟩, h⟩
theorem ix_inL {xs : List PyData} {r : Int} {P : PyData → Prop} (h0 : 0 ≤ r) (h1 : r < xs.length) (h : ∀ z ∈ xs, P z) : dIx (.list xs) (.int r) P := by
  obtain ⟨z, e, hz, _⟩ := atOf h0 h1
  exact ⟨z, e, h z hz⟩
theorem ix_inT {xs : List PyData} {r : Int} {P : PyData → Prop} (h0 : 0 ≤ r) (h1 : r < xs.length) (h : ∀ z ∈ xs, P z) : dIx (.tuple xs) (.int r) P := by
  obtain ⟨z, e, hz, _⟩ := atOf h0 h1
  exact ⟨z, e, h z hz⟩
theorem ten200 : 10 ^ 200 < 2 ^ 9000 := by decide +kernel
theorem fit9 {i g : Int} (h0 : 0 < g) (h : g.natAbs < 10 ^ 200) : CDivW i g := ⟨h0, by
  have hg : g.natAbs ≠ 0 := by omega
  exact (Nat.log2_lt hg).mpr (Nat.lt_trans h ten200)⟩
theorem fitM {i j : Int} (h1 : i.natAbs < 2 ^ 64) (h2 : j.natAbs < 2 ^ 64) : CMulW i j := by
  have lg : ∀ n : Nat, n < 2 ^ 64 → n.log2 < 64 := fun n h => by
    by_cases z : n = 0
    · subst z; decide
    · exact (Nat.log2_lt z).mpr h
  have a := lg _ h1
  have b := lg _ h2
  show i.natAbs.log2 + j.natAbs.log2 < 1000000
  omega
theorem at0 {x : PyData} {xs : List PyData} : atI (x :: xs) 0 = some x := ix0
theorem at1 {x y : PyData} {xs : List PyData} : atI (x :: y :: xs) 1 = some y := ix0 (xs := xs) ▸ ixS (n := 0)
theorem at2 {x y z : PyData} {xs : List PyData} : atI (x :: y :: z :: xs) 2 = some z := at1 (x := y) (y := z) (xs := xs) ▸ ixS (n := 1)
theorem wordU {f : Int → Int → Bool} {g : PyData → PyData → Bool} {i j : Int} {P : PyData → Prop} : dOrdU f g (.int i) (.int j) P = P (.bool (f i j)) := rfl
theorem weqU_str {f : Bool → Bool} {a b : Str} {P : PyData → Prop} : dEqU f (.str a) (.str b) P = P (.bool (f (decide (a = b)))) := rfl
theorem weqU_int {f : Bool → Bool} {a b : Int} {P : PyData → Prop} : dEqU f (.int a) (.int b) P = P (.bool (f (decide (a = b)))) := rfl
theorem sz0 : (0 ≤ sizeLine) = True := szl (by decide)
theorem sz1 : (1 ≤ sizeLine) = True := szl (by decide)
theorem sz2 : (2 ≤ sizeLine) = True := szl (by decide)
theorem sz3 : (3 ≤ sizeLine) = True := szl (by decide)
theorem sz4 : (4 ≤ sizeLine) = True := szl (by decide)
theorem sz5 : (5 ≤ sizeLine) = True := szl (by decide)
theorem sz6 : (6 ≤ sizeLine) = True := szl (by decide)
theorem sz7 : (7 ≤ sizeLine) = True := szl (by decide)
theorem sz8 : (8 ≤ sizeLine) = True := szl (by decide)
theorem sz9 : (9 ≤ sizeLine) = True := szl (by decide)
theorem sz10 : (10 ≤ sizeLine) = True := szl (by decide)
theorem sz11 : (11 ≤ sizeLine) = True := szl (by decide)
theorem sz12 : (12 ≤ sizeLine) = True := szl (by decide)
theorem sz13 : (13 ≤ sizeLine) = True := szl (by decide)
theorem sz14 : (14 ≤ sizeLine) = True := szl (by decide)
theorem sz15 : (15 ≤ sizeLine) = True := szl (by decide)
theorem sz16 : (16 ≤ sizeLine) = True := szl (by decide)
theorem sz17 : (17 ≤ sizeLine) = True := szl (by decide)
theorem sz18 : (18 ≤ sizeLine) = True := szl (by decide)
theorem sz19 : (19 ≤ sizeLine) = True := szl (by decide)
theorem sz20 : (20 ≤ sizeLine) = True := szl (by decide)
theorem sz21 : (21 ≤ sizeLine) = True := szl (by decide)
theorem sz22 : (22 ≤ sizeLine) = True := szl (by decide)
theorem sz23 : (23 ≤ sizeLine) = True := szl (by decide)
theorem sz24 : (24 ≤ sizeLine) = True := szl (by decide)
theorem sz25 : (25 ≤ sizeLine) = True := szl (by decide)
theorem sz26 : (26 ≤ sizeLine) = True := szl (by decide)
theorem sz27 : (27 ≤ sizeLine) = True := szl (by decide)
theorem sz28 : (28 ≤ sizeLine) = True := szl (by decide)
theorem sz29 : (29 ≤ sizeLine) = True := szl (by decide)
theorem sz30 : (30 ≤ sizeLine) = True := szl (by decide)
theorem sz31 : (31 ≤ sizeLine) = True := szl (by decide)
theorem sz32 : (32 ≤ sizeLine) = True := szl (by decide)
theorem sz33 : (33 ≤ sizeLine) = True := szl (by decide)
theorem sz34 : (34 ≤ sizeLine) = True := szl (by decide)
theorem sz35 : (35 ≤ sizeLine) = True := szl (by decide)
theorem sz36 : (36 ≤ sizeLine) = True := szl (by decide)
theorem sz37 : (37 ≤ sizeLine) = True := szl (by decide)
theorem sz38 : (38 ≤ sizeLine) = True := szl (by decide)
theorem sz39 : (39 ≤ sizeLine) = True := szl (by decide)
theorem sz40 : (40 ≤ sizeLine) = True := szl (by decide)
/-- a loop by what holds between two turns -/
theorem loop_inv {g : DG} {tb : DTS} {xs : List PyData} {D : DEnds} {ρ : Slots} {k : Nat} (I : Nat → Slots → Nat → Prop) (h0 : I 0 ρ k)
    (hs : ∀ (i : Nat) (x : PyData) (ρ : Slots) (k : Nat) (N : Slots → Nat → Prop), xs[i]? = some x → I i ρ k → (∀ ρ' k', I (i + 1) ρ' k' → N ρ' k') → g x ρ fun ρ1 => tb { D with nx := N, ct := N, bk := D.nx } ρ1 k)
    (hd : ∀ ρ k, I xs.length ρ k → D.nx ρ k) : loopD g tb xs D ρ k := by
  have main : ∀ (n i : Nat) (ρ : Slots) (k : Nat), xs.length = i + n → I i ρ k → loopD g tb (xs.drop i) D ρ k := by
    intro n
    induction n with
    | zero =>
      intro i ρ k e h
      have : xs.drop i = [] := List.drop_eq_nil_iff.mpr (by omega)
      rw [this]
      exact hd ρ k (by rw [show xs.length = i by omega]; exact h)
    | succ n ih =>
      intro i ρ k e h
      have hi : i < xs.length := by omega
      rw [List.drop_eq_getElem_cons hi]
      exact hs i _ ρ k _ (List.getElem?_eq_getElem hi) h fun ρ' k' h' => ih (i + 1) ρ' k' (by omega) h'
  have := main xs.length 0 ρ k (by omega) h0
  rwa [List.drop_zero] at this
/-- a comprehension likewise -/
theorem lc_inv {g : DG} {c : DB} {e : DT} {ρ0 : Slots} {xs acc : List PyData} {k : Nat} {Q : List PyData → Nat → Prop} (I : Nat → List PyData → Nat → Prop) (h0 : I 0 acc k)
    (hs : ∀ (i : Nat) (x : PyData) (acc : List PyData) (k : Nat) (N : List PyData → Nat → Prop), xs[i]? = some x → I i acc k → (∀ acc' k', I (i + 1) acc' k' → N acc' k') →
      g x ρ0 fun ρ1 => c ρ1 k fun b ρ2 k2 => ρ2 = ρ1 ∧ if b = true then e ρ1 k2 fun y ρ3 k3 => ρ3 = ρ1 ∧ N (acc ++ [y]) k3 else N acc k2)
    (hd : ∀ acc k, I xs.length acc k → Q acc k) : lcD g c e ρ0 xs acc k Q := by
  have main : ∀ (n i : Nat) (acc : List PyData) (k : Nat), xs.length = i + n → I i acc k → lcD g c e ρ0 (xs.drop i) acc k Q := by
    intro n
    induction n with
    | zero =>
      intro i acc k e h
      have : xs.drop i = [] := List.drop_eq_nil_iff.mpr (by omega)
      rw [this]
      exact hd acc k (by rw [show xs.length = i by omega]; exact h)
    | succ n ih =>
      intro i acc k e h
      have hi : i < xs.length := by omega
      rw [List.drop_eq_getElem_cons hi]
      exact hs i _ acc k (fun acc k => lcD g c _ ρ0 (xs.drop (i + 1)) acc k Q) (List.getElem?_eq_getElem hi) h fun acc' k' h' => ih (i + 1) acc' k' (by omega) h'
  have := main xs.length 0 acc k (by omega) h0
  rwa [List.drop_zero] at this
theorem char_ok (c : Char) : c.toNat < 0x110000 := by
  have h := c.valid
  have e : c.toNat = c.val.toNat := rfl
  rcases h with h | ⟨_, h⟩
  · have : c.val.toNat < 0xd800 := h
    omega
  · have : c.val.toNat < 0x110000 := h
    omega
theorem strOk_of (s : String) : PyData.strOk (Str.ofString s) = true := by
  unfold PyData.strOk
  rw [← Array.all_toList, PyProof.Rows.signs_ofString, List.all_eq_true]
  intro c hc
  obtain ⟨ch, _, rfl⟩ := List.mem_map.mp hc
  exact decide_eq_true (char_ok ch)
end Wc
namespace Wc
open PySem PySem.Spec PyProof.Rows L2
/-- the cell that the tap reads: any number -/
def tCell (K : PySem.W.Frag) : TE := fun σ H R => ∃ (l : Addr) (ns : List Int) (sp : Int), σ[5]? = some (some (.ref l)) ∧ σ[4]? = some (some (.int sp)) ∧ SqL K H l (ns.map V.int) ∧ ∀ c : Int, R (.int c) H
/-- whether it is a great one -/
def tGreat (K : PySem.W.Frag) : TT := fun σ H R => ∃ (l : Addr) (ns : List Int) (sp c : Int), σ[5]? = some (some (.ref l)) ∧ σ[4]? = some (some (.int sp)) ∧ σ[6]? = some (some (.int c)) ∧ SqL K H l (ns.map V.int) ∧ ∀ b : Bool, (b = true → 0 ≤ c) → R b H
end Wc
namespace Wc
open PySem PySem.Spec PyProof.Rows L2
/-- a tuple of the module -/
theorem const_tup {K : PySem.W.Frag} {a : Addr} {od : Option Addr} {its : Array Value} {n : Nat} {sl : Array (Option Value)} {vs : List V} {xs : List PyData} (r : K.lookup a = some ⟨.type "tuple", od, .seq its n, sl⟩) (v : Vals vs its.toList) (hz : vs.length ≤ 1000) (d : ∀ F, DtAll K F vs xs) (F : Hp) : Dt K F (.ref a) (.tuple xs) := by
  refine .tup (.inr ⟨_, its, n, r, rfl, rfl, ?_, v⟩) (d F)
  have h : vs.length = its.toList.length := Paired.length v
  have h2 : its.toList.length = its.size := Array.length_toList
  rw [sizeLine_eq]
  omega
end Wc

namespace Lw
open PySem PySem.Spec PyProof.Rows L2 Wc
def topS (i : Nat) : Stmt := PySem.Challenge.pw_waycircuits_k08_fractions.main.body.getD i (.Pass ⟨0, 0, 0, 0⟩)
abbrev s__law_tap : Stmt := topS 11
abbrev N__law_tap : List Str := ["_law_script"]
theorem sc__law_tap : FnScope N__law_tap ["_law_script"] (defScope s__law_tap) := ⟨rfl, rfl, rfl, by decide +kernel, rfl, by decide +kernel, by decide +kernel⟩
abbrev s__law_take : Stmt := topS 12
abbrev N__law_take : List Str := ["_law_tap_here", "_law_many", "_law_calls", "_law_figure", "_law_spot", "_law_cells", "_law_cell", "_law_once"]
theorem sc__law_take : FnScope N__law_take ["_law_tap_here", "_law_many"] (defScope s__law_take) := ⟨rfl, rfl, rfl, by decide +kernel, rfl, by decide +kernel, by decide +kernel⟩
abbrev s__law_common : Stmt := topS 15
abbrev N__law_common : List Str := ["_law_one", "_law_other"]
theorem sc__law_common : FnScope N__law_common ["_law_one", "_law_other"] (defScope s__law_common) := ⟨rfl, rfl, rfl, by decide +kernel, rfl, by decide +kernel, by decide +kernel⟩
abbrev s__law_lowest : Stmt := topS 16
abbrev N__law_lowest : List Str := ["_law_over", "_law_under", "_law_by"]
theorem sc__law_lowest : FnScope N__law_lowest ["_law_over", "_law_under"] (defScope s__law_lowest) := ⟨rfl, rfl, rfl, by decide +kernel, rfl, by decide +kernel, by decide +kernel⟩
abbrev s__law_drawn : Stmt := topS 18
abbrev N__law_drawn : List Str := ["_law_tap_here", "_law_over"]
theorem sc__law_drawn : FnScope N__law_drawn ["_law_tap_here"] (defScope s__law_drawn) := ⟨rfl, rfl, rfl, by decide +kernel, rfl, by decide +kernel, by decide +kernel⟩
abbrev s__law_is_number : Stmt := topS 14
abbrev N__law_is_number : List Str := ["_law_thing"]
theorem sc__law_is_number : FnScope N__law_is_number ["_law_thing"] (defScope s__law_is_number) := ⟨rfl, rfl, rfl, by decide +kernel, rfl, by decide +kernel, by decide +kernel⟩
abbrev s__law_is_fraction : Stmt := topS 17
abbrev N__law_is_fraction : List Str := ["_law_thing", "_law_one"]
theorem sc__law_is_fraction : FnScope N__law_is_fraction ["_law_thing"] (defScope s__law_is_fraction) := ⟨rfl, rfl, rfl, by decide +kernel, rfl, by decide +kernel, by decide +kernel⟩
abbrev s__law_odd : Stmt := topS 13
abbrev N__law_odd : List Str := ["_law_tap_here", "_law_some"]
theorem sc__law_odd : FnScope N__law_odd ["_law_tap_here"] (defScope s__law_odd) := ⟨rfl, rfl, rfl, by decide +kernel, rfl, by decide +kernel, by decide +kernel⟩
abbrev s_is_number : Stmt := topS 2
abbrev N_is_number : List Str := ["thing"]
theorem sc_is_number : FnScope N_is_number ["thing"] (defScope s_is_number) := ⟨rfl, rfl, rfl, by decide +kernel, rfl, by decide +kernel, by decide +kernel⟩
abbrev s_is_fraction : Stmt := topS 6
abbrev N_is_fraction : List Str := ["thing", "over", "under"]
theorem sc_is_fraction : FnScope N_is_fraction ["thing"] (defScope s_is_fraction) := ⟨rfl, rfl, rfl, by decide +kernel, rfl, by decide +kernel, by decide +kernel⟩
abbrev s_lowest : Stmt := topS 9
abbrev N_lowest : List Str := ["over", "under", "shared"]
theorem sc_lowest : FnScope N_lowest ["over", "under"] (defScope s_lowest) := ⟨rfl, rfl, rfl, by decide +kernel, rfl, by decide +kernel, by decide +kernel⟩
abbrev s_plus : Stmt := topS 7
abbrev N_plus : List Str := ["one", "other"]
theorem sc_plus : FnScope N_plus ["one", "other"] (defScope s_plus) := ⟨rfl, rfl, rfl, by decide +kernel, rfl, by decide +kernel, by decide +kernel⟩
abbrev s_times : Stmt := topS 8
abbrev N_times : List Str := ["one", "other"]
theorem sc_times : FnScope N_times ["one", "other"] (defScope s_times) := ⟨rfl, rfl, rfl, by decide +kernel, rfl, by decide +kernel, by decide +kernel⟩
abbrev s_law : Stmt := topS 19
abbrev N_law : List Str := ["_law_script", "_law_tap_here", "_law_k", "_law_one", "_law_other", "_law_two", "_law_kept", "_law_sums", "_law_product", "_law_by", "_law_things", "_law_thing"]
theorem sc_law : FnScope N_law ["_law_script"] (defScope s_law) := ⟨rfl, rfl, rfl, by decide +kernel, rfl, by decide +kernel, by decide +kernel⟩
structure Tx (K : PySem.W.Frag) (mg : Str → Option Value) : Prop where
  s__law_take : St0 K mg "_law_take" s__law_take ["_law_tap_here", "_law_many"]
  s__law_common : St0 K mg "_law_common" s__law_common ["_law_one", "_law_other"]
  s__law_lowest : St0 K mg "_law_lowest" s__law_lowest ["_law_over", "_law_under"]
  s__law_drawn : St0 K mg "_law_drawn" s__law_drawn ["_law_tap_here"]
  s__law_is_number : St0 K mg "_law_is_number" s__law_is_number ["_law_thing"]
  s__law_is_fraction : St0 K mg "_law_is_fraction" s__law_is_fraction ["_law_thing"]
  s__law_odd : St0 K mg "_law_odd" s__law_odd ["_law_tap_here"]
  s_is_number : St0 K mg "is_number" s_is_number ["thing"]
  s_is_fraction : St0 K mg "is_fraction" s_is_fraction ["thing"]
  s_lowest : St0 K mg "lowest" s_lowest ["over", "under"]
  s_plus : St0 K mg "plus" s_plus ["one", "other"]
  s_times : St0 K mg "times" s_times ["one", "other"]
  n_abs : mg "abs" = none
  n_bool : mg "bool" = none
  n_int : mg "int" = none
  n_isinstance : mg "isinstance" = none
  n_len : mg "len" = none
  n_list : mg "list" = none
  n_range : mg "range" = none
  n_repr : mg "repr" = none
  n_str : mg "str" = none
  n_tuple : mg "tuple" = none
  m_gcd : mg "gcd" = some (.builtin "math.gcd")
  g_ONE : ∃ a, mg "ONE" = some (.ref a) ∧ ∀ F, Dt K F (.ref a) (.tuple [.int 1, .int 1])
  g_NOUGHT : ∃ a, mg "NOUGHT" = some (.ref a) ∧ ∀ F, Dt K F (.ref a) (.tuple [.int 0, .int 1])
/-! ### what each def promises -/
def low (a b : Int) : PyData := .tuple [.int (a / ((Nat.gcd a.natAbs b.natAbs : Nat) : Int)), .int (b / ((Nat.gcd a.natAbs b.natAbs : Nat) : Int))]
def small (a : Int) : Prop := a.natAbs < 10 ^ 200
def isNum (x : PyData) : Bool := match x with
  | .int _ => true
  | _ => false
def g_is_number : DF := fun as k Q => ∃ x, as = [.d x] ∧ Q (.bool (isNum x)) k
theorem len_is_number : Len g_is_number 1 := by
  rintro _ _ _ ⟨x, rfl, _⟩
  rfl
def g__law_is_number : DF := g_is_number
theorem len__law_is_number : Len g__law_is_number 1 := len_is_number
def g__law_common : DF := fun as k Q => ∃ a b : Int, as = [.d (.int a), .d (.int b)] ∧ 0 ≤ a ∧ 0 ≤ b ∧ Q (.int ((Nat.gcd a.natAbs b.natAbs : Nat) : Int)) k
theorem len__law_common : Len g__law_common 2 := by
  rintro _ _ _ ⟨a, b, rfl, _⟩
  rfl
def g_lowest : DF := fun as k Q => ∃ a b : Int, as = [.d (.int a), .d (.int b)] ∧ 0 < b ∧ small b ∧ Q (low a b) k
theorem len_lowest : Len g_lowest 2 := by
  rintro _ _ _ ⟨a, b, rfl, _⟩
  rfl
def g__law_lowest : DF := g_lowest
theorem len__law_lowest : Len g__law_lowest 2 := len_lowest
/-- a fraction of small figures -/
def frac (x : PyData) (a b : Int) : Prop := x = .tuple [.int a, .int b] ∧ -1000 < a ∧ a < 1000 ∧ 0 < b ∧ b < 1000
def g_plus : DF := fun as k Q => ∃ (x y : PyData) (a b c d : Int), as = [.d x, .d y] ∧ frac x a b ∧ frac y c d ∧ Q (low (a * d + c * b) (b * d)) k
theorem len_plus : Len g_plus 2 := by
  rintro _ _ _ ⟨x, y, a, b, c, d, rfl, _⟩
  rfl
def g_times : DF := fun as k Q => ∃ (x y : PyData) (a b c d : Int), as = [.d x, .d y] ∧ frac x a b ∧ frac y c d ∧ Q (low (a * c) (b * d)) k
theorem len_times : Len g_times 2 := by
  rintro _ _ _ ⟨x, y, a, b, c, d, rfl, _⟩
  rfl
def g__law_drawn : DF := fun as k Q => as = [.tap] ∧ k < 1000 ∧ ∀ x a b, frac x a b → Q x (k + 5)
theorem len__law_drawn : Len g__law_drawn 1 := by
  rintro _ _ _ ⟨rfl, _⟩
  rfl
def odds : List PyData := [.none, .bool true, .bool false, .int 0, .int 1, .int (-1), .int (10 ^ 50), .str "", .str "a", .str "A", .str "abcdefghi", .tuple [], .list [], .tuple [.str "a"], .list [.str "a"], .tuple [.str "a", .bool true]]
def g__law_odd : DF := fun as k Q => as = [.tap] ∧ k < 1000 ∧ ∀ x ∈ odds, Q x (k + 1)
theorem len__law_odd : Len g__law_odd 1 := by
  rintro _ _ _ ⟨rfl, _⟩
  rfl
/-- whether it is one -/
def isFr (x : PyData) : Bool := match x with
  | .tuple [.int a, .int b] => decide (0 < b) && decide (Nat.gcd a.natAbs b.natAbs = 1)
  | _ => false
def atom (x : PyData) : Bool := match x with
  | .none => true
  | .bool _ => true
  | .int _ => true
  | .str x => PyData.strOk x
  | _ => false
/-- two things in it are atoms -/
def flat2 (x : PyData) : Prop := ∀ p q, x = .tuple [p, q] → atom p = true ∧ atom q = true
def g_is_fraction : DF := fun as k Q => ∃ x, as = [.d x] ∧ flat2 x ∧ Q (.bool (isFr x)) k
theorem len_is_fraction : Len g_is_fraction 1 := by
  rintro _ _ _ ⟨x, rfl, _⟩
  rfl
def g__law_is_fraction : DF := g_is_fraction
theorem len__law_is_fraction : Len g__law_is_fraction 1 := len_is_fraction
theorem low_frac {a b : Int} (h1 : -1000 < a) (h2 : a < 1000) (h3 : 0 < b) (h4 : b < 1000) : frac (low a b) (a / ((Nat.gcd a.natAbs b.natAbs : Nat) : Int)) (b / ((Nat.gcd a.natAbs b.natAbs : Nat) : Int)) := by
  have hg : 0 < ((Nat.gcd a.natAbs b.natAbs : Nat) : Int) := by
    have := Nat.gcd_pos_of_pos_right a.natAbs (show 0 < b.natAbs by omega)
    omega
  obtain ⟨u, hu⟩ : ((Nat.gcd a.natAbs b.natAbs : Nat) : Int) ∣ a := Int.ofNat_dvd_left.mpr (Nat.gcd_dvd_left _ _)
  obtain ⟨v, hv⟩ : ((Nat.gcd a.natAbs b.natAbs : Nat) : Int) ∣ b := Int.ofNat_dvd_left.mpr (Nat.gcd_dvd_right _ _)
  refine ⟨rfl, ?_⟩
  generalize ((Nat.gcd a.natAbs b.natAbs : Nat) : Int) = g at *
  have e1 : a / g = u := by
    rw [hu]
    exact Int.mul_ediv_cancel_left _ (by omega)
  have e2 : b / g = v := by
    rw [hv]
    exact Int.mul_ediv_cancel_left _ (by omega)
  rw [e1, e2]
  have n1 : u.natAbs ≤ a.natAbs := by
    rw [hu, Int.natAbs_mul]
    exact Nat.le_mul_of_pos_left _ (by omega)
  have n2 : v.natAbs ≤ b.natAbs := by
    rw [hv, Int.natAbs_mul]
    exact Nat.le_mul_of_pos_left _ (by omega)
  have n3 : 0 < v := by
    rw [hv] at h3
    exact Int.pos_of_mul_pos_right (by rwa [Int.mul_comm] at h3) (by omega)
  omega
def invC (a b : Int) (k0 : Nat) (ρ : Slots) (k : Nat) : Prop := ∃ x y : Int, ρ = [.d (.int x), .d (.int y)] ∧ k = k0 ∧ 0 ≤ x ∧ 0 ≤ y ∧ Nat.gcd x.natAbs y.natAbs = Nat.gcd a.natAbs b.natAbs
def muC (ρ : Slots) (_ : Nat) : Nat := match ρ with
  | [.d (.int x), _] => x.natAbs
  | _ => 0
theorem small_mul {b d : Int} (hb : 0 < b ∧ b < 1000) (hd : 0 < d ∧ d < 1000) : small (b * d) := by
  unfold small
  rw [Int.natAbs_mul]
  have h1 : b.natAbs ≤ 1000 := by omega
  have h2 : d.natAbs ≤ 1000 := by omega
  exact Nat.lt_of_le_of_lt (Nat.mul_le_mul h1 h2) (by decide +kernel)
theorem isFr_len {xs : List PyData} (h : ¬ xs.length = 2) : isFr (.tuple xs) = false := by
  match xs, h with
  | [], _ => rfl
  | [.none], _ => rfl
  | [.bool _], _ => rfl
  | [.int _], _ => rfl
  | [.str _], _ => rfl
  | [.list _], _ => rfl
  | [.tuple _], _ => rfl
  | [.dict _], _ => rfl
  | [_, _], h => exact absurd rfl h
  | x :: y :: z :: r, _ => cases x <;> first | rfl | (cases y <;> rfl)
theorem atom_lay {p : PyData} (h : atom p = true) : p.canLay0 = true ∧ p.depth = 0 := by
  cases p with
  | int i => exact ⟨by simp [PyData.canLay0], by simp [PyData.depth]⟩
  | none => exact ⟨by simp [PyData.canLay0], by simp [PyData.depth]⟩
  | bool b => exact ⟨by simp [PyData.canLay0], by simp [PyData.depth]⟩
  | str x => exact ⟨by simpa [atom, PyData.canLay0] using h, by simp [PyData.depth]⟩
  | list xs => cases h
  | tuple xs => cases h
  | dict xs => cases h
theorem okD_at1 {p : PyData} (h : atom p = true) : okD (.list [p]) := by
  have a := atom_lay h
  simp [okD, SeqAt.shaped, PyData.canLay0, PyData.canLayAll0, PyData.depth, PyData.depthAll, a.1, a.2]
theorem okD_at2 {p q : PyData} (h : atom p = true) (h2 : atom q = true) : okD (.list [p, q]) := by
  have a := atom_lay h
  have b := atom_lay h2
  simp [okD, SeqAt.shaped, PyData.canLay0, PyData.canLayAll0, PyData.depth, PyData.depthAll, a.1, a.2, b.1, b.2]
theorem okD_at0 : okD (.list []) := by
  simp [okD, SeqAt.shaped, PyData.canLay0, PyData.canLayAll0, PyData.depth, PyData.depthAll]
theorem ne_at {p : PyData} {xs : List PyData} {P : PyData → Prop} (h : okD (.list (p :: xs))) (k : P (.bool true)) : dEqU not (.list (p :: xs)) (.list []) P := ⟨h, okD_at0, by simpa [PyData.eqv, PyData.eqvAll] using k⟩
theorem eq_at {P : PyData → Prop} (k : P (.bool false)) : dEqU not (.list []) (.list []) P := ⟨okD_at0, okD_at0, by simpa [PyData.eqv, PyData.eqvAll] using k⟩
theorem isFr_no1 {p q : PyData} (h : isNum p = false) : isFr (.tuple [p, q]) = false := by
  cases p <;> first | rfl | cases h
theorem isFr_no2 {p q : PyData} (h : isNum q = false) : isFr (.tuple [p, q]) = false := by
  cases p <;> first | rfl | (cases q <;> first | rfl | cases h)
theorem isNum_int {p : PyData} (h : isNum p = true) : ∃ i, p = .int i := by
  cases p <;> first | exact ⟨_, rfl⟩ | cases h
theorem fine_int {i : Int} (h : i.natAbs < 2 ^ 64) : fine (.int i) = true := by
  have : i.natAbs.log2 < 1920 := by
    by_cases z : i.natAbs = 0
    · rw [z]; decide
    · exact Nat.lt_trans ((Nat.log2_lt z).mpr h) (by decide)
  simpa [fine] using this
theorem ediv_small {a g : Int} (h : a.natAbs < 2 ^ 64) : (a / g).natAbs < 2 ^ 64 := Nat.lt_of_le_of_lt (Int.natAbs_ediv_le_natAbs a g) h
theorem fine_low {a b : Int} (h1 : a.natAbs < 2 ^ 64) (h2 : b.natAbs < 2 ^ 64) : fine (low a b) = true := by
  simp only [low, fine, fineAll, Bool.and_true, Bool.and_eq_true]
  exact ⟨fine_int (ediv_small h1), fine_int (ediv_small h2)⟩
theorem fine_frac {x : PyData} {a b : Int} (h : frac x a b) : fine x = true := by
  obtain ⟨rfl, h⟩ := h
  simp only [fine, fineAll, Bool.and_true, Bool.and_eq_true]
  exact ⟨fine_int (by omega), fine_int (by omega)⟩
theorem frac_sz {x : PyData} {a b : Int} (h : frac x a b) : x.depth = 1 ∧ wt x = 3849 := by
  obtain ⟨rfl, h⟩ := h
  simp [PyData.depth, PyData.depthAll, wt, wtAll]
theorem low_sz {a b : Int} : (low a b).depth = 1 ∧ wt (low a b) = 3849 := by
  simp [low, PyData.depth, PyData.depthAll, wt, wtAll]
theorem okR_2 {x y : PyData} {a b c d : Int} (h1 : frac x a b) (h2 : frac y c d) : okR (.tuple [x, y]) := by
  refine okR_of (by simp [fine, fineAll, fine_frac h1, fine_frac h2]) ?_ ?_
  · simp [PyData.depth, PyData.depthAll, (frac_sz h1).1, (frac_sz h2).1]
  · simp [wt, wtAll, (frac_sz h1).2, (frac_sz h2).2]
theorem okR_3 {a b c d e f : Int} (h1 : a.natAbs < 2 ^ 64) (h2 : b.natAbs < 2 ^ 64) (h3 : c.natAbs < 2 ^ 64) (h4 : d.natAbs < 2 ^ 64) (h5 : e.natAbs < 2 ^ 64) (h6 : f.natAbs < 2 ^ 64) : okR (.list [low a b, low c d, low e f]) := by
  refine okR_of (by simp [fine, fineAll, fine_low, *]) ?_ ?_
  · simp [PyData.depth, PyData.depthAll, low_sz.1]
  · simp [wt, wtAll, low_sz.2]
theorem okR_b {b : Bool} : okR (.bool b) := okR_of rfl (by simp [PyData.depth]) (by simp [wt])
theorem mul_small {a b : Int} (h1 : -1000 < a ∧ a < 1000) (h2 : -1000 < b ∧ b < 1000) : (a * b).natAbs ≤ 1000000 := by
  rw [Int.natAbs_mul]
  exact Nat.mul_le_mul (show a.natAbs ≤ 1000 by omega) (show b.natAbs ≤ 1000 by omega)
def invL (i : Nat) (ρ : Slots) (k : Nat) : Prop := (∃ a b c d e f g h i' j l, ρ = [a, .tap, b, c, d, e, f, g, h, i', j, l]) ∧ k ≤ 20 * i
def invM (x y : PyData) (k0 : Nat) (_ : Nat) (ρ : Slots) (k : Nat) : Prop := (∃ a b c d e f g h i, ρ = [a, .tap, b, .d x, .d y, c, d, e, f, g, h, i]) ∧ k = k0
def invT (k0 : Nat) (_ : Nat) (ρ : Slots) (k : Nat) : Prop := (∃ a b c d e f g h i' j l, ρ = [a, .tap, b, c, d, e, f, g, h, i', j, l]) ∧ k = k0
theorem flat_odd : ∀ x ∈ odds, flat2 x := by
  intro x hx p q e
  simp only [odds, List.mem_cons, List.not_mem_nil, or_false] at hx
  rcases hx with rfl | rfl | rfl | rfl | rfl | rfl | rfl | rfl | rfl | rfl | rfl | rfl | rfl | rfl | rfl | rfl <;> first | (cases e; done) | (cases e; exact ⟨strOk_of _, rfl⟩)
theorem flat_pair {p q : PyData} (h : atom p = true) (h2 : atom q = true) : flat2 (.tuple [p, q]) := by
  intro a b e
  cases e
  exact ⟨h, h2⟩

local macro_rules | `(tactic| walk_at "dd") => `(tactic| try simp only [sSeq, sNext, sRet, sRetN, sSet, sOwn, sDrop, sIf, sPar, sAsg, sForT, sForL, sForR1, sForR2, sAppend, froze, gSet, gTp, gsCons, gsNil, dVar, dC, dOp, dTest, dNil, dCons, aNil, aCons, aTap, dTup, nList, dList, nListOf, nCat,
  nComp, dCall, dB, bNot, bAnd, bOr, bYes, vAnd, vOr, vNot, dIte, dI, dIB, dIsi, dLenO, xPop, dSl, oNone, oSome, dCut, dChain, startD, arSl, List.map_cons, List.map_nil, List.getElem?_cons_zero, List.getElem?_cons_succ, List.set_cons_zero, List.set_cons_succ, List.cons_append, List.nil_append, List.append_nil,
  List.length_cons, List.length_nil, List.replicate_succ, List.replicate_zero, Nat.zero_add, Nat.add_one_sub_one, Nat.sub_zero, Nat.reduceAdd, Nat.reduceSub, asI_int, asS_str, asT_tup, asL_lst, asB_bl, asD_d, asTap_t, asO_o, wplus_int, wplus_str, wplus_tup, wplus_lst, wix_lst, wix_tupl, wix_strg, wseq_lst, wseq_tup, wlen_lst, wlen_tup, wlen_str,
  wone, wtwo, Bool.false_eq_true, if_true, if_false, ite_true, ite_false, reduceIte, reduceCtorEq, Bool.not_true, Bool.not_false, id_eq, Option.some.injEq, exists_eq_left', wInt_none, wInt_bool, wInt_int, wInt_str, wInt_list, wInt_tuple, wInt_dict, wBool_none, wBool_bool, wBool_int, wBool_str, wBool_list, wBool_tuple, wBool_dict, wStr_none, wStr_bool, wStr_int, wStr_str, wStr_list, wStr_tuple, wStr_dict, wTup_none, wTup_bool, wTup_int, wTup_str, wTup_list, wTup_tuple, wTup_dict, wLst_none, wLst_bool, wLst_int, wLst_str, wLst_list, wLst_tuple, wLst_dict, wipeS, wordU, weqU_str, weqU_int, decide_eq_true_eq, decide_true, decide_false, at0, at1, at2, sz0, sz1, sz2, sz3, sz4, sz5, sz6, sz7, sz8, sz9, sz10, sz11, sz12, sz13, sz14, sz15, sz16, sz17, sz18, sz19, sz20, sz21, sz22, sz23, sz24, sz25, sz26, sz27, sz28, sz29, sz30, sz31, sz32, sz33, sz34, sz35, sz36, sz37, sz38, sz39, sz40, true_and, and_true, eq_self])

section
variable {P : Program} {w : World} {K : PySem.W.Frag} {mg : Str → Option Value} {base : Heap}
theorem ok__law_tap {f : Addr} {fd : FuncData} (T : Tx K mg) (F : L2.Fun K "_law_tap" "_law_tap" s__law_tap f fd) : FnG P w K mg base CX0 1 f fd ["_law_script"] (spTap K) := by
  refine fnG F sc__law_tap (fun vs H Q E h => ?_) ?_
  · obtain ⟨a, ns, rfl, _⟩ := h
    rfl
  intro cdv A outer s H vs Q E room gd h
  obtain ⟨a, ns, rfl, hS, hlen, q⟩ := h
  refine ⟨_, pss_one (ps_ret (pe_disp (pps_cons pe_str (pe_callTy call_list_of (by rfl) T.n_list (by decide +kernel) (pa_cons (pe_slice sl_list (pv 0) po_none (po_some pe_int)) pa_nil))
    (pps_cons pe_str pe_int (pps_cons pe_str pe_int (pps_cons pe_str pe_int pps_nil)))) (by rfl) (by rfl) (fun z => by cases z) (by decide))), ?_⟩
  intro p np
  have nap : SqL K (upd H p (.dK [])) a (ns.map V.int) := by
    have sm : Same H (upd H p (.dK [])) := fun b o e => by rw [upd_ne (ne_of_none e np)]; exact e
    exact sm.seq hS
  refine ⟨.ref a, rfl, 63, rfl, a, _, rfl, nap, fun c nc => ?_⟩
  have pc : p ≠ c := ne_of_none upd_same nc
  refine ⟨c, _, rfl, .inl (.inl (.inl upd_same)), fun l nl => ?_⟩
  have pl : p ≠ l := ne_of_none ((upd_ne pc).trans upd_same) nl
  refine ⟨by rw [upd_ne pl, upd_ne pc, upd_same], tapKv l (.int 0) (.int 0) (.int 0), rfl, by show 4 ≤ 15; decide, ?_⟩
  rw [tm_all]
  obtain ⟨ms, e1, e2⟩ := sub_ints ns none (some 63)
  rw [e1]
  refine q _ (upd (fun _ => none) l (.lst (ms.map V.int))) p (fun b o e => ?_) (upd_ne pl) ⟨l, ms, 0, 0, 0, upd_same, upd_same, by omega, Int.le_refl _, Int.le_refl _, Int.le_refl _, Int.le_refl _⟩
  by_cases z : b = l
  · subst z
    rw [upd_same] at e
    rw [upd_ne (Ne.symm pl), upd_same]
    exact e
  · rw [upd_ne z] at e
    cases e

theorem ok__law_take (T : Tx K mg) : Dk P w K mg base "_law_take" 1 2 g__law_take := by
  obtain ⟨f, fd, h1, h2, h3⟩ := T.s__law_take
  refine ⟨⟨f, fd, _, h1, h2.kp, h3, fnG h2 sc__law_take (fun vs H Q E h => h.1) ?_⟩, len__law_take⟩
  intro cdv A outer s H vs Q E room gd h
  obtain ⟨hl, B, F0, TT, k, F, as, R, he, da, ⟨n, rfl, ⟨n0, n1, kk⟩, hg⟩, q⟩ := h
  obtain ⟨v1, v2, rfl, e1, e2⟩ : ∃ v1 v2, vs = [v1, v2] ∧ v1 = .ref TT ∧ v2 = .int n := by
    cases da with
    | cons x1 r =>
      cases r with
      | cons x2 r =>
        cases r
        exact ⟨_, _, rfl, x1, (show Dt K F _ (.int n) from x2).inv_int⟩
  subst e1 e2
  have hu : A.units + 3 + 1 < cLine := by
    have := room.un
    have z : (A.deeper (envOfC "_law_take" (defScope s__law_take) s.heap.objs.size f cdv)).units = A.units + 3 := rfl
    omega
  have nd := sc__law_take.nd
  refine ⟨_, pss_cons (ps_set (i := 2) nd rfl (Or.inl rfl) (pe_op op_add (pe_dget hu (pv 0) pe_str (fun _ _ => rfl)) pe_int))
    (pss_cons (ps_dput hu (pv 0) pe_str (pv 2) rfl)
    (pss_cons (ps_if (pt_cmpR op_gt (pe_dget hu (pv 0) pe_str (fun _ _ => rfl)) pe_int (nomark _))
      (pss_cons (ps_set (i := 3) nd rfl (Or.inl rfl) (pe_op op_mod (pe_dget hu (pv 0) pe_str (fun _ _ => rfl)) (pv 1)))
        (pss_cons (ps_dput hu (pv 0) pe_str (pe_op op_fdiv (pe_dget hu (pv 0) pe_str (fun _ _ => rfl)) (pv 1)) rfl) (pss_one (ps_ret (pv 3))))) pss_nil)
    (pss_cons (ps_set (i := 4) nd rfl (Or.inl rfl) (pe_dget hu (pv 0) pe_str (fun _ _ => rfl)))
    (pss_cons (ps_dput hu (pv 0) pe_str (pe_op op_add (pv 4) pe_int) rfl)
    (pss_cons (ps_set (i := 5) nd rfl (Or.inl rfl) (pe_dget hu (pv 0) pe_str (fun _ _ => rfl)))
    (pss_cons (ps_set (i := 6) nd rfl (Or.inl rfl) (peW (t' := tCell K) (pe_ifExp (pt_cmpR op_gt (pe_callB call_len_seq (by rfl) T.n_len (by decide +kernel) (pa_cons (pv 5) pa_nil)) pe_int (nomark _))
      (pe_ix ix_list (pv 5) (pe_op op_mod (pv 4) (pe_callB call_len_seq (by rfl) T.n_len (by decide +kernel) (pa_cons (pv 5) pa_nil))) (fun _ _ => rfl)) pe_int) (by
        rintro σ H R ⟨l, ns, sp, e5, e4, hL, hR⟩
        refine ⟨_, e5, l, _, rfl, .inl hL, _, _, rfl, rfl, _, rfl, ite2 (fun hc => ?_) (fun _ => hR 5)⟩
        have hc' : (0 : Int) < ((ns.map V.int).length : Nat) := of_decide_eq_true hc
        refine ⟨_, e5, _, e4, _, e5, l, _, rfl, .inl hL, _, _, rfl, rfl, hc', ?_⟩
        have h0 := Int.emod_nonneg sp (show (((ns.map V.int).length : Nat) : Int) ≠ 0 by omega)
        have h1 := Int.emod_lt_of_pos sp hc'
        obtain ⟨z, ez, hz, _⟩ := atOf h0 h1
        obtain ⟨c, _, rfl⟩ := List.mem_map.mp hz
        exact ⟨l, _, _, _, rfl, rfl, hL, ez, hR c⟩)))
    (pss_cons (ps_if (ptW (t' := tGreat K) (PW.pt (pw_and (pt_cmpR op_lt (pv 4) (pe_callB call_len_seq (by rfl) T.n_len (by decide +kernel) (pa_cons (pv 5) pa_nil)) (nomark _)) (pw_and1 (pt_cmpR op_ge (pv 6) (pe_op op_pow pe_int pe_int) (nomark _))))) (by
        rintro σ H R ⟨l, ns, sp, c, e5, e4, e6, hL, hR⟩
        refine ⟨_, e4, _, e5, l, _, rfl, .inl hL, _, _, rfl, rfl, _, rfl, ite2 (fun _ => ?_) (fun _ => hR false fun z => nomatch z)⟩
        refine ⟨_, e6, _, _, rfl, rfl, ⟨by decide, by decide, by decide⟩, _, _, rfl, rfl, _, rfl, hR _ fun z => ?_⟩
        have z' : (10 : Int) ^ (18 : Int).toNat ≤ c := of_decide_eq_true z
        exact Int.le_trans (by decide) z'))
      (pss_cons (ps_dput hu (pv 0) pe_str (pe_op op_fdiv (pv 6) (pv 1)) rfl) (pss_one (ps_ret (pe_op op_mod (pv 6) (pv 1))))) pss_nil)
    (pss_cons (ps_set (i := 7) nd rfl (Or.inl rfl) (pe_op op_mod (pe_op op_pow (pe_op op_add (pe_op op_add (pe_op op_mod (pv 6) pe_int) (pe_op op_mul pe_int (pv 2))) pe_int) pe_int) pe_int))
    (pss_one (ps_ret (pe_op op_mod (pe_op op_fdiv (pe_op op_mod (pe_op op_pow (pe_op op_add (pv 7) (pe_op op_mul (pe_op op_mul pe_int (pv 2)) (pv 2))) pe_int) pe_int) pe_int) (pv 1)))))))))))), ?_⟩
  obtain ⟨l, ns, sp, rs, cl, d0, lF, l63, b1, b2, b3, b4⟩ := he.tap
  have he0 := he.inner
  -- calls
  refine ⟨_, rfl, TT, _, rfl, tget_calls d0, _, _, rfl, rfl, ?_⟩
  refine ⟨_, rfl, _, rfl, TT, _, rfl, tput_calls d0, ?_⟩
  have hb1 : 0 ≤ cl + 1 := by omega
  have hk1 : cl + 1 ≤ ((k + 1 : Nat) : Int) := by omega
  -- the rest
  refine ⟨_, rfl, TT, _, rfl, tget_rest upd_same, _, _, rfl, rfl, _, rfl, ite2 (fun hr => ?_) (fun hr => ?_)⟩
  · have hr' : 0 < rs := of_decide_eq_true hr
    refine ⟨_, rfl, TT, _, rfl, tget_rest upd_same, _, rfl, _, _, rfl, rfl, n0, ?_⟩
    refine ⟨_, rfl, TT, _, rfl, tget_rest upd_same, _, rfl, _, _, rfl, rfl, ⟨n0, by omega⟩, _, rfl, TT, _, rfl, tput_rest upd_same, ?_⟩
    refine ⟨_, rfl, ?_⟩
    rw [upd2]
    refine q _ _ F (k + 1) _ (her_tap (k' := k + 1) he0 lF l63 b1 (Int.ediv_nonneg b2 (by omega)) hb1 hk1) (.int _) (hg _ (Int.emod_nonneg _ (by omega)) (Int.emod_lt_of_pos _ n0))
  · -- a cell
    refine ⟨_, rfl, TT, _, rfl, tget_spot upd_same, ?_⟩
    refine ⟨_, rfl, _, _, rfl, rfl, _, rfl, TT, _, rfl, tput_spot upd_same, ?_⟩
    rw [upd2]
    refine ⟨_, rfl, TT, _, rfl, tget_cells upd_same, ?_⟩
    have nlT : l ≠ TT := by
      rintro rfl
      rw [he.tapF] at lF
      cases lF
    have hL : SqL K (upd H TT (.dK (tapKv l (.int (sp + 1)) (.int rs) (.int (cl + 1))))) l (ns.map V.int) := .inl (.inl ((upd_ne nlT).trans (he.same _ _ lF)))
    refine ⟨l, ns, sp, rfl, rfl, hL, fun cell => ?_⟩
    refine ⟨l, ns, sp, cell, rfl, rfl, rfl, hL, fun b hb => ?_⟩
    cases b with
    | true =>
      have hc : 0 ≤ cell := hb rfl
      refine iteT ⟨_, rfl, _, rfl, _, _, rfl, rfl, ⟨n0, by omega⟩, _, rfl, TT, _, rfl, tput_rest upd_same, ?_⟩
      refine ⟨_, rfl, _, rfl, _, _, rfl, rfl, n0, ?_⟩
      rw [upd2]
      exact q _ _ F (k + 1) _ (her_tap (k' := k + 1) he0 lF l63 (by omega) (Int.ediv_nonneg hc (by omega)) hb1 hk1) (.int _) (hg _ (Int.emod_nonneg _ (by omega)) (Int.emod_lt_of_pos _ n0))
    | false =>
      have m0 := Int.emod_nonneg cell (show (2147483629 : Int) ≠ 0 by decide)
      have m1 := Int.emod_lt_of_pos cell (show (0 : Int) < 2147483629 by decide)
      have kc : cl + 1 ≤ 1000000 := by omega
      refine iteF ⟨_, rfl, _, _, rfl, rfl, by show (0 : Int) < 2147483629; decide, _, rfl, _, _, rfl, rfl, .inl ⟨by decide, by decide⟩, _, _, rfl, rfl, _, _, rfl, rfl, _, _, rfl, rfl, ⟨by decide, by decide, by omega⟩, _, _, rfl, rfl, by show (0 : Int) < 2147483647; decide, ?_⟩
      generalize hX : (cell % 2147483629 + 6007 * (cl + 1) + 11) ^ (5 : Int).toNat % 2147483647 = X
      have x0 : 0 ≤ X := by
        rw [← hX]
        exact Int.emod_nonneg _ (by decide)
      have x1 : X < 2147483647 := by
        rw [← hX]
        exact Int.emod_lt_of_pos _ (by decide)
      have sq : 0 ≤ 4099 * (cl + 1) * (cl + 1) ∧ 4099 * (cl + 1) * (cl + 1) ≤ 4099000000 * 1000000 := by
        have a1 : 0 ≤ 4099 * (cl + 1) := by omega
        have a2 : 4099 * (cl + 1) ≤ 4099000000 := by omega
        exact ⟨Int.mul_nonneg a1 hb1, Int.mul_le_mul a2 kc hb1 (by decide)⟩
      refine ⟨_, rfl, _, rfl, _, _, rfl, rfl, .inl ⟨by decide, by decide⟩, _, rfl, _, _, rfl, rfl, .inl ⟨by omega, by omega⟩, _, _, rfl, rfl, _, _, rfl, rfl, ⟨by decide, by decide, by omega⟩, _, _, rfl, rfl, by show (0 : Int) < 2147483587; decide, _, _, rfl, rfl, ⟨by decide, by decide⟩, _, rfl, _, _, rfl, rfl, n0, ?_⟩
      exact q _ _ F (k + 1) _ (her_tap (k' := k + 1) he0 lF l63 (by omega) b2 hb1 hk1) (.int _) (hg _ (Int.emod_nonneg _ (by omega)) (Int.emod_lt_of_pos _ n0))

theorem ok__law_common (T : Tx K mg) : Dk P w K mg base "_law_common" 1 2 g__law_common := by
  refine dkD T.s__law_common sc__law_common rfl len__law_common fun f cdv A outer s H E hr gd => ⟨_, (dss_cons (ds_while PassesOwn.never (dpt_cmp (op_gtU hr) sv_ordU (de_var 0) de_int) (dss_one (ds_par 0 1 rfl sc__law_common.nd (dl_cons (de_mod (de_var 1) (de_var 0)) (dl_cons (de_var 0) dl_nil)))))
  (dss_one (ds_ret (de_var 1)))), ?_⟩
  rintro as k Q ⟨a, b, rfl, ha, hb, hq⟩
  walk_at "dd"
  refine ⟨invC a b k, muC, ⟨a, b, rfl, rfl, ha, hb, rfl⟩, ?_⟩
  rintro ρ k' ⟨x, y, rfl, rfl, hx, hy, hg⟩
  walk_at "dd"
  by_cases h : 0 < x
  · rw [if_pos h]
    refine ⟨h, ⟨y % x, x, rfl, rfl, Int.emod_nonneg _ (by omega), hx, ?_⟩, ?_⟩
    · obtain ⟨m, rfl⟩ := Int.eq_ofNat_of_zero_le hx
      obtain ⟨n, rfl⟩ := Int.eq_ofNat_of_zero_le hy
      rw [← hg]
      have e : ((n : Int) % (m : Int)).natAbs = n % m := by
        rw [← Int.natCast_emod, Int.natAbs_natCast]
      rw [e, Int.natAbs_natCast, Int.natAbs_natCast]
      exact (Nat.gcd_rec m n).symm
    · have h1 := Int.emod_lt_of_pos y h
      have h2 := Int.emod_nonneg y (show x ≠ 0 by omega)
      show (y % x).natAbs < x.natAbs
      omega
  · rw [if_neg h]
    have e : x = 0 := by omega
    subst e
    have e2 : ((Nat.gcd a.natAbs b.natAbs : Nat) : Int) = y := by
      rw [← hg]
      show ((Nat.gcd 0 y.natAbs : Nat) : Int) = y
      rw [Nat.gcd_zero_left]
      omega
    rw [e2] at hq
    exact hq

theorem ok__law_lowest (T : Tx K mg) (c__law_common : Dk P w K mg base "_law_common" 1 2 g__law_common) : Dk P w K mg base "_law_lowest" 2 2 g__law_lowest := by
  refine dkD T.s__law_lowest sc__law_lowest rfl len__law_lowest fun f cdv A outer s H E hr gd => ⟨_, (dss_cons (ds_set 2 sc__law_lowest.nd (de_c c__law_common (hr.mono (by first | decide | omega)) gd (by rfl) (da_cons (de_b call_abs sv_abs (by rfl) T.n_abs (dl_cons (de_var 0) dl_nil)) (da_cons (de_var 1) da_nil))))
  (dss_one (ds_ret (de_tup (dl_cons (de_fdiv (de_var 0) (de_var 2)) (dl_cons (de_fdiv (de_var 1) (de_var 2)) dl_nil)))))), ?_⟩
  rintro as k Q ⟨a, b, rfl, hb, hs, hq⟩
  walk_at "dd"
  have e : (if a < 0 then -a else a).natAbs = a.natAbs := by split <;> omega
  refine ⟨_, _, rfl, by split <;> omega, by omega, ?_⟩
  rw [e]
  walk_at "dd"
  have hg : 0 < Nat.gcd a.natAbs b.natAbs := Nat.gcd_pos_of_pos_right _ (by omega)
  have hl : Nat.gcd a.natAbs b.natAbs ≤ b.natAbs := Nat.gcd_le_right _ (by omega)
  have hf : ∀ i, CDivW i ((Nat.gcd a.natAbs b.natAbs : Nat) : Int) := fun i => fit9 (by omega) (by
    rw [Int.natAbs_natCast]
    exact Nat.lt_of_le_of_lt hl hs)
  exact ⟨hf a, hf b, hq⟩

theorem ok__law_drawn (T : Tx K mg) (c__law_lowest : Dk P w K mg base "_law_lowest" 2 2 g__law_lowest) (c__law_take : Dk P w K mg base "_law_take" 1 2 g__law_take) : Dk P w K mg base "_law_drawn" 3 1 g__law_drawn := by
  refine dkD T.s__law_drawn sc__law_drawn rfl len__law_drawn fun f cdv A outer s H E hr gd => ⟨_, (dss_cons (ds_set 1 sc__law_drawn.nd (de_mul (de_ix (de_new (dn_lst (dl_cons de_int (dl_cons de_int (dl_cons de_int (dl_cons (de_c c__law_take (hr.mono (by first | decide | omega)) gd (by rfl) (da_tap 0 (da_cons de_int da_nil))) dl_nil)))))) (de_c c__law_take (hr.mono (by first | decide | omega)) gd (by rfl) (da_tap 0 (da_cons de_int da_nil)))) (de_sub de_int (de_mul de_int (de_c c__law_take (hr.mono (by first | decide | omega)) gd (by rfl) (da_tap 0 (da_cons de_int da_nil)))))))
  (dss_one (ds_ret (de_c c__law_lowest (hr.mono (by first | decide | omega)) gd (by rfl) (da_cons (de_var 1) (da_cons (de_ix (de_new (dn_lst (dl_cons de_int (dl_cons de_int (dl_cons de_int (dl_cons (de_add de_int (de_c c__law_take (hr.mono (by first | decide | omega)) gd (by rfl) (da_tap 0 (da_cons de_int da_nil)))) dl_nil)))))) (de_c c__law_take (hr.mono (by first | decide | omega)) gd (by rfl) (da_tap 0 (da_cons de_int da_nil)))) da_nil)))))), ?_⟩
  rintro as k Q ⟨rfl, hk, hq⟩
  walk_at "dd"
  refine take_mk (by decide) (by decide) (by omega) fun r1 a1 b1 => ?_
  refine take_mk (by decide) (by decide) (by omega) fun r2 a2 b2 => ?_
  refine ix_inL a2 b2 fun z hz => ?_
  obtain ⟨i, rfl, i1, i2⟩ : ∃ i : Int, z = .int i ∧ 0 ≤ i ∧ i ≤ 99 := by
    simp only [List.mem_cons, List.not_mem_nil, or_false] at hz
    rcases hz with rfl | rfl | rfl | rfl
    · exact ⟨0, rfl, by decide, by decide⟩
    · exact ⟨1, rfl, by decide, by decide⟩
    · exact ⟨99, rfl, by decide, by decide⟩
    · exact ⟨r1, rfl, by omega, by omega⟩
  refine take_mk (by decide) (by decide) (by omega) fun r3 a3 b3 => ?_
  walk_at "dd"
  refine ⟨fitM (by decide) (by omega), fitM (by omega) (by omega), ?_⟩
  refine take_mk (by decide) (by decide) (by omega) fun r4 a4 b4 => ?_
  walk_at "dd"
  refine take_mk (by decide) (by decide) (by omega) fun r5 a5 b5 => ?_
  refine ix_inL a5 b5 fun z hz => ?_
  obtain ⟨j, rfl, j1, j2⟩ : ∃ j : Int, z = .int j ∧ 1 ≤ j ∧ j ≤ 99 := by
    simp only [List.mem_cons, List.not_mem_nil, or_false] at hz
    rcases hz with rfl | rfl | rfl | rfl
    · exact ⟨1, rfl, by decide, by decide⟩
    · exact ⟨2, rfl, by decide, by decide⟩
    · exact ⟨99, rfl, by decide, by decide⟩
    · exact ⟨1 + r4, rfl, by omega, by omega⟩
  have hs : small j := Nat.lt_of_le_of_lt (show j.natAbs ≤ 99 by omega) (by decide +kernel)
  refine ⟨_, _, rfl, by omega, hs, ?_⟩
  have hb : -99 ≤ i * (1 - 2 * r3) ∧ i * (1 - 2 * r3) ≤ 99 := by
    have : r3 = 0 ∨ r3 = 1 := by omega
    rcases this with rfl | rfl
    · constructor <;> omega
    · constructor <;> omega
  exact hq _ _ _ (low_frac (by omega) (by omega) (by omega) (by omega))

theorem ok__law_is_number (T : Tx K mg) : Dk P w K mg base "_law_is_number" 1 1 g__law_is_number := by
  refine dkD T.s__law_is_number sc__law_is_number rfl len__law_is_number fun f cdv A outer s H E hr gd => ⟨_, (dss_one (ds_ret (de_and (de_isi (T := "int") (.inl rfl) isi_int (by rfl) T.n_isinstance (by rfl) T.n_int (de_var 0)) (de_one (de_not (de_isi (T := "bool") (.inr (.inl rfl)) isi_bool (by rfl) T.n_isinstance (by rfl) T.n_bool (de_var 0))))))), ?_⟩
  rintro as k Q ⟨x, rfl, hq⟩
  cases x <;> (walk_at "dd"; exact hq)

theorem ok__law_is_fraction (T : Tx K mg) (c__law_common : Dk P w K mg base "_law_common" 1 2 g__law_common) (c__law_is_number : Dk P w K mg base "_law_is_number" 1 1 g__law_is_number) : Dk P w K mg base "_law_is_fraction" 2 1 g__law_is_fraction := by
  refine dkD T.s__law_is_fraction sc__law_is_fraction rfl len__law_is_fraction fun f cdv A outer s H E hr gd => ⟨_, (dss_cons (ds_if (PW.pt (dw_or (dpt_not (ptD (de_isi (T := "tuple") (.inr (.inr (.inr (.inl rfl)))) isi_tup (by rfl) T.n_isinstance (by rfl) T.n_tuple (de_var 0)))) (dw_or (dpt_cmp (op_neU hr) sv_neU (de_b call_len sv_len (by rfl) T.n_len (dl_cons (de_var 0) dl_nil)) de_int) (dw_or1 (dpt_cmp (op_neU hr) sv_neU (de_new (dn_compT (own := [("_law_one", 1)]) rfl sc__law_is_fraction.nd (de_var 0) (blkOk_by (own := [("_law_one", 1)]) (N := N__law_is_fraction) (sc := defScope s__law_is_fraction) (by decide +kernel)) (by decide) (fun _ _ _ _ _ => (dg_name 1 sc__law_is_fraction.nd)) (fun _ _ _ _ _ => (dpts_one (dpt_not (ptD (de_c c__law_is_number (hr.mono (by first | decide | omega)) gd (by rfl) (da_cons (de_var 1) da_nil)))))) (fun _ _ _ _ _ => (de_var 1)))) (de_new (dn_lst dl_nil))))))) (dss_one (ds_ret de_bl)) dss_nil)
  (dss_one (ds_ret (de_and (de_cmp (op_gtU hr) sv_ordU (de_ix (de_var 0) de_int) de_int) (de_one (de_cmp (op_eqU hr) sv_eqU (de_c c__law_common (hr.mono (by first | decide | omega)) gd (by rfl) (da_cons (de_b call_abs sv_abs (by rfl) T.n_abs (dl_cons (de_ix (de_var 0) de_int) dl_nil)) (da_cons (de_ix (de_var 0) de_int) da_nil))) de_int)))))), ?_⟩
  rintro as k Q ⟨x, rfl, hx, hq⟩
  walk_at "dd"
  cases x with
  | tuple xs =>
    walk_at "dd"
    by_cases h2 : xs.length = 2
    · obtain ⟨p, q, rfl⟩ : ∃ p q, xs = [p, q] := by
        match xs, h2 with
        | [p, q], _ => exact ⟨p, q, rfl⟩
      obtain ⟨ap, aq⟩ := hx p q rfl
      walk_at "dd"
      simp only [lc_cons, lc_nil]
      walk_at "dd"
      rw [if_neg (by simp)]
      refine ⟨_, rfl, ?_⟩
      cases hp : isNum p with
      | false =>
        rw [isFr_no1 hp] at hq
        walk_at "dd"
        refine ⟨_, rfl, ?_⟩
        cases hn : isNum q with
        | false =>
          walk_at "dd"
          refine ne_at (okD_at2 ap aq) ?_
          walk_at "dd"
          exact hq
        | true =>
          walk_at "dd"
          refine ne_at (okD_at1 ap) ?_
          walk_at "dd"
          exact hq
      | true =>
        obtain ⟨a, rfl⟩ := isNum_int hp
        walk_at "dd"
        refine ⟨_, rfl, ?_⟩
        cases hn : isNum q with
        | false =>
          rw [isFr_no2 hn] at hq
          walk_at "dd"
          refine ne_at (okD_at1 aq) ?_
          walk_at "dd"
          exact hq
        | true =>
          obtain ⟨b, rfl⟩ := isNum_int hn
          walk_at "dd"
          refine eq_at ?_
          walk_at "dd"
          have hq' : Q (.bool (decide (0 < b) && decide (Nat.gcd a.natAbs b.natAbs = 1))) k := hq
          by_cases h : 0 < b
          · rw [if_pos h]
            have e0 : (if a < 0 then -a else a).natAbs = a.natAbs := by split <;> omega
            refine ⟨_, _, rfl, by split <;> omega, by omega, ?_⟩
            rw [e0]
            walk_at "dd"
            have e : decide (((Nat.gcd a.natAbs b.natAbs : Nat) : Int) = 1) = decide (Nat.gcd a.natAbs b.natAbs = 1) := decide_eq_decide.mpr (by omega)
            rw [e]
            rwa [decide_eq_true h, Bool.true_and] at hq'
          · rw [if_neg h]
            rwa [decide_eq_false h, Bool.false_and] at hq'
    · have : decide ((xs.length : Int) = 2) = false := decide_eq_false (by omega)
      rw [this]
      walk_at "dd"
      rw [isFr_len h2] at hq
      exact hq
  | _ => exact hq

theorem ok__law_odd (T : Tx K mg) (c__law_take : Dk P w K mg base "_law_take" 1 2 g__law_take) : Dk P w K mg base "_law_odd" 2 1 g__law_odd := by
  refine dkD T.s__law_odd sc__law_odd rfl len__law_odd fun f cdv A outer s H E hr gd => ⟨_, (dss_cons (ds_set 1 sc__law_odd.nd (de_new (dn_lst (dl_cons de_non (dl_cons de_bl (dl_cons de_bl (dl_cons de_int (dl_cons de_int (dl_cons (de_neg de_int) (dl_cons (de_pow de_int de_int) (dl_cons de_str (dl_cons de_str (dl_cons de_str (dl_cons de_str (dl_cons (de_tup dl_nil) (dl_cons (de_new (dn_lst dl_nil)) (dl_cons (de_tup (dl_cons de_str dl_nil)) (dl_cons (de_new (dn_lst (dl_cons de_str dl_nil))) (dl_cons (de_tup (dl_cons de_str (dl_cons de_bl dl_nil))) dl_nil)))))))))))))))))))
  (dss_one (ds_ret (de_ix (de_var 1) (de_c c__law_take (hr.mono (by first | decide | omega)) gd (by rfl) (da_tap 0 (da_cons de_int da_nil))))))), ?_⟩
  rintro as k Q ⟨rfl, hk, hq⟩
  walk_at "dd"
  refine ⟨⟨by decide, by decide, by decide⟩, ?_⟩
  refine take_mk (by decide) (by decide) (by omega) fun r a1 b1 => ?_
  exact ix_inL a1 b1 fun z hz => hq z hz

theorem ok_is_number (T : Tx K mg) : Dk P w K mg base "is_number" 1 1 g_is_number := by
  refine dkD T.s_is_number sc_is_number rfl len_is_number fun f cdv A outer s H E hr gd => ⟨_, (dss_one (ds_ret (de_and (de_isi (T := "int") (.inl rfl) isi_int (by rfl) T.n_isinstance (by rfl) T.n_int (de_var 0)) (de_one (de_not (de_isi (T := "bool") (.inr (.inl rfl)) isi_bool (by rfl) T.n_isinstance (by rfl) T.n_bool (de_var 0))))))), ?_⟩
  rintro as k Q ⟨x, rfl, hq⟩
  cases x <;> (walk_at "dd"; exact hq)

theorem ok_is_fraction (T : Tx K mg) (c_is_number : Dk P w K mg base "is_number" 1 1 g_is_number) : Dk P w K mg base "is_fraction" 2 1 g_is_fraction := by
  refine dkD T.s_is_fraction sc_is_fraction rfl len_is_fraction fun f cdv A outer s H E hr gd => ⟨_, (dss_cons (ds_if (PW.pt (dw_or (dpt_not (ptD (de_isi (T := "tuple") (.inr (.inr (.inr (.inl rfl)))) isi_tup (by rfl) T.n_isinstance (by rfl) T.n_tuple (de_var 0)))) (dw_or1 (dpt_cmp (op_neU hr) sv_neU (de_b call_len sv_len (by rfl) T.n_len (dl_cons (de_var 0) dl_nil)) de_int)))) (dss_one (ds_ret de_bl)) dss_nil)
  (dss_cons (ds_asg (de_var 0) (dg_tup (n := 2) rfl (dgs_cons (dg_name 1 sc_is_fraction.nd) (dgs_cons (dg_name 2 sc_is_fraction.nd) dgs_nil))))
  (dss_cons (ds_if (PW.pt (dw_or (dpt_not (ptD (de_c c_is_number (hr.mono (by first | decide | omega)) gd (by rfl) (da_cons (de_var 1) da_nil)))) (dw_or1 (dpt_not (ptD (de_c c_is_number (hr.mono (by first | decide | omega)) gd (by rfl) (da_cons (de_var 2) da_nil))))))) (dss_one (ds_ret de_bl)) dss_nil)
  (dss_one (ds_ret (de_and (de_cmp (op_geU hr) sv_ordU (de_var 2) de_int) (de_one (de_cmp (op_eqU hr) sv_eqU (de_bf cr_gcd sv_gcd (by rfl) T.m_gcd (dl_cons (de_var 1) (dl_cons (de_var 2) dl_nil))) de_int)))))))), ?_⟩
  rintro as k Q ⟨x, rfl, hx, hq⟩
  walk_at "dd"
  cases x with
  | tuple xs =>
    walk_at "dd"
    by_cases h2 : xs.length = 2
    · obtain ⟨p, q, rfl⟩ : ∃ p q, xs = [p, q] := by
        match xs, h2 with
        | [p, q], _ => exact ⟨p, q, rfl⟩
      walk_at "dd"
      refine ⟨_, rfl, ?_⟩
      walk_at "dd"
      cases hp : isNum p with
      | false =>
        rw [isFr_no1 hp] at hq
        exact hq
      | true =>
        obtain ⟨a, rfl⟩ := isNum_int hp
        walk_at "dd"
        refine ⟨_, rfl, ?_⟩
        walk_at "dd"
        cases hn : isNum q with
        | false =>
          rw [isFr_no2 hn] at hq
          exact hq
        | true =>
          obtain ⟨b, rfl⟩ := isNum_int hn
          walk_at "dd"
          have hq' : Q (.bool (decide (0 < b) && decide (Nat.gcd a.natAbs b.natAbs = 1))) k := hq
          by_cases h : 0 < b
          · rw [if_pos (by omega)]
            have e : decide (((Nat.gcd a.natAbs b.natAbs : Nat) : Int) = 1) = decide (Nat.gcd a.natAbs b.natAbs = 1) := decide_eq_decide.mpr (by omega)
            rw [e]
            rwa [decide_eq_true h, Bool.true_and] at hq'
          · rw [if_neg (by omega)]
            rwa [decide_eq_false h, Bool.false_and] at hq'
    · have : decide ((xs.length : Int) = 2) = false := decide_eq_false (by omega)
      rw [this]
      walk_at "dd"
      rw [isFr_len h2] at hq
      exact hq
  | _ => exact hq

theorem ok_lowest (T : Tx K mg) : Dk P w K mg base "lowest" 1 2 g_lowest := by
  refine dkD T.s_lowest sc_lowest rfl len_lowest fun f cdv A outer s H E hr gd => ⟨_, (dss_cons (ds_set 2 sc_lowest.nd (de_bf cr_gcd sv_gcd (by rfl) T.m_gcd (dl_cons (de_var 0) (dl_cons (de_var 1) dl_nil))))
  (dss_one (ds_ret (de_tup (dl_cons (de_fdiv (de_var 0) (de_var 2)) (dl_cons (de_fdiv (de_var 1) (de_var 2)) dl_nil)))))), ?_⟩
  rintro as k Q ⟨a, b, rfl, hb, hs, hq⟩
  walk_at "dd"
  have hg : 0 < Nat.gcd a.natAbs b.natAbs := Nat.gcd_pos_of_pos_right _ (by omega)
  have hl : Nat.gcd a.natAbs b.natAbs ≤ b.natAbs := Nat.gcd_le_right _ (by omega)
  have hf : ∀ i, CDivW i ((Nat.gcd a.natAbs b.natAbs : Nat) : Int) := fun i => fit9 (by omega) (by
    rw [Int.natAbs_natCast]
    exact Nat.lt_of_le_of_lt hl hs)
  exact ⟨hf a, hf b, hq⟩

theorem ok_plus (T : Tx K mg) (c_lowest : Dk P w K mg base "lowest" 1 2 g_lowest) : Dk P w K mg base "plus" 2 2 g_plus := by
  refine dkD T.s_plus sc_plus rfl len_plus fun f cdv A outer s H E hr gd => ⟨_, (dss_one (ds_ret (de_c c_lowest (hr.mono (by first | decide | omega)) gd (by rfl) (da_cons (de_add (de_mul (de_ix (de_var 0) de_int) (de_ix (de_var 1) de_int)) (de_mul (de_ix (de_var 1) de_int) (de_ix (de_var 0) de_int))) (da_cons (de_mul (de_ix (de_var 0) de_int) (de_ix (de_var 1) de_int)) da_nil))))), ?_⟩
  rintro as k Q ⟨x, y, a, b, c, d, rfl, ⟨rfl, hx⟩, ⟨rfl, hy⟩, hq⟩
  walk_at "dd"
  refine ⟨fitM (by omega) (by omega), fitM (by omega) (by omega), fitM (by omega) (by omega), ?_⟩
  exact ⟨_, _, rfl, Int.mul_pos hx.2.2.1 hy.2.2.1, small_mul hx.2.2 hy.2.2, hq⟩

theorem ok_times (T : Tx K mg) (c_lowest : Dk P w K mg base "lowest" 1 2 g_lowest) : Dk P w K mg base "times" 2 2 g_times := by
  refine dkD T.s_times sc_times rfl len_times fun f cdv A outer s H E hr gd => ⟨_, (dss_one (ds_ret (de_c c_lowest (hr.mono (by first | decide | omega)) gd (by rfl) (da_cons (de_mul (de_ix (de_var 0) de_int) (de_ix (de_var 1) de_int)) (da_cons (de_mul (de_ix (de_var 0) de_int) (de_ix (de_var 1) de_int)) da_nil))))), ?_⟩
  rintro as k Q ⟨x, y, a, b, c, d, rfl, ⟨rfl, hx⟩, ⟨rfl, hy⟩, hq⟩
  walk_at "dd"
  refine ⟨fitM (by omega) (by omega), fitM (by omega) (by omega), ?_⟩
  exact ⟨_, _, rfl, Int.mul_pos hx.2.2.1 hy.2.2.1, small_mul hx.2.2 hy.2.2, hq⟩

theorem ok_law {f fT : Addr} {fd fdT : FuncData} (T : Tx K mg) (F : L2.Fun K "law" "law" s_law f fd) (FT : L2.Fun K "_law_tap" "_law_tap" s__law_tap fT fdT) (hT : mg "_law_tap" = some (.ref fT)) (bT : Binds K fdT ["_law_script"] []) (c__law_drawn : Dk P w K mg base "_law_drawn" 3 1 g__law_drawn) (c__law_is_fraction : Dk P w K mg base "_law_is_fraction" 2 1 g__law_is_fraction) (c__law_lowest : Dk P w K mg base "_law_lowest" 2 2 g__law_lowest) (c__law_odd : Dk P w K mg base "_law_odd" 2 1 g__law_odd) (c__law_take : Dk P w K mg base "_law_take" 1 2 g__law_take) (c_is_fraction : Dk P w K mg base "is_fraction" 2 1 g_is_fraction) (c_plus : Dk P w K mg base "plus" 2 2 g_plus) (c_times : Dk P w K mg base "times" 2 2 g_times) :
    FnG P w K mg base CX0 5 f fd ["_law_script"] (spLaw K) := by
  obtain ⟨a_ONE, m_ONE, d_ONE⟩ := T.g_ONE
  obtain ⟨a_NOUGHT, m_NOUGHT, d_NOUGHT⟩ := T.g_NOUGHT
  refine fnLaw (j := 4) F sc_law rfl (ok__law_tap T FT) hT FT.kp bT rfl rfl fun cdv A outer s H E hr gd => ⟨_, tAsg (tCall (spTap K) [] E0 (tCons (tVar 0) tNil)) (gName 1), ps_set sc_law.nd rfl (by first | exact Or.inl rfl | exact Or.inr rfl) (pe_callG (ok__law_tap T FT) (hr.mono (by decide)) gd (by rfl) hT FT.kp bT .nil pass0 (pa_cons (pv 0) pa_nil)), (dss_cons (ds_if (dpt_cmp (op_neU hr) sv_neU (de_b (cr_repr gd (u64 hr)) sv_repr (by rfl) T.n_repr (dl_cons (de_tup (dl_cons (de_glob (v := .ref a_ONE) (by rfl) m_ONE rfl d_ONE) (dl_cons (de_glob (v := .ref a_NOUGHT) (by rfl) m_NOUGHT rfl d_NOUGHT) dl_nil))) dl_nil)) de_str) (dss_one (ds_ret de_bl)) dss_nil)
  (dss_cons (ds_forR1 PassesOwn.never rfl (by rfl) T.n_range de_int (dg_name 2 sc_law.nd)
  (dss_cons (ds_par 3 4 rfl sc_law.nd (dl_cons (de_c c__law_drawn (hr.mono (by first | decide | omega)) gd (by rfl) (da_tap 1 da_nil)) (dl_cons (de_c c__law_drawn (hr.mono (by first | decide | omega)) gd (by rfl) (da_tap 1 da_nil)) dl_nil)))
  (dss_cons (ds_forT PassesOwn.never rfl (de_tup (dl_cons (de_var 4) (dl_cons (de_var 3) (dl_cons (de_tup (dl_cons (de_sub de_int (de_ix (de_var 3) de_int)) (dl_cons (de_ix (de_var 3) de_int) dl_nil))) (dl_cons (de_tup (dl_cons de_int (dl_cons de_int dl_nil))) (dl_cons (de_tup (dl_cons de_int (dl_cons de_int dl_nil))) dl_nil)))))) (dg_name 5 sc_law.nd)
  (dss_cons (ds_set 6 sc_law.nd (de_b (cr_repr gd (u64 hr)) sv_repr (by rfl) T.n_repr (dl_cons (de_tup (dl_cons (de_var 3) (dl_cons (de_var 5) dl_nil))) dl_nil)))
  (dss_cons (ds_set 7 sc_law.nd (de_c c__law_lowest (hr.mono (by first | decide | omega)) gd (by rfl) (da_cons (de_add (de_mul (de_ix (de_var 3) de_int) (de_ix (de_var 5) de_int)) (de_mul (de_ix (de_var 5) de_int) (de_ix (de_var 3) de_int))) (da_cons (de_mul (de_ix (de_var 3) de_int) (de_ix (de_var 5) de_int)) da_nil))))
  (dss_cons (ds_set 8 sc_law.nd (de_c c__law_lowest (hr.mono (by first | decide | omega)) gd (by rfl) (da_cons (de_mul (de_ix (de_var 3) de_int) (de_ix (de_var 5) de_int)) (da_cons (de_mul (de_ix (de_var 3) de_int) (de_ix (de_var 5) de_int)) da_nil))))
  (dss_cons (ds_if (dpt_cmp (op_neU hr) sv_neU (de_b (cr_repr gd (u64 hr)) sv_repr (by rfl) T.n_repr (dl_cons (de_new (dn_lst (dl_cons (de_c c_plus (hr.mono (by first | decide | omega)) gd (by rfl) (da_cons (de_var 3) (da_cons (de_var 5) da_nil))) (dl_cons (de_c c_times (hr.mono (by first | decide | omega)) gd (by rfl) (da_cons (de_var 3) (da_cons (de_var 5) da_nil))) (dl_cons (de_c c_plus (hr.mono (by first | decide | omega)) gd (by rfl) (da_cons (de_var 5) (da_cons (de_var 3) da_nil))) dl_nil))))) dl_nil)) (de_b (cr_repr gd (u64 hr)) sv_repr (by rfl) T.n_repr (dl_cons (de_new (dn_lst (dl_cons (de_var 7) (dl_cons (de_var 8) (dl_cons (de_var 7) dl_nil))))) dl_nil))) (dss_one (ds_ret de_bl)) dss_nil)
  (dss_one (ds_if (dpt_cmp (op_neU hr) sv_neU (de_b (cr_repr gd (u64 hr)) sv_repr (by rfl) T.n_repr (dl_cons (de_tup (dl_cons (de_var 3) (dl_cons (de_var 5) dl_nil))) dl_nil)) (de_var 6)) (dss_one (ds_ret de_bl)) dss_nil)))))))
  (dss_cons (ds_set 9 sc_law.nd (de_add de_int (de_c c__law_take (hr.mono (by first | decide | omega)) gd (by rfl) (da_tap 1 (da_cons de_int da_nil)))))
  (dss_cons (ds_set 10 sc_law.nd (de_new (dn_lst (dl_cons (de_var 3) (dl_cons (de_tup (dl_cons (de_mul (de_ix (de_var 3) de_int) (de_var 9)) (dl_cons (de_mul (de_ix (de_var 3) de_int) (de_var 9)) dl_nil))) (dl_cons (de_tup (dl_cons (de_ix (de_var 3) de_int) (dl_cons (de_sub de_int (de_ix (de_var 3) de_int)) dl_nil))) (dl_cons (de_tup (dl_cons (de_ix (de_var 3) de_int) (dl_cons de_int dl_nil))) (dl_cons (de_ty call_list_of sv_list (by rfl) T.n_list (dl_cons (de_var 3) dl_nil)) (dl_cons (de_add (de_var 3) (de_tup (dl_cons de_int dl_nil))) (dl_cons (de_slice (de_var 3) do_none (do_some de_int)) dl_nil))))))))))
  (dss_cons (ds_own 10 sc_law.nd (dn_cat (de_var 10) (de_new (dn_lst (dl_cons (de_tup (dl_cons de_bl (dl_cons de_int dl_nil))) (dl_cons (de_tup (dl_cons de_int (dl_cons de_bl dl_nil))) (dl_cons (de_tup (dl_cons (de_ix (de_var 3) de_int) (dl_cons de_non dl_nil))) (dl_cons (de_tup (dl_cons (de_ty call_str_int sv_strI (by rfl) T.n_str (dl_cons (de_ix (de_var 3) de_int) dl_nil)) (dl_cons de_int dl_nil))) (dl_cons (de_tup (dl_cons (de_pow de_int de_int) (dl_cons (de_add (de_pow de_int de_int) de_int) dl_nil))) dl_nil)))))))))
  (dss_cons (ds_append 10 (de_c c__law_odd (hr.mono (by first | decide | omega)) gd (by rfl) (da_tap 1 da_nil)))
  (dss_froze 10 (dss_one (ds_forL PassesOwn.never rfl (de_var 10) (dg_name 11 sc_law.nd)
  (dss_one (ds_if (dpt_cmp (op_neU hr) sv_neU (de_b (cr_repr gd (u64 hr)) sv_repr (by rfl) T.n_repr (dl_cons (de_c c_is_fraction (hr.mono (by first | decide | omega)) gd (by rfl) (da_cons (de_var 11) da_nil)) dl_nil)) (de_b (cr_repr gd (u64 hr)) sv_repr (by rfl) T.n_repr (dl_cons (de_c c__law_is_fraction (hr.mono (by first | decide | omega)) gd (by rfl) (da_cons (de_var 11) da_nil)) dl_nil))) (dss_one (ds_ret de_bl)) dss_nil))))))))))))
  (dss_one (ds_ret de_bl)))), ?_⟩
  walk_at "dd"
  refine ⟨okR_of (by decide +kernel) (by decide +kernel) (by decide +kernel), ?_⟩
  have e0 : decide ((PyData.tuple [PyData.tuple [PyData.int 1, PyData.int 1], PyData.tuple [PyData.int 0, PyData.int 1]]).shown = Str.ofString "((1, 1), (0, 1))") = true := decide_eq_true (by decide +kernel)
  rw [e0]
  walk_at "dd"
  refine ⟨by decide, ?_⟩
  refine loop_inv invL ⟨⟨_, _, _, _, _, _, _, _, _, _, _, rfl⟩, Nat.le_refl _⟩ ?_ ?_
  · rintro i it ρ k N hi ⟨⟨s0, s2, s3, s4, s5, s6, s7, s8, s9, s10, s11, rfl⟩, hk⟩ hN
    have hi10 : i < 10 := by
      have := (List.getElem?_eq_some_iff.mp hi).1
      rwa [rangeD_len] at this
    walk_at "dd"
    refine ⟨rfl, by omega, fun x a b fx => ⟨rfl, by omega, fun y c d fy => ?_⟩⟩
    have fx2 := fx
    obtain ⟨rfl, ha⟩ := fx2
    walk_at "dd"
    refine loop_inv (invM (.tuple [.int a, .int b]) y (k + 5 + 5)) ⟨⟨_, _, _, _, _, _, _, _, _, rfl⟩, rfl⟩ ?_ ?_
    · rintro j z ρ k' N' hz ⟨⟨t0, t2, t5, t6, t7, t8, t9, t10, t11, rfl⟩, rfl⟩ hN'
      have fz : ∃ e f, frac z e f := by
        have hm := List.mem_of_getElem? hz
        simp only [List.mem_cons, List.not_mem_nil, or_false] at hm
        rcases hm with rfl | rfl | rfl | rfl | rfl
        · exact ⟨c, d, fy⟩
        · exact ⟨a, b, fx⟩
        · exact ⟨0 - a, b, rfl, by omega⟩
        · exact ⟨0, 1, rfl, by decide⟩
        · exact ⟨1, 1, rfl, by decide⟩
      obtain ⟨e, f, fz⟩ := fz
      have fz2 := fz
      obtain ⟨rfl, he⟩ := fz2
      have m1 := mul_small (a := a) (b := f) (by omega) (by omega)
      have m2 := mul_small (a := e) (b := b) (by omega) (by omega)
      have m3 := mul_small (a := b) (b := f) (by omega) (by omega)
      have m4 := mul_small (a := a) (b := e) (by omega) (by omega)
      have p3 := Int.mul_pos ha.2.2.1 he.2.2.1
      have sm : small (b * f) := small_mul ha.2.2 he.2.2
      walk_at "dd"
      refine ⟨okR_2 fx fz, ?_⟩
      refine ⟨fitM (by omega) (by omega), fitM (by omega) (by omega), fitM (by omega) (by omega), ?_⟩
      refine ⟨_, _, rfl, p3, sm, ?_⟩
      refine ⟨fitM (by omega) (by omega), fitM (by omega) (by omega), ?_⟩
      refine ⟨_, _, rfl, p3, sm, ?_⟩
      refine ⟨_, _, _, _, _, _, rfl, fx, fz, ?_⟩
      refine ⟨_, _, _, _, _, _, rfl, fx, fz, ?_⟩
      refine ⟨_, _, _, _, _, _, rfl, fz, fx, ?_⟩
      have c1 : e * b + a * f = a * f + e * b := Int.add_comm _ _
      have c2 : f * b = b * f := Int.mul_comm _ _
      rw [c1, c2]
      have o3 : okR (.list [low (a * f + e * b) (b * f), low (a * e) (b * f), low (a * f + e * b) (b * f)]) := okR_3 (by omega) (by omega) (by omega) (by omega) (by omega) (by omega)
      walk_at "dd"
      refine ⟨o3, o3, ?_⟩
      walk_at "dd"
      refine ⟨okR_2 fx fz, ?_⟩
      try walk_at "dd"
      exact hN' _ _ ⟨⟨_, _, _, _, _, _, _, _, _, rfl⟩, rfl⟩
    · rintro ρ k' ⟨⟨t0, t2, t5, t6, t7, t8, t9, t10, t11, rfl⟩, rfl⟩
      walk_at "dd"
      refine take_mk (by decide) (by decide) (by omega) fun r r0 r1 => ?_
      walk_at "dd"
      have la : a.natAbs.log2 < 1920 := by simpa [fine] using fine_int (i := a) (by omega)
      refine ⟨fitM (by omega) (by omega), fitM (by omega) (by omega), la, ⟨by decide, by decide, by decide⟩, ⟨by decide, by decide, by decide⟩, rfl, by omega, fun x hx => ⟨by rw [sizeLine_eq]; decide, ?_⟩⟩
      refine loop_inv (invT (k + 5 + 5 + 1 + 1)) ⟨⟨_, _, _, _, _, _, _, _, _, _, _, rfl⟩, rfl⟩ ?_ ?_
      · rintro j z ρ k' N' hz ⟨⟨u0, u2, u3, u4, u5, u6, u7, u8, u9, u10, u11, rfl⟩, rfl⟩ hN'
        have fl : flat2 z := by
          have hm := List.mem_of_getElem? hz
          simp only [List.mem_cons, List.not_mem_nil, or_false] at hm
          rcases hm with rfl | rfl | rfl | rfl | rfl | rfl | rfl | rfl | rfl | rfl | rfl | rfl | rfl
          · exact flat_pair rfl rfl
          · exact flat_pair rfl rfl
          · exact flat_pair rfl rfl
          · exact flat_pair rfl rfl
          · intro p q e; cases e
          · intro p q e; cases e
          · intro p q e
            have := congrArg (fun d => match d with | .tuple xs => xs.length | _ => 0) e
            have h2 : (cut [PyData.int a, PyData.int b] none (some 1)).length = 2 := this
            have h3 : (cut [PyData.int a, PyData.int b] none (some 1)).length = 1 := by
              unfold cut
              rfl
            omega
          · exact flat_pair rfl rfl
          · exact flat_pair rfl rfl
          · exact flat_pair rfl rfl
          · exact flat_pair (strOk_of _) rfl
          · exact flat_pair rfl rfl
          · exact flat_odd _ hx
        walk_at "dd"
        refine ⟨_, rfl, fl, okR_b, ⟨_, rfl, fl, okR_b, ?_⟩⟩
        walk_at "dd"
        exact hN' _ _ ⟨⟨_, _, _, _, _, _, _, _, _, _, _, rfl⟩, rfl⟩
      · rintro ρ k' ⟨⟨u0, u2, u3, u4, u5, u6, u7, u8, u9, u10, u11, rfl⟩, rfl⟩
        exact hN _ _ ⟨⟨_, _, _, _, _, _, _, _, _, _, _, rfl⟩, by omega⟩
  · rintro ρ k ⟨⟨s0, s2, s3, s4, s5, s6, s7, s8, s9, s10, s11, rfl⟩, hk⟩
    rfl

end
theorem all_mk {l : PySem.W.OpenLaw} {w : World} {K : PySem.W.Frag} {h : Heap} {mg : Str → Option Value} {fa : Addr} (X : K.In h) (G : h.Ns mainGlobals mg) (hfa : mg "law" = some (.ref fa)) {aONE : Addr} {odONE : Option Addr} {itONE : Array Value} {nONE : Nat} {slONE : Array (Option Value)} {aNOUGHT : Addr} {odNOUGHT : Option Addr} {itNOUGHT : Array Value} {nNOUGHT : Nat} {slNOUGHT : Array (Option Value)}
    {f0 : Addr} {od0 an0 : Option Addr} {sl0 : Array (Option Value)} {oc0 kV0 dc0 pm0 cd0 ct0 : Value} (a0 : PySem.W.nsIn K mainGlobals "_law_tap" = some (some (.ref f0))) (l0 : K.lookup f0 = some ⟨oc0, od0, .func (PySem.W.fnOf "_law_tap" "_law_tap" (defArgs s__law_tap) (defBody s__law_tap) (defScope s__law_tap) .none kV0 dc0 pm0 an0 cd0 ct0), sl0⟩) (c0 : PySem.W.codeIn K cd0 "_law_tap" = true) (k0 : PySem.W.keepIn K (.ref f0) = true)
    {f1 : Addr} {od1 an1 : Option Addr} {sl1 : Array (Option Value)} {oc1 kV1 dc1 pm1 cd1 ct1 : Value} (a1 : PySem.W.nsIn K mainGlobals "_law_take" = some (some (.ref f1))) (l1 : K.lookup f1 = some ⟨oc1, od1, .func (PySem.W.fnOf "_law_take" "_law_take" (defArgs s__law_take) (defBody s__law_take) (defScope s__law_take) .none kV1 dc1 pm1 an1 cd1 ct1), sl1⟩) (c1 : PySem.W.codeIn K cd1 "_law_take" = true) (k1 : PySem.W.keepIn K (.ref f1) = true)
    {f2 : Addr} {od2 an2 : Option Addr} {sl2 : Array (Option Value)} {oc2 kV2 dc2 pm2 cd2 ct2 : Value} (a2 : PySem.W.nsIn K mainGlobals "_law_common" = some (some (.ref f2))) (l2 : K.lookup f2 = some ⟨oc2, od2, .func (PySem.W.fnOf "_law_common" "_law_common" (defArgs s__law_common) (defBody s__law_common) (defScope s__law_common) .none kV2 dc2 pm2 an2 cd2 ct2), sl2⟩) (c2 : PySem.W.codeIn K cd2 "_law_common" = true) (k2 : PySem.W.keepIn K (.ref f2) = true)
    {f3 : Addr} {od3 an3 : Option Addr} {sl3 : Array (Option Value)} {oc3 kV3 dc3 pm3 cd3 ct3 : Value} (a3 : PySem.W.nsIn K mainGlobals "_law_lowest" = some (some (.ref f3))) (l3 : K.lookup f3 = some ⟨oc3, od3, .func (PySem.W.fnOf "_law_lowest" "_law_lowest" (defArgs s__law_lowest) (defBody s__law_lowest) (defScope s__law_lowest) .none kV3 dc3 pm3 an3 cd3 ct3), sl3⟩) (c3 : PySem.W.codeIn K cd3 "_law_lowest" = true) (k3 : PySem.W.keepIn K (.ref f3) = true)
    {f4 : Addr} {od4 an4 : Option Addr} {sl4 : Array (Option Value)} {oc4 kV4 dc4 pm4 cd4 ct4 : Value} (a4 : PySem.W.nsIn K mainGlobals "_law_drawn" = some (some (.ref f4))) (l4 : K.lookup f4 = some ⟨oc4, od4, .func (PySem.W.fnOf "_law_drawn" "_law_drawn" (defArgs s__law_drawn) (defBody s__law_drawn) (defScope s__law_drawn) .none kV4 dc4 pm4 an4 cd4 ct4), sl4⟩) (c4 : PySem.W.codeIn K cd4 "_law_drawn" = true) (k4 : PySem.W.keepIn K (.ref f4) = true)
    {f5 : Addr} {od5 an5 : Option Addr} {sl5 : Array (Option Value)} {oc5 kV5 dc5 pm5 cd5 ct5 : Value} (a5 : PySem.W.nsIn K mainGlobals "_law_is_number" = some (some (.ref f5))) (l5 : K.lookup f5 = some ⟨oc5, od5, .func (PySem.W.fnOf "_law_is_number" "_law_is_number" (defArgs s__law_is_number) (defBody s__law_is_number) (defScope s__law_is_number) .none kV5 dc5 pm5 an5 cd5 ct5), sl5⟩) (c5 : PySem.W.codeIn K cd5 "_law_is_number" = true) (k5 : PySem.W.keepIn K (.ref f5) = true)
    {f6 : Addr} {od6 an6 : Option Addr} {sl6 : Array (Option Value)} {oc6 kV6 dc6 pm6 cd6 ct6 : Value} (a6 : PySem.W.nsIn K mainGlobals "_law_is_fraction" = some (some (.ref f6))) (l6 : K.lookup f6 = some ⟨oc6, od6, .func (PySem.W.fnOf "_law_is_fraction" "_law_is_fraction" (defArgs s__law_is_fraction) (defBody s__law_is_fraction) (defScope s__law_is_fraction) .none kV6 dc6 pm6 an6 cd6 ct6), sl6⟩) (c6 : PySem.W.codeIn K cd6 "_law_is_fraction" = true) (k6 : PySem.W.keepIn K (.ref f6) = true)
    {f7 : Addr} {od7 an7 : Option Addr} {sl7 : Array (Option Value)} {oc7 kV7 dc7 pm7 cd7 ct7 : Value} (a7 : PySem.W.nsIn K mainGlobals "_law_odd" = some (some (.ref f7))) (l7 : K.lookup f7 = some ⟨oc7, od7, .func (PySem.W.fnOf "_law_odd" "_law_odd" (defArgs s__law_odd) (defBody s__law_odd) (defScope s__law_odd) .none kV7 dc7 pm7 an7 cd7 ct7), sl7⟩) (c7 : PySem.W.codeIn K cd7 "_law_odd" = true) (k7 : PySem.W.keepIn K (.ref f7) = true)
    {f8 : Addr} {od8 an8 : Option Addr} {sl8 : Array (Option Value)} {oc8 kV8 dc8 pm8 cd8 ct8 : Value} (a8 : PySem.W.nsIn K mainGlobals "is_number" = some (some (.ref f8))) (l8 : K.lookup f8 = some ⟨oc8, od8, .func (PySem.W.fnOf "is_number" "is_number" (defArgs s_is_number) (defBody s_is_number) (defScope s_is_number) .none kV8 dc8 pm8 an8 cd8 ct8), sl8⟩) (c8 : PySem.W.codeIn K cd8 "is_number" = true) (k8 : PySem.W.keepIn K (.ref f8) = true)
    {f9 : Addr} {od9 an9 : Option Addr} {sl9 : Array (Option Value)} {oc9 kV9 dc9 pm9 cd9 ct9 : Value} (a9 : PySem.W.nsIn K mainGlobals "is_fraction" = some (some (.ref f9))) (l9 : K.lookup f9 = some ⟨oc9, od9, .func (PySem.W.fnOf "is_fraction" "is_fraction" (defArgs s_is_fraction) (defBody s_is_fraction) (defScope s_is_fraction) .none kV9 dc9 pm9 an9 cd9 ct9), sl9⟩) (c9 : PySem.W.codeIn K cd9 "is_fraction" = true) (k9 : PySem.W.keepIn K (.ref f9) = true)
    {f10 : Addr} {od10 an10 : Option Addr} {sl10 : Array (Option Value)} {oc10 kV10 dc10 pm10 cd10 ct10 : Value} (a10 : PySem.W.nsIn K mainGlobals "lowest" = some (some (.ref f10))) (l10 : K.lookup f10 = some ⟨oc10, od10, .func (PySem.W.fnOf "lowest" "lowest" (defArgs s_lowest) (defBody s_lowest) (defScope s_lowest) .none kV10 dc10 pm10 an10 cd10 ct10), sl10⟩) (c10 : PySem.W.codeIn K cd10 "lowest" = true) (k10 : PySem.W.keepIn K (.ref f10) = true)
    {f11 : Addr} {od11 an11 : Option Addr} {sl11 : Array (Option Value)} {oc11 kV11 dc11 pm11 cd11 ct11 : Value} (a11 : PySem.W.nsIn K mainGlobals "plus" = some (some (.ref f11))) (l11 : K.lookup f11 = some ⟨oc11, od11, .func (PySem.W.fnOf "plus" "plus" (defArgs s_plus) (defBody s_plus) (defScope s_plus) .none kV11 dc11 pm11 an11 cd11 ct11), sl11⟩) (c11 : PySem.W.codeIn K cd11 "plus" = true) (k11 : PySem.W.keepIn K (.ref f11) = true)
    {f12 : Addr} {od12 an12 : Option Addr} {sl12 : Array (Option Value)} {oc12 kV12 dc12 pm12 cd12 ct12 : Value} (a12 : PySem.W.nsIn K mainGlobals "times" = some (some (.ref f12))) (l12 : K.lookup f12 = some ⟨oc12, od12, .func (PySem.W.fnOf "times" "times" (defArgs s_times) (defBody s_times) (defScope s_times) .none kV12 dc12 pm12 an12 cd12 ct12), sl12⟩) (c12 : PySem.W.codeIn K cd12 "times" = true) (k12 : PySem.W.keepIn K (.ref f12) = true)
    {f13 : Addr} {od13 an13 : Option Addr} {sl13 : Array (Option Value)} {oc13 kV13 dc13 pm13 cd13 ct13 : Value} (a13 : PySem.W.nsIn K mainGlobals "law" = some (some (.ref f13))) (l13 : K.lookup f13 = some ⟨oc13, od13, .func (PySem.W.fnOf "law" "law" (defArgs s_law) (defBody s_law) (defScope s_law) .none kV13 dc13 pm13 an13 cd13 ct13), sl13⟩) (c13 : PySem.W.codeIn K cd13 "law" = true) (k13 : PySem.W.keepIn K (.ref f13) = true)
    (z_abs : PySem.W.nsIn K mainGlobals "abs" = some none)
    (z_bool : PySem.W.nsIn K mainGlobals "bool" = some none)
    (z_int : PySem.W.nsIn K mainGlobals "int" = some none)
    (z_isinstance : PySem.W.nsIn K mainGlobals "isinstance" = some none)
    (z_len : PySem.W.nsIn K mainGlobals "len" = some none)
    (z_list : PySem.W.nsIn K mainGlobals "list" = some none)
    (z_range : PySem.W.nsIn K mainGlobals "range" = some none)
    (z_repr : PySem.W.nsIn K mainGlobals "repr" = some none)
    (z_str : PySem.W.nsIn K mainGlobals "str" = some none)
    (z_tuple : PySem.W.nsIn K mainGlobals "tuple" = some none)
    (z_gcd : PySem.W.nsIn K mainGlobals "gcd" = some (some (.builtin "math.gcd")))
    (q_ONE : PySem.W.nsIn K mainGlobals "ONE" = some (some (.ref aONE)))
    (r_ONE : K.lookup aONE = some ⟨.type "tuple", odONE, .seq itONE nONE, slONE⟩)
    (v_ONE : Vals [V.int 1, V.int 1] itONE.toList)
    (q_NOUGHT : PySem.W.nsIn K mainGlobals "NOUGHT" = some (some (.ref aNOUGHT)))
    (r_NOUGHT : K.lookup aNOUGHT = some ⟨.type "tuple", odNOUGHT, .seq itNOUGHT nNOUGHT, slNOUGHT⟩)
    (v_NOUGHT : Vals [V.int 0, V.int 1] itNOUGHT.toList) :
    ∃ fd : FuncData, (∀ (s : Shared) (v : Value), BindsTo s fd ⟨[v], []⟩ [("_law_script", v)]) ∧ ∀ base : Heap, K.In base → base.Ns mainGlobals mg → FnG l.prog w K mg base CX0 5 fa fd ["_law_script"] (spLaw K) := by
  have e := hfa.symm.trans (PySem.W.mg_of X G a13)
  cases e
  have FL := fun_mk (st := s_law) l13 c13 k13
  have FT := fun_mk (st := s__law_tap) l0 c0 k0
  have bT := FT.binds (ps := ["_law_script"]) fun _ _ _ _ _ _ us hl => match us, hl with | [_], _ => rfl
  have T : Tx K mg := { 
    s__law_take := st0_mk X G a1 l1 c1 k1 fun _ _ _ _ _ _ us hl => match us, hl with | [_, _], _ => rfl
    s__law_common := st0_mk X G a2 l2 c2 k2 fun _ _ _ _ _ _ us hl => match us, hl with | [_, _], _ => rfl
    s__law_lowest := st0_mk X G a3 l3 c3 k3 fun _ _ _ _ _ _ us hl => match us, hl with | [_, _], _ => rfl
    s__law_drawn := st0_mk X G a4 l4 c4 k4 fun _ _ _ _ _ _ us hl => match us, hl with | [_], _ => rfl
    s__law_is_number := st0_mk X G a5 l5 c5 k5 fun _ _ _ _ _ _ us hl => match us, hl with | [_], _ => rfl
    s__law_is_fraction := st0_mk X G a6 l6 c6 k6 fun _ _ _ _ _ _ us hl => match us, hl with | [_], _ => rfl
    s__law_odd := st0_mk X G a7 l7 c7 k7 fun _ _ _ _ _ _ us hl => match us, hl with | [_], _ => rfl
    s_is_number := st0_mk X G a8 l8 c8 k8 fun _ _ _ _ _ _ us hl => match us, hl with | [_], _ => rfl
    s_is_fraction := st0_mk X G a9 l9 c9 k9 fun _ _ _ _ _ _ us hl => match us, hl with | [_], _ => rfl
    s_lowest := st0_mk X G a10 l10 c10 k10 fun _ _ _ _ _ _ us hl => match us, hl with | [_, _], _ => rfl
    s_plus := st0_mk X G a11 l11 c11 k11 fun _ _ _ _ _ _ us hl => match us, hl with | [_, _], _ => rfl
    s_times := st0_mk X G a12 l12 c12 k12 fun _ _ _ _ _ _ us hl => match us, hl with | [_, _], _ => rfl
    n_abs := PySem.W.mg_none_of X G z_abs
    n_bool := PySem.W.mg_none_of X G z_bool
    n_int := PySem.W.mg_none_of X G z_int
    n_isinstance := PySem.W.mg_none_of X G z_isinstance
    n_len := PySem.W.mg_none_of X G z_len
    n_list := PySem.W.mg_none_of X G z_list
    n_range := PySem.W.mg_none_of X G z_range
    n_repr := PySem.W.mg_none_of X G z_repr
    n_str := PySem.W.mg_none_of X G z_str
    n_tuple := PySem.W.mg_none_of X G z_tuple
    m_gcd := PySem.W.mg_of X G z_gcd
    g_ONE := ⟨_, PySem.W.mg_of X G q_ONE, const_tup r_ONE v_ONE (by decide) fun F => .cons (.int _) (.cons (.int _) .nil)⟩
    g_NOUGHT := ⟨_, PySem.W.mg_of X G q_NOUGHT, const_tup r_NOUGHT v_NOUGHT (by decide) fun F => .cons (.int _) (.cons (.int _) .nil)⟩
  }
  refine ⟨PySem.W.fnOf "law" "law" (defArgs s_law) (defBody s_law) (defScope s_law) .none kV13 dc13 pm13 an13 cd13 ct13, fun s v => .of_eq rfl, fun base _ _ => ?_⟩
  have c__law_take : Dk l.prog w K mg base "_law_take" 1 2 g__law_take := ok__law_take T 
  have c__law_common : Dk l.prog w K mg base "_law_common" 1 2 g__law_common := ok__law_common T 
  have c__law_lowest : Dk l.prog w K mg base "_law_lowest" 2 2 g__law_lowest := ok__law_lowest T c__law_common
  have c__law_drawn : Dk l.prog w K mg base "_law_drawn" 3 1 g__law_drawn := ok__law_drawn T c__law_lowest c__law_take
  have c__law_is_number : Dk l.prog w K mg base "_law_is_number" 1 1 g__law_is_number := ok__law_is_number T 
  have c__law_is_fraction : Dk l.prog w K mg base "_law_is_fraction" 2 1 g__law_is_fraction := ok__law_is_fraction T c__law_common c__law_is_number
  have c__law_odd : Dk l.prog w K mg base "_law_odd" 2 1 g__law_odd := ok__law_odd T c__law_take
  have c_is_number : Dk l.prog w K mg base "is_number" 1 1 g_is_number := ok_is_number T 
  have c_is_fraction : Dk l.prog w K mg base "is_fraction" 2 1 g_is_fraction := ok_is_fraction T c_is_number
  have c_lowest : Dk l.prog w K mg base "lowest" 1 2 g_lowest := ok_lowest T 
  have c_plus : Dk l.prog w K mg base "plus" 2 2 g_plus := ok_plus T c_lowest
  have c_times : Dk l.prog w K mg base "times" 2 2 g_times := ok_times T c_lowest
  exact ok_law T FL FT (PySem.W.mg_of X G a0) bT c__law_drawn c__law_is_fraction c__law_lowest c__law_odd c__law_take c_is_fraction c_plus c_times
end Lw
open PySem PySem.W PyProof.Rows
set_option maxHeartbeats 0 in
theorem PySem.Challenge.cw_waycircuits_k08_fractions_holds : PySem.Challenge.rw_waycircuits_k08_fractions.Holds := by
  w_on; o_law; k_head; (case hw => w_witness2)
  k_fill
  refine Wc.walk_ofG (l := PySem.Challenge.rw_waycircuits_k08_fractions) (n := 63) (k := 5) (x := "_law_script") (sp := Wc.spLaw) rfl (by decide) rfl ⟨rfl, by decide, by decide⟩ (fun w h Y => PySem.W.kIn_of Y) ?F (fun _ _ a ns hl _ hS => ⟨a, ns, rfl, hS, hl, fun _ => rfl⟩)
  case F =>
    intro w mg fa h KX G hmg
    refine' Lw.all_mk KX G hmg ?a0 ?l0 ?c0 ?k0 ?a1 ?l1 ?c1 ?k1 ?a2 ?l2 ?c2 ?k2 ?a3 ?l3 ?c3 ?k3 ?a4 ?l4 ?c4 ?k4 ?a5 ?l5 ?c5 ?k5 ?a6 ?l6 ?c6 ?k6 ?a7 ?l7 ?c7 ?k7 ?a8 ?l8 ?c8 ?k8 ?a9 ?l9 ?c9 ?k9 ?a10 ?l10 ?c10 ?k10 ?a11 ?l11 ?c11 ?k11 ?a12 ?l12 ?c12 ?k12 ?a13 ?l13 ?c13 ?k13 ?z_abs ?z_bool ?z_int ?z_isinstance ?z_len ?z_list ?z_range ?z_repr ?z_str ?z_tuple ?z_gcd ?q_ONE ?r_ONE ?v_ONE ?q_NOUGHT ?r_NOUGHT ?v_NOUGHT
    (case a0 => k_is); (case l0 => k_is); (case c0 => k_is); (case k0 => k_is); (case a1 => k_is); (case l1 => k_is); (case c1 => k_is); (case k1 => k_is); (case a2 => k_is); (case l2 => k_is); (case c2 => k_is); (case k2 => k_is); (case a3 => k_is); (case l3 => k_is); (case c3 => k_is); (case k3 => k_is); (case a4 => k_is); (case l4 => k_is); (case c4 => k_is); (case k4 => k_is); (case a5 => k_is); (case l5 => k_is); (case c5 => k_is); (case k5 => k_is); (case a6 => k_is); (case l6 => k_is); (case c6 => k_is); (case k6 => k_is); (case a7 => k_is); (case l7 => k_is); (case c7 => k_is); (case k7 => k_is); (case a8 => k_is); (case l8 => k_is); (case c8 => k_is); (case k8 => k_is); (case a9 => k_is); (case l9 => k_is); (case c9 => k_is); (case k9 => k_is); (case a10 => k_is); (case l10 => k_is); (case c10 => k_is); (case k10 => k_is); (case a11 => k_is); (case l11 => k_is); (case c11 => k_is); (case k11 => k_is); (case a12 => k_is); (case l12 => k_is); (case c12 => k_is); (case k12 => k_is); (case a13 => k_is); (case l13 => k_is); (case c13 => k_is); (case k13 => k_is); (case z_abs => k_is); (case z_bool => k_is); (case z_int => k_is); (case z_isinstance => k_is); (case z_len => k_is); (case z_list => k_is); (case z_range => k_is); (case z_repr => k_is); (case z_str => k_is); (case z_tuple => k_is); (case z_gcd => k_is); (case q_ONE => k_is); (case r_ONE => k_is); (case v_ONE => exact .cons ⟨_, rfl⟩ (.cons ⟨_, rfl⟩ .nil)); (case q_NOUGHT => k_is); (case r_NOUGHT => k_is); (case v_NOUGHT => exact .cons ⟨_, rfl⟩ (.cons ⟨_, rfl⟩ .nil))

