import PyProof.Rows.All
import Wide.All
import OpenK.AllK
import Wide.FinOn
import HandS.ForMost
import PyProof.ReprRoads
import HandS.IsInst
import HandS.TupAny
import HandS.Style
import HandS.Steps
import PySem.Challenge.RW_nevermet_k18_member_expressions
set_option Elab.async false
set_option linter.all false
set_option maxRecDepth 100000
set_option maxHeartbeats 4000000
/-! NvG: defs that are called where no repr is under way (the stack's guards are none), so that repr of data can be told. -/
namespace Nv
open PySem L2 PyProof.Rows PySem.Spec

/-- a def's promise, given that no repr is under way where it is called -/
structure FnG (P : Program) (w : World) (K : PySem.W.Frag) (mg : Str → Option Value) (base : Heap) (k : Nat) (f : Addr) (fd : FuncData) (ps : List Str) (sp : Sp) : Prop where
  len : ∀ vs H Q E, sp vs H Q E → vs.length = ps.length
  run : ∀ (A : Around) (outer : List Env) (s : Shared) (H : Hp) (args : Args) (us : List Value) (vs : List V) (Q : VK) (E : XK), A.guards = some [] → Room k A →
    Env0 P w K mg base A outer s H → BindsTo s fd args (ps.zip us) → Vals vs us → sp vs H Q E → codeAny (model P w) A (.call (.ref f) args) (CR CX0 outer P w H s Q E) s

section
variable {P : Program} {w : World} {K : PySem.W.Frag} {mg : Str → Option Value} {base : Heap} {k : Nat} {f : Addr} {fd : FuncData} {ps : List Str} {sp sp' : Sp}

theorem FnG.mono {j : Nat} (F : FnG P w K mg base j f fd ps sp) (h : j ≤ k) : FnG P w K mg base k f fd ps sp :=
  ⟨F.len, fun A outer s H args us vs Q E hg hr => F.run A outer s H args us vs Q E hg (hr.mono h)⟩
theorem FnG.imp (F : FnG P w K mg base k f fd ps sp) (h : ∀ vs H Q E, sp' vs H Q E → sp vs H Q E) : FnG P w K mg base k f fd ps sp' :=
  ⟨fun vs H Q E q => F.len vs H Q E (h _ _ _ _ q), fun A outer s H args us vs Q E hg hr he hb hv hs => F.run A outer s H args us vs Q E hg hr he hb hv (h _ _ _ _ hs)⟩

/-- a def by its body -/
theorem fn_g {x qual : Str} {st : Stmt} {N : List Str} (F : Fun K x qual st f fd) (S : FnScope N ps (defScope st)) (len : ∀ vs H Q E, sp vs H Q E → vs.length = ps.length)
    (hbody : ∀ (cdv : Value) (A : Around) (outer : List Env) (s : Shared) (H : Hp) (vs : List V) (Q : VK) (E : XK), A.guards = some [] →
      Room k (A.deeper (envOfC qual (defScope st) s.heap.objs.size f cdv)) → sp vs H Q E →
      ∃ t, PSs (cxOf CX0 P w K mg base N qual (defScope st) f cdv A outer s H E) (defBody st) t ∧ t { nx := fun _ H' => Q .non H', rt := Q } (start N vs) H) :
    FnG P w K mg base (k + 1) f fd ps sp := by
  obtain ⟨oc, od, kV, doc, pm, an, cdv, ct, osl, rfl, lk, hcd⟩ := F.ex
  refine ⟨len, fun A outer s H args us vs Q E hg hr e0 hb r hsp => ?_⟩
  have up : ∀ b o, base.get? b = some o → s.heap.get? b = some o := fun b o e => (e0.bs b o e).1
  have kx := e0.mod.kin.keeps up
  have limit := e0.mod.nolimit.keeps up
  have kinds : ∀ y ∈ ps.zip us, (defScope st).names.lookup y.1 = some .local ∨ ((defScope st).names.lookup y.1 = some .cell ∧ ((cellsFrom (s.heap.objs.size + 1) (defScope st).names []).lookup y.1).isSome = true) := by
    rintro ⟨n, v⟩ hy
    rcases S.par n (List.of_mem_zip hy).1 with q | q
    · exact Or.inl q
    · exact Or.inr ⟨q, PySem.W.cellsFrom_some _ _ _ (.inl q)⟩
  refine codeAny_call_function hr.depth (kx _ _ lk) rfl S.co S.gen rfl (PySem.W.codeRec_of kx hcd) (hb _ _ _ _ ?_)
  refine wpAny_newFunctionEnv_cells S.kind kinds fun env he s1 x => ?_
  subst he
  refine ⟨limit.keeps x.toInCall.keep, codeAny_func ?_⟩
  obtain ⟨t, ht, hq⟩ := hbody cdv A outer s H vs Q E hg (hr.deeper _) hsp
  have I : Inv (cxOf CX0 P w K mg base N qual (defScope st) f cdv A outer s H E) [] (start N vs) H s1 := inv_start S hr.hd e0 (len _ _ _ _ hsp) r x
  refine wpAny_mono (ht.run [] s1 (start N vs) H _ I hq) (fun fl s' hs => ?_) fun e s' hs => hs
  cases fl with
  | brk => obtain ⟨_, _, _, q⟩ := hs; exact q.elim
  | cont => obtain ⟨_, _, _, q⟩ := hs; exact q.elim
  | next =>
    obtain ⟨σ', H', J, q⟩ := hs
    exact ⟨V.non, H', J.os, J.bare, J.base, J.hok, rfl, q⟩
  | ret u =>
    obtain ⟨v, σ', H', J, rv, q⟩ := hs
    exact ⟨v, H', J.os, J.bare, J.base, J.hok, rv, q⟩
end

section
variable {X : Cx} {k : Nat} {f : Addr} {fd : FuncData} {ps : List Str} {sp : Sp} {x : Str} {p pos : Pos} {e : Expr} {es : List Expr} {t : TA}

/-- the callee runs; E0: nothing is wanted of an exception, since none comes -/
theorem run_g {pins : List (Addr × Obj)} {σ : L2.St} {H : Hp} {s : Shared} {Q : VK} {args : Args} {us : List Value} {vs : List V} (F : FnG X.prog X.w X.K X.mg X.base k f fd ps sp) (hg : X.A.guards = some []) (hr : Room k X.A)
    (I : Inv X pins σ H s) (hb : BindsTo s fd args (ps.zip us)) (r : Vals vs us) (h : sp vs H Q E0) : codeAny (model X.prog X.w) X.A (.call (.ref f) args) (fun r s' => match r with | .ok (.ret u) => EP X pins σ Q u s' | _ => False) s := by
  refine codeAny_mono (F.run X.A X.stack s H args us vs Q E0 hg hr I.env0 hb r h) fun r s' hq => ?_
  cases r with
  | error e => exact hq
  | ok fl =>
    cases fl with
    | ret u => exact I.after hq
    | next => exact hq
    | brk => exact hq
    | cont => exact hq
theorem call_g {pins : List (Addr × Obj)} {σ : L2.St} {H : Hp} {s : Shared} {Q : VK} {kw : List (Str × Value)} {us0 us : List Value} {vs : List V} (F : FnG X.prog X.w X.K X.mg X.base k f fd ps sp) (hg : X.A.guards = some []) (hr : Room k X.A)
    (I : Inv X pins σ H s) (hb : BindsTo s fd ⟨us0, kw⟩ (ps.zip us)) (r : Vals vs us) (h : sp vs H Q E0) : wpAny (model X.prog X.w) X.A (call (.ref f) us0 kw) (EP X pins σ Q) X.xe s := by
  refine wpAny_call (codeAny_mono (run_g F hg hr I hb r h) fun r s' hq => ?_)
  cases r with
  | error e => exact hq.elim
  | ok fl =>
    cases fl with
    | ret u => exact hq
    | next => exact hq.elim
    | brk => exact hq.elim
    | cont => exact hq.elim
/-- f(e, ..) -/
def tG (sp : Sp) (t : TA) : TE := fun σ H Q => t σ H fun vs H1 => sp vs H1 Q E0
theorem pe_g (F : FnG X.prog X.w X.K X.mg X.base k f fd ps sp) (hg : X.A.guards = some []) (hr : Room k X.A) (hx : Gl X x) (hm : X.mg x = some (.ref f)) (hk : PySem.W.keepIn X.K (.ref f) = true) (hb : Binds X.K fd ps [])
    (ha : PA X (e :: es) t) (hdb : (x == ("__debug__" : Str)) = false := by decide) (he : starEach (e :: es) X.env = (false, eval e X.env) :: starEach es X.env := by rfl)
    (hpl : (backTo pos (starEach es X.env)).any (·.1) = false := by rfl) : PE X (.Call (.Name x p) (e :: es) [] pos) (tG sp t) := by
  refine ⟨fun pins s σ H Q I h => ?_⟩
  refine wpAny_Call_Name_kw (ld_glob I hx hm ?_ hdb)
  refine PySem.W.callWith_K (h₀ := X.base) I.ok.mod.kin hk (thn (ha.run pos pins s σ H _ I h) fun us s1 ⟨vs, H1, I1, r, q⟩ => ⟨I1.kIn, ?_⟩) he hpl
  have hl : us.length = ps.length := by rw [← r.length]; exact F.len _ _ _ _ q
  have b := hb s1 us I1.kIn (by rw [List.append_nil]; exact hl)
  rw [List.append_nil] at b
  exact call_g F hg hr I1 b r q
/-- f() -/
theorem pe_g0 (F : FnG X.prog X.w X.K X.mg X.base k f fd ps sp) (hg : X.A.guards = some []) (hr : Room k X.A) (hx : Gl X x) (hm : X.mg x = some (.ref f)) (hk : PySem.W.keepIn X.K (.ref f) = true) (hb : Binds X.K fd ps [])
    (hdb : (x == ("__debug__" : Str)) = false := by decide) : PE X (.Call (.Name x p) [] [] pos) (tG sp tNil) := by
  refine ⟨fun pins s σ H Q I h => ?_⟩
  refine wpAny_Call_Name_kw (ld_glob I hx hm ?_ hdb)
  have hl : ([] : List Value).length = ps.length := F.len _ _ _ _ h
  have b := hb s [] I.kIn hl
  exact PySem.W.callWith_K0 I.kIn hk (call_g (us0 := []) F hg hr I b .nil h)
/-- how keywords alone bind: pm puts their values (in the order in which they stand) in the parameters' order -/
structure KwB (K : PySem.W.Frag) (fd : FuncData) (ps ks : List Str) (pm : List Nat) : Prop where
  to : ∀ (s : Shared) (ws : List Value), K.In s.heap → ws.length = ks.length → BindsTo s fd ⟨[], ks.zip ws⟩ (ps.zip (pm.filterMap (ws[·]?)))
def permV (pm : List Nat) (zs : List V) : List V := pm.filterMap (zs[·]?)
theorem Vals.perm {zs : List V} {ws : List Value} (r : Vals zs ws) : ∀ pm : List Nat, Vals (permV pm zs) (pm.filterMap (ws[·]?))
  | [] => .nil
  | i :: pm => by
    have ih := Vals.perm r pm
    unfold permV at ih ⊢
    rw [List.filterMap_cons, List.filterMap_cons]
    cases e : zs[i]? with
    | none => rw [r.none_of e]; exact ih
    | some x =>
      obtain ⟨u, h1, h2⟩ := r.get e
      rw [h1]
      exact .cons h2 ih
/-- f(k = e, ..), keywords alone -/
def tGK (n : Nat) (pm : List Nat) (sp : Sp) (tk : TA) : TE := fun σ H Q => tk σ H fun zs H1 => zs.length = n ∧ sp (permV pm zs) H1 Q E0
theorem pe_gK {ks : List Str} {pm : List Nat} {kws : List Keyword} {tk : TA} (F : FnG X.prog X.w X.K X.mg X.base k f fd ps sp) (hg : X.A.guards = some []) (hr : Room k X.A) (hx : Gl X x) (hm : X.mg x = some (.ref f)) (hk : PySem.W.keepIn X.K (.ref f) = true) (hb : KwB X.K fd ps ks pm)
    (hkw : PK X kws tk) (hall : (backToKw pos (keywordEach kws X.env)).all (·.1.isSome) = true := by rfl) (hks : (backToKw pos (keywordEach kws X.env)).filterMap (·.1) = ks := by rfl)
    (hdb : (x == ("__debug__" : Str)) = false := by decide) (hpl : ((backTo pos (starEach [] X.env)).any (·.1) || (backToKw pos (keywordEach kws X.env)).any (·.1.isNone)) = false := by rfl) :
    PE X (.Call (.Name x p) [] kws pos) (tGK ks.length pm sp tk) := by
  refine ⟨fun pins s σ H Q I h => ?_⟩
  refine wpAny_Call_Name_kw (ld_glob I hx hm ?_ hdb)
  refine PySem.W.callWith_KW0 (h₀ := X.base) I.ok.mod.kin hk hall (thn (hkw.run pos pins s σ H _ I h) fun ws s1 ⟨zs, H1, I1, r, hz, q⟩ => ⟨I1.kIn, ?_⟩) hpl
  rw [hks]
  exact call_g (us0 := [] ++ []) F hg hr I1 (hb.to s1 ws I1.kIn (by rw [← r.length]; exact hz)) (Vals.perm r pm) q
end

/-! ### data of any depth, dicts too -/
mutual
inductive Dt (K : PySem.W.Frag) (H : Hp) : V → PyData → Prop
  | non : Dt K H .non .none
  | bl (b : Bool) : Dt K H (.bl b) (.bool b)
  | int (i : Int) : Dt K H (.int i) (.int i)
  | str (x : Str) : Dt K H (.str x) (.str x)
  | lst {a : Addr} {xs : List V} {ds : List PyData} : SqL K H a xs → DtAll K H xs ds → Dt K H (.ref a) (.list ds)
  | tup {a : Addr} {xs : List V} {ds : List PyData} : SqT K H a xs → DtAll K H xs ds → Dt K H (.ref a) (.tuple ds)
  | dct {a : Addr} {kvs : List (Key × V)} {ds : List (PyData × PyData)} : Rd H a (.dK kvs) → DtKv K H kvs ds → Dt K H (.ref a) (.dict ds)
inductive DtAll (K : PySem.W.Frag) (H : Hp) : List V → List PyData → Prop
  | nil : DtAll K H [] []
  | cons {v : V} {vs : List V} {d : PyData} {ds : List PyData} : Dt K H v d → DtAll K H vs ds → DtAll K H (v :: vs) (d :: ds)
inductive DtKv (K : PySem.W.Frag) (H : Hp) : List (Key × V) → List (PyData × PyData) → Prop
  | nil : DtKv K H [] []
  | int {i : Int} {v : V} {vs : List (Key × V)} {d : PyData} {ds : List (PyData × PyData)} : Dt K H v d → DtKv K H vs ds → DtKv K H ((.inl i, v) :: vs) ((.int i, d) :: ds)
  | str {x : Str} {v : V} {vs : List (Key × V)} {d : PyData} {ds : List (PyData × PyData)} : Dt K H v d → DtKv K H vs ds → DtKv K H ((.inr x, v) :: vs) ((.str x, d) :: ds)
end
end Nv

set_option Elab.async false
set_option linter.all false
set_option maxRecDepth 100000
set_option maxHeartbeats 4000000
/-! NvR: repr of data; the law's end. -/
namespace Nv
open PySem L2 PyProof.Rows PySem.Spec

/-! ### data stay when the heap grows -/
section
variable {K : PySem.W.Frag} {H H' : Hp}
theorem Same.rd {a : Addr} {u : HO} (e : Same H H') (h : Rd H a u) : Rd H' a u := by
  rcases h with h | ⟨o, h⟩
  · exact .inl (e _ _ h)
  · exact .inr ⟨o, e _ _ h⟩
theorem Same.tup {a : Addr} {xs : List V} (e : Same H H') (h : SqT K H a xs) : SqT K H' a xs := by
  rcases h with h | h
  · exact .inl (Same.rd e h)
  · exact .inr h
theorem Same.lst {a : Addr} {xs : List V} (e : Same H H') (h : SqL K H a xs) : SqL K H' a xs := L2.Same.seq e h
mutual
theorem Dt.up (e : Same H H') : ∀ (d : PyData) (v : V), Dt K H v d → Dt K H' v d
  | .none, _, h => by cases h; exact .non
  | .bool b, _, h => by cases h; exact .bl b
  | .int i, _, h => by cases h; exact .int i
  | .str x, _, h => by cases h; exact .str x
  | .list ds, _, h => by
    cases h with
    | lst hs ha => exact .lst (Same.lst e hs) (DtAll.up e ds _ ha)
  | .tuple ds, _, h => by
    cases h with
    | tup hs ha => exact .tup (Same.tup e hs) (DtAll.up e ds _ ha)
  | .dict ds, _, h => by
    cases h with
    | dct hs ha => exact .dct (Same.rd e hs) (DtKv.up e ds _ ha)
theorem DtAll.up (e : Same H H') : ∀ (ds : List PyData) (vs : List V), DtAll K H vs ds → DtAll K H' vs ds
  | [], _, h => by cases h; exact .nil
  | d :: ds, _, h => by
    cases h with
    | cons h1 h2 => exact .cons (Dt.up e d _ h1) (DtAll.up e ds _ h2)
theorem DtKv.up (e : Same H H') : ∀ (ds : List (PyData × PyData)) (vs : List (Key × V)), DtKv K H vs ds → DtKv K H' vs ds
  | [], _, h => by cases h; exact .nil
  | (_, d) :: ds, _, h => by
    cases h with
    | int h1 h2 => exact .int (Dt.up e d _ h1) (DtKv.up e ds _ h2)
    | str h1 h2 => exact .str (Dt.up e d _ h1) (DtKv.up e ds _ h2)
end
end

/-! ### a dict within a list wants to know that the list is not the table of modules: where there is a dict, no list is told -/
mutual
def noList : PyData → Bool
  | .list _ => false
  | .tuple xs => noListAll xs
  | .dict kvs => noListKv kvs
  | _ => true
def noListAll : List PyData → Bool
  | [] => true
  | d :: ds => noList d && noListAll ds
def noListKv : List (PyData × PyData) → Bool
  | [] => true
  | (_, d) :: ds => noList d && noListKv ds
end
def tells (d : PyData) : Bool := !d.hasDict || noList d

def plain1 : PyData → Bool
  | .none | .bool _ | .int _ | .str _ => true
  | _ => false
theorem reads_plain {h : Heap} {v : Value} {as : List Addr} : ∀ {d : PyData}, plain1 d = true → Reads h v d as → as = []
  | .none, _, r => by cases r; rfl
  | .bool _, _, r => by cases r; rfl
  | .int _, _, r => by cases r; rfl
  | .str _, _, r => by cases r; rfl
theorem readsAll_plain {h : Heap} : ∀ {ds : List PyData} {vs : List Value} {as : List Addr}, ds.all plain1 = true → ReadsAll h vs ds as → as = []
  | [], _, _, _, r => by cases r; rfl
  | d :: ds, _, _, p, r => by
    rw [List.all_cons, Bool.and_eq_true] at p
    cases r with
    | cons r1 r2 => rw [reads_plain p.1 r1, readsAll_plain p.2 r2]; rfl
theorem keys_plain {K : PySem.W.Frag} {H : Hp} : ∀ {ds : List (PyData × PyData)} {kvs : List (Key × V)}, DtKv K H kvs ds → (ds.map (·.1)).all plain1 = true
  | _, _, .nil => rfl
  | _, _, .int _ h => by rw [List.map_cons, List.all_cons, keys_plain h]; rfl
  | _, _, .str _ h => by rw [List.map_cons, List.all_cons, keys_plain h]; rfl

section
variable {X : Cx} {pins : List (Addr × Obj)} {σ : L2.St} {H : Hp} {s : Shared}
mutual
theorem Dt.reads (I : Inv X pins σ H s) : ∀ (d : PyData) (v : V) (u : Value), Dt X.K H v d → RelV v u → ∃ as, Reads s.heap u d as
  | .none, _, _, h, r => by
    cases h; cases r
    exact ⟨_, .none⟩
  | .bool b, _, _, h, r => by
    cases h; cases r
    exact ⟨_, .bool b⟩
  | .int i, _, _, h, r => by
    cases h
    obtain ⟨t, rfl⟩ := r
    exact ⟨_, .int i t⟩
  | .str x, _, _, h, r => by
    cases h
    obtain ⟨t, rfl⟩ := r
    exact ⟨_, .str x t⟩
  | .list ds, _, _, h, r => by
    cases h with
    | lst hs ha =>
      cases r
      obtain ⟨its, rv, ⟨o, n, ho, hc, _, hd⟩, _⟩ := I.list hs
      obtain ⟨as, q⟩ := DtAll.reads I ds _ its ha rv
      exact ⟨_, .list ho hc hd q⟩
  | .tuple ds, _, _, h, r => by
    cases h with
    | tup hs ha =>
      cases r
      obtain ⟨its, rv, ⟨o, ho, hc, n, hd⟩, _⟩ := I.tuple hs
      obtain ⟨as, q⟩ := DtAll.reads I ds _ its ha rv
      exact ⟨_, .tuple ho hc hd q⟩
  | .dict ds, _, _, h, r => by
    cases h with
    | dct hs ha =>
      cases r
      obtain ⟨_, _, vs, rv, o, es, ep, ho, hx, hd, _, hp, _⟩ := dk_rd I.hok hs
      obtain ⟨as, bs, q1, q2⟩ := DtKv.reads I ds _ vs es.toList ha rv hp
      exact ⟨_, .dict ho hx.1 hd q1 q2⟩
theorem DtAll.reads (I : Inv X pins σ H s) : ∀ (ds : List PyData) (vs : List V) (us : List Value), DtAll X.K H vs ds → Vals vs us → ∃ as, ReadsAll s.heap us ds as
  | [], _, _, h, r => by
    cases h; cases r
    exact ⟨_, .nil⟩
  | d :: ds, _, _, h, r => by
    cases h with
    | cons h1 h2 =>
      cases r with
      | cons r1 r2 =>
        obtain ⟨as, q1⟩ := Dt.reads I d _ _ h1 r1
        obtain ⟨bs, q2⟩ := DtAll.reads I ds _ _ h2 r2
        exact ⟨_, .cons q1 q2⟩
theorem DtKv.reads (I : Inv X pins σ H s) : ∀ (ds : List (PyData × PyData)) (kvs : List (Key × V)) (vs : List (Key × Value)) (es : List DictEntry), DtKv X.K H kvs ds → KV kvs vs → Pairs (mixKind X.prog X.w) es vs →
    ∃ as bs, ReadsAll s.heap (es.map (·.key)) (ds.map (·.1)) as ∧ ReadsAll s.heap (es.map (·.val)) (ds.map (·.2)) bs
  | [], _, _, _, h, r, p => by
    cases h; cases r; cases p
    exact ⟨_, _, .nil, .nil⟩
  | (_, d) :: ds, _, _, _, h, r, p => by
    cases r with
    | nil => cases h
    | cons r1 r2 =>
      cases p with
      | cons p1 p2 p3 =>
        have p1' : keyIs _ _ = true := p1
        obtain ⟨e1, e2⟩ := r1
        rw [← p2] at e2
        rw [← e1] at p1'
        cases h with
        | int h1 h2 =>
          obtain ⟨as, q1⟩ := Dt.reads I d _ _ h1 e2
          obtain ⟨bs, cs, q2, q3⟩ := DtKv.reads I ds _ _ _ h2 r2 p3
          rcases keyIs_shape p1' with ⟨i, t, z1, z2⟩ | ⟨i, t, z1, z2⟩
          · cases z1
            exact ⟨_, _, .cons (d := .int _) (as := []) (by show Reads s.heap (DictEntry.key _) _ _; rw [z2]; exact .int _ t) q2, .cons q1 q3⟩
          · cases z1
        | str h1 h2 =>
          obtain ⟨as, q1⟩ := Dt.reads I d _ _ h1 e2
          obtain ⟨bs, cs, q2, q3⟩ := DtKv.reads I ds _ _ _ h2 r2 p3
          rcases keyIs_shape p1' with ⟨i, t, z1, z2⟩ | ⟨i, t, z1, z2⟩
          · cases z1
          · cases z1
            exact ⟨_, _, .cons (d := .str _) (as := []) (by show Reads s.heap (DictEntry.key _) _ _; rw [z2]; exact .str _ t) q2, .cons q1 q3⟩
end
mutual
theorem as_ok (I : Inv X pins σ H s) : ∀ (d : PyData) (v : V) (u : Value) (as : List Addr), Dt X.K H v d → RelV v u → Reads s.heap u d as → noList d = true → sysModules ∉ as
  | .none, _, _, _, _, _, r, _ => by cases r; simp
  | .bool b, _, _, _, _, _, r, _ => by cases r; simp
  | .int i, _, _, _, _, _, r, _ => by cases r; simp
  | .str x, _, _, _, _, _, r, _ => by cases r; simp
  | .list ds, _, _, _, _, _, _, t => by cases t
  | .tuple ds, _, _, _, h, ru, r, t => by
    cases h with
    | tup hs ha =>
      cases ru
      obtain ⟨its, rv, ⟨o, ho, hc, n, hd⟩, _⟩ := I.tuple hs
      cases r with
      | tuple h1 h2 h3 h4 =>
        rw [ho] at h1
        cases h1
        rw [hd] at h3
        cases h3
        exact as_okAll I ds _ _ _ ha rv (by simpa using h4) t
  | .dict ds, _, _, _, h, ru, r, t => by
    cases h with
    | dct hs ha =>
      cases ru
      obtain ⟨_, hx, vs, rv, o, es, ep, ho, _, hd, _, hp, _⟩ := dk_rd I.hok hs
      cases r with
      | dict h1 h2 h3 h4 h5 =>
        rw [ho] at h1
        cases h1
        rw [hd] at h3
        cases h3
        have e1 := readsAll_plain (keys_plain ha) h4
        subst e1
        have e2 := as_okKv I ds _ vs _ _ ha rv hp h5 t
        intro hm
        rcases List.mem_append.mp hm with hm | hm
        · have e3 := List.mem_singleton.mp hm
          rw [← e3] at hx
          simp at hx
        · exact e2 hm
theorem as_okAll (I : Inv X pins σ H s) : ∀ (ds : List PyData) (vs : List V) (us : List Value) (as : List Addr), DtAll X.K H vs ds → Vals vs us → ReadsAll s.heap us ds as → noListAll ds = true → sysModules ∉ as
  | [], _, _, _, _, _, r, _ => by cases r; simp
  | d :: ds, _, _, _, h, rv, r, t => by
    have t : (noList d && noListAll ds) = true := t
    rw [Bool.and_eq_true] at t
    cases h with
    | cons h1 h2 =>
      cases rv with
      | cons r1 r2 =>
        cases r with
        | cons q1 q2 =>
          intro hm
          rcases List.mem_append.mp hm with hm | hm
          · exact as_ok I d _ _ _ h1 r1 q1 t.1 hm
          · exact as_okAll I ds _ _ _ h2 r2 q2 t.2 hm
theorem as_okKv (I : Inv X pins σ H s) : ∀ (ds : List (PyData × PyData)) (kvs : List (Key × V)) (vs : List (Key × Value)) (es : List DictEntry) (bs : List Addr), DtKv X.K H kvs ds → KV kvs vs → Pairs (mixKind X.prog X.w) es vs →
    ReadsAll s.heap (es.map (·.val)) (ds.map (·.2)) bs → noListKv ds = true → sysModules ∉ bs
  | [], _, _, _, _, h, rv, p, r, _ => by cases h; cases rv; cases p; cases r; simp
  | (_, d) :: ds, _, _, _, _, h, rv, p, r, tt => by
    have t : (noList d && noListKv ds) = true := tt
    clear tt
    rw [Bool.and_eq_true] at t
    cases rv with
    | nil => cases h
    | cons r1 r2 =>
      cases p with
      | cons p1 p2 p3 =>
        obtain ⟨e1, e2⟩ := r1
        rw [← p2] at e2
        cases r with
        | cons q1 q2 =>
          cases h with
          | int h1 h2 =>
            intro hm
            rcases List.mem_append.mp hm with hm | hm
            · exact as_ok I d _ _ _ h1 e2 q1 t.1 hm
            · exact as_okKv I ds _ _ _ _ h2 r2 p3 q2 t.2 hm
          | str h1 h2 =>
            intro hm
            rcases List.mem_append.mp hm with hm | hm
            · exact as_ok I d _ _ _ h1 e2 q1 t.1 hm
            · exact as_okKv I ds _ _ _ _ h2 r2 p3 q2 t.2 hm
end
theorem sys_not {a : Addr} {d : PyData} {as : List Addr} (I : Inv X pins σ H s) (h : Dt X.K H (.ref a) d) (r : Reads s.heap (.ref a) d as) (t : tells d = true) : d.hasDict = true → sysModules ∉ as := by
  intro hd
  unfold tells at t
  rw [hd] at t
  exact as_ok I d _ _ _ h rfl r t
end

/-- repr(x), x any data -/
def rRepr (K : PySem.W.Frag) : List V → Hp → VK → Prop := fun xs H Q => ∃ v d, xs = [v] ∧ Dt K H v d ∧ tells d = true ∧ d.showable = true ∧ d.depth ≤ 60 ∧ d.shown.length ≤ sizeLine ∧ Q (.str d.shown) H
theorem cr_repr {X : Cx} (hg : X.A.guards = some []) (hu : X.A.units + 64 < cLine) : CallR X (.builtin "repr") (rRepr X.K) := by
  intro pins s σ H xs us Q I r h
  obtain ⟨v, d, rfl, hd, ht, hs, hz, hl, q⟩ := h
  obtain ⟨u, rfl, ru⟩ := vals1 r
  obtain ⟨as, rd⟩ := Dt.reads I d v u hd ru
  cases hd with
  | non =>
    cases ru
    exact PySem.P.repr_of_none ⟨.str (PyData.none).shown, H, I.tok _, ⟨_, rfl⟩, q⟩
  | bl b =>
    cases ru
    exact PySem.P.repr_of_bool ⟨.str (if b then "True" else "False"), H, I.tok _, ⟨_, by cases b <;> rfl⟩, q⟩
  | int i =>
    obtain ⟨t, rfl⟩ := ru
    exact PySem.P.repr_of_int (by simpa [PyData.showable] using hs) ⟨.str (PyData.int i).shown, H, I.tok _, ⟨_, rfl⟩, q⟩
  | str x =>
    obtain ⟨t, rfl⟩ := ru
    exact PySem.P.repr_of_str ⟨.str (PyData.str x).shown, H, I.tok _, ⟨_, rfl⟩, q⟩ hl
  | _ =>
    cases ru
    refine repr_of_reads' rd hs (sys_not I (by first | exact .lst (by assumption) (by assumption) | exact .tup (by assumption) (by assumption) | exact .dct (by assumption) (by assumption)) rd ht) hg (by omega) (fun _ _ e => e) (fun h' u tk hk => ?_) hl
    exact ⟨.str _, H, I.kept hk, ⟨u, rfl⟩, q⟩
end Nv

set_option Elab.async false
set_option linter.all false
set_option maxRecDepth 100000
set_option maxHeartbeats 4000000
/-! NvE: the end of a law whose def is promised by FnG. -/
namespace Nv
open PySem L2 PyProof.Rows PySem.Spec

/-- the script alone is tracked, and that as a thing that is known -/
def frozen (a : Addr) (vs : List Value) (ns : List Int) : Hp := fun b => if b = a then some (.frz { cls := .type "list", data := .seq vs.toArray } (.lst (ns.map V.int))) else none

section
variable {P : Program} {w : World} {K : PySem.W.Frag} {mg mb : Str → Option Value} {k : Nat} {fa a : Addr} {fd : FuncData} {x : Str} {sp : Sp} {s₁ : Shared} {vs : List Value} {ns : List Int}

/-- from a heap in which at most the script is tracked, and that frozen -/
theorem law_core {H : Hp} (KX : K.In s₁.heap) (hns : s₁.heap.Ns mainGlobals mg) (hb : s₁.heap.Ns builtinsNs mb) (hbb : ∀ x : Str, x ≠ "__name__" → mb x = bootBuiltins x) (hlim : s₁.heap.NoLimit) (hg : s₁.gens = #[])
    (ha : s₁.heap.get? a = some { cls := .type "list", data := .seq vs.toArray }) (hr : Room k callerA)
    (F : ∀ base : Heap, K.In base → base.Ns mainGlobals mg → FnG P w K mg base k fa fd [x] sp) (hbind : ∀ (s : Shared) (u : Value), BindsTo s fd ⟨[u], []⟩ [(x, u)])
    (hsp : sp [.ref a] H (fun v _ => v = .bl true) E0) (hok : HOk P w H s₁.heap) (hA : ∀ b o, H b = some o → b = a ∧ ∃ ob xs, o = .frz ob (.lst xs)) (hK : ∀ o, H a = some o → K.lookup a = none) :
    codeAny (model P w) callerA (.call (.ref fa) ⟨[.ref a], []⟩) (fun r s' => r = .ok (.ret (.bool true)) ∧ OldK s₁.heap s'.heap ∧ s'.os = s₁.os ∧ AllBare s'.gens) s₁ := by
  have offDict : ∀ {b : Addr} {o : Obj} {es : Array DictEntry} {ep : Nat}, s₁.heap.get? b = some o → o.data = .dict es ep → (hidT s₁.heap H).get? b = some o := by
    intro b o es ep e d
    refine hidT_get e ?_
    cases q : H b with
    | none => rfl
    | some u =>
      obtain ⟨rfl, _⟩ := hA b u q
      rw [ha] at e
      cases e
      cases d
  have ns' : ∀ {b : Addr} {m : Str → Option Value}, s₁.heap.Ns b m → (hidT s₁.heap H).Ns b m := by
    rintro b m ⟨o, es, ep, e, d, r⟩
    exact ⟨o, es, ep, offDict e d, d, r⟩
  have kin : K.In (hidT s₁.heap H) := by
    intro b o e
    refine hidT_get (KX b o e) ?_
    cases q : H b with
    | none => rfl
    | some u =>
      obtain ⟨rfl, _⟩ := hA b u q
      rw [hK u q] at e
      cases e
  have md : Mod K mg (hidT s₁.heap H) := by
    obtain ⟨mc, h1, h2⟩ := hlim
    exact ⟨kin, ns' hns, ⟨mb, ns' hb, hbb⟩, mc, ns' h1, h2⟩
  have e0 : Env0 P w K mg (hidT s₁.heap H) callerA [] s₁ H :=
    ⟨rfl, md, fun b o e => of_hidT e, Nat.le_of_eq (hidT_size _ _), trivial, fun b hb => absurd hb List.not_mem_nil, hok, .of_eq hg⟩
  refine codeAny_mono ((F _ kin (ns' hns)).run callerA [] s₁ H ⟨[.ref a], []⟩ [.ref a] [.ref a] _ _ rfl hr e0 (hbind s₁ (.ref a)) (.cons rfl .nil) hsp) fun r s' h => ?_
  cases r with
  | error e => exact h.elim
  | ok fl =>
    cases fl with
    | next => exact h.elim
    | brk => exact h.elim
    | cont => exact h.elim
    | ret u =>
      obtain ⟨v, H', os, bare, un, hok', r', q⟩ := h
      have qv : v = .bl true := q
      subst qv
      have qu : u = Value.bool true := r'
      subst qu
      refine ⟨rfl, OldK.of_keep ?_, os, bare⟩
      intro b o e
      cases z : H b with
      | none => exact un.keep b o e z List.not_mem_nil List.not_mem_nil
      | some u =>
        obtain ⟨_, ob, xs, rfl⟩ := hA b u z
        have e1 := (hok b _ z).1
        have e2 := (hok' b _ (un.frzs b ob _ z)).1
        rw [e] at e1
        cases e1
        exact e2

theorem law_g (KX : K.In s₁.heap) (hns : s₁.heap.Ns mainGlobals mg) (hb : s₁.heap.Ns builtinsNs mb) (hbb : ∀ x : Str, x ≠ "__name__" → mb x = bootBuiltins x) (hlim : s₁.heap.NoLimit) (hg : s₁.gens = #[])
    (ha : s₁.heap.get? a = some { cls := .type "list", data := .seq vs.toArray }) (hi : IntsAre vs ns) (hl : ns.length ≤ sizeLine) (hr : Room k callerA)
    (F : ∀ base : Heap, K.In base → base.Ns mainGlobals mg → FnG P w K mg base k fa fd [x] sp) (hbind : ∀ (s : Shared) (u : Value), BindsTo s fd ⟨[u], []⟩ [(x, u)])
    (hsp : ∀ H : Hp, SqL K H a (ns.map V.int) → sp [.ref a] H (fun v _ => v = .bl true) E0) :
    codeAny (model P w) callerA (.call (.ref fa) ⟨[.ref a], []⟩) (fun r s' => r = .ok (.ret (.bool true)) ∧ OldK s₁.heap s'.heap ∧ s'.os = s₁.os ∧ AllBare s'.gens) s₁ := by
  have rv := vals_ints hi
  have lv := hi.length
  cases hk : K.lookup a with
  | some o =>
    have e := KX a o hk
    rw [ha] at e
    cases e
    have sq : SqL K (fun _ => none) a (ns.map V.int) := .inr ⟨_, vs.toArray, _, hk, rfl, rfl, rfl, by rw [List.size_toArray, lv]; exact hl, by simpa using rv⟩
    exact law_core KX hns hb hbb hlim hg ha hr F hbind (hsp _ sq) (fun b o z => nomatch z) (fun b o z => nomatch z) fun o z => nomatch z
  | none =>
    have at_a : frozen a vs ns a = some (.frz { cls := .type "list", data := .seq vs.toArray } (.lst (ns.map V.int))) := if_pos rfl
    have off : ∀ b o, frozen a vs ns b = some o → b = a ∧ o = .frz { cls := .type "list", data := .seq vs.toArray } (.lst (ns.map V.int)) := by
      intro b o z
      by_cases hb : b = a
      · subst hb
        rw [at_a] at z
        exact ⟨rfl, (Option.some.inj z).symm⟩
      · rw [show frozen a vs ns b = none from if_neg hb] at z
        cases z
    refine law_core (H := frozen a vs ns) KX hns hb hbb hlim hg ha hr F hbind (hsp _ (.inl (.inr ⟨_, at_a⟩))) (fun b o z => ?_) (fun b o z => ?_) fun _ _ => hk
    · obtain ⟨rfl, rfl⟩ := off b o z
      exact ⟨ha, by rw [List.length_map]; exact hl, vs, _, rv, ha⟩
    · obtain ⟨rfl, rfl⟩ := off b o z
      exact ⟨rfl, _, _, rfl⟩
end

theorem walk_g {l : PySem.W.OpenLaw} {n k : Nat} {q : Program} {loose : List Str} {XP : (Str → Option Value) → Heap → Prop} {YP : World → Heap → Prop} {d : DefRec} {K : Params → PySem.W.Frag} {sp : PySem.W.Frag → Sp} {x : Str}
    (hn : l.most = some n) (hn2 : n ≤ sizeLine) (hdf : d.params.defaults = []) (hr : Room k callerA) (hY : ∀ (w : World) (h : Heap), YP w h → (K w.params).In h)
    (F : ∀ (w : World) (mg : Str → Option Value) (fa : Addr) (h : Heap), (K w.params).In h → h.Ns mainGlobals mg → mg d.name = some (.ref fa) →
      ∃ fd : FuncData, (∀ (s : Shared) (u : Value), BindsTo s fd ⟨[u], []⟩ [(x, u)]) ∧ ∀ base : Heap, (K w.params).In base → base.Ns mainGlobals mg → FnG l.prog w (K w.params) mg base k fa fd [x] (sp (K w.params)))
    (hsp : ∀ (K : PySem.W.Frag) (H : Hp) (a : Addr) (ns : List Int), ns.length ≤ n → SqL K H a (ns.map V.int) → sp K [.ref a] H (fun v _ => v = .bl true) E0) :
    PySem.W.WalkO q loose XP YP l.row.toRowW d [] (fun f vs => PySem.call f vs) := by
  refine Att.attach_call hn hdf ?_
  intro w s₀ s₁ mg mb fa o pm cd doc a vs ns G Y ho hd hcd hmg hobj hints hlen hg
  obtain ⟨fd, hb, hF⟩ := F w mg fa _ (hY w _ Y) G.T.g hmg
  exact law_g (hY w _ Y) G.T.g G.T.b G.T.builtins G.T.nolimit hg hobj hints (Nat.le_trans hlen hn2) hr hF hb fun H hS => hsp _ H a ns hlen hS
end Nv

set_option Elab.async false
set_option linter.all false
set_option maxRecDepth 100000
set_option maxHeartbeats 4000000
/-! NvD: defs told by data. D: what a value is worth; Sl: what a slot holds (data that stays; a list or a dict of one's own, that changes; the pen that draws).
Ev, EvT, EvA, EvI: expressions, tests, arguments, what is walked; Run: statements. Each is a weakest precondition over the slots' data: no heap is seen outside this file. -/
namespace Nv
open PySem L2 PyProof.Rows PySem.Spec

/-! ### data -/
inductive D where
  | non | bl (b : Bool) | int (i : Int) | str (x : Str) | lst (xs : List D) | tup (xs : List D) | dct (kvs : List (Key × D)) | ins (c : Nat) (fs : List (Str × D)) | ty (n : String)
  /-- a list that is known from without (the script) -/
  | frl (xs : List D)

structure Wd where
  K : PySem.W.Frag
  cl : Nat → Addr

mutual
/-- the value v is the data d, by what G tells -/
inductive Rp (W : Wd) (G : Hp) : V → D → Prop
  | non : Rp W G .non .non
  | bl (b : Bool) : Rp W G (.bl b) (.bl b)
  | int (i : Int) : Rp W G (.int i) (.int i)
  | str (x : Str) : Rp W G (.str x) (.str x)
  | ty (n : String) : Rp W G (.ty n) (.ty n)
  | lst {a : Addr} {xs : List V} {ds : List D} : G a = some (.lst xs) → RpAll W G xs ds → Rp W G (.ref a) (.lst ds)
  | tup {a : Addr} {xs : List V} {ds : List D} : SqT W.K G a xs → RpAll W G xs ds → Rp W G (.ref a) (.tup ds)
  | dct {a : Addr} {kvs : List (Key × V)} {ds : List (Key × D)} : Rd G a (.dK kvs) → kvs.map (·.1) = ds.map (·.1) → RpAll W G (kvs.map (·.2)) (ds.map (·.2)) → Rp W G (.ref a) (.dct ds)
  | ins {a dx : Addr} {c : Nat} {fs : List (Str × V)} {ds : List (Str × D)} : G a = some (.ins (W.cl c) dx fs) → fs.map (·.1) = ds.map (·.1) → RpAll W G (fs.map (·.2)) (ds.map (·.2)) → Rp W G (.ref a) (.ins c ds)
  | frl {a : Addr} {xs : List V} {ds : List D} : SqL W.K G a xs → RpAll W G xs ds → Rp W G (.ref a) (.frl ds)
inductive RpAll (W : Wd) (G : Hp) : List V → List D → Prop
  | nil : RpAll W G [] []
  | cons {v : V} {vs : List V} {d : D} {ds : List D} : Rp W G v d → RpAll W G vs ds → RpAll W G (v :: vs) (d :: ds)
end

section
variable {W : Wd} {G G' H : Hp}
mutual
theorem Rp.up (e : Same G G') : ∀ {v : V} {d : D}, Rp W G v d → Rp W G' v d
  | _, _, .non => .non
  | _, _, .bl b => .bl b
  | _, _, .int i => .int i
  | _, _, .str x => .str x
  | _, _, .ty n => .ty n
  | _, _, .lst h k => .lst (e _ _ h) (RpAll.up e k)
  | _, _, .tup h k => .tup (Same.tup e h) (RpAll.up e k)
  | _, _, .dct h q k => .dct (Same.rd e h) q (RpAll.up e k)
  | _, _, .ins h q k => .ins (e _ _ h) q (RpAll.up e k)
  | _, _, .frl h k => .frl (Same.lst e h) (RpAll.up e k)
theorem RpAll.up (e : Same G G') : ∀ {vs : List V} {ds : List D}, RpAll W G vs ds → RpAll W G' vs ds
  | _, _, .nil => .nil
  | _, _, .cons h k => .cons (Rp.up e h) (RpAll.up e k)
end
theorem RpAll.length : ∀ {vs : List V} {ds : List D}, RpAll W G vs ds → vs.length = ds.length
  | _, _, .nil => rfl
  | _, _, .cons _ k => congrArg Nat.succ k.length
theorem RpAll.append : ∀ {vs ws : List V} {ds es : List D}, RpAll W G vs ds → RpAll W G ws es → RpAll W G (vs ++ ws) (ds ++ es)
  | _, _, _, _, .nil, k => k
  | _, _, _, _, .cons h k, l => .cons h (k.append l)
theorem RpAll.get : ∀ {vs : List V} {ds : List D} {i : Nat} {d : D}, RpAll W G vs ds → ds[i]? = some d → ∃ v, vs[i]? = some v ∧ Rp W G v d
  | _, _, _, _, .nil, h => by simp at h
  | _, _, 0, _, .cons h k, e => by
    simp at e
    subst e
    exact ⟨_, rfl, h⟩
  | _, _, i + 1, _, .cons h k, e => by
    obtain ⟨v, q, r⟩ := k.get (i := i) (by simpa using e)
    exact ⟨v, by simpa using q, r⟩
theorem RpAll.take : ∀ {vs : List V} {ds : List D} (n : Nat), RpAll W G vs ds → RpAll W G (vs.take n) (ds.take n)
  | _, _, 0, _ => .nil
  | _, _, _ + 1, .nil => .nil
  | _, _, n + 1, .cons h k => .cons h (k.take n)
theorem RpAll.drop : ∀ {vs : List V} {ds : List D} (n : Nat), RpAll W G vs ds → RpAll W G (vs.drop n) (ds.drop n)
  | _, _, 0, h => h
  | _, _, _ + 1, .nil => .nil
  | _, _, n + 1, .cons h k => k.drop n
theorem RpAll.ints : ∀ (ns : List Int), RpAll W G (ns.map V.int) (ns.map D.int)
  | [] => .nil
  | n :: ns => .cons (.int n) (RpAll.ints ns)
theorem RpAll.reverse : ∀ {vs : List V} {ds : List D}, RpAll W G vs ds → RpAll W G vs.reverse ds.reverse
  | _, _, .nil => .nil
  | _, _, .cons h k => by
    rw [List.reverse_cons, List.reverse_cons]
    exact k.reverse.append (.cons h .nil)
theorem RpAll.set {x : V} {d : D} (r : Rp W G x d) : ∀ {vs : List V} {ds : List D} (i : Nat), RpAll W G vs ds → RpAll W G (vs.set i x) (ds.set i d)
  | _, _, _, .nil => .nil
  | _, _, 0, .cons _ k => .cons r k
  | _, _, i + 1, .cons h k => .cons h (RpAll.set r i k)

theorem Rp.non_inv {v : V} (h : Rp W G v .non) : v = .non := by cases h; rfl
theorem Rp.bl_inv {v : V} {b : Bool} (h : Rp W G v (.bl b)) : v = .bl b := by cases h; rfl
theorem Rp.int_inv {v : V} {i : Int} (h : Rp W G v (.int i)) : v = .int i := by cases h; rfl
theorem Rp.str_inv {v : V} {x : Str} (h : Rp W G v (.str x)) : v = .str x := by cases h; rfl
theorem Rp.lst_inv {v : V} {ds : List D} (h : Rp W G v (.lst ds)) : ∃ a xs, v = .ref a ∧ G a = some (.lst xs) ∧ RpAll W G xs ds := by
  cases h with
  | lst h k => exact ⟨_, _, rfl, h, k⟩
theorem Rp.frl_inv {v : V} {ds : List D} (h : Rp W G v (.frl ds)) : ∃ a xs, v = .ref a ∧ SqL W.K G a xs ∧ RpAll W G xs ds := by
  cases h with
  | frl h k => exact ⟨_, _, rfl, h, k⟩
theorem Rp.tup_inv {v : V} {ds : List D} (h : Rp W G v (.tup ds)) : ∃ a xs, v = .ref a ∧ SqT W.K G a xs ∧ RpAll W G xs ds := by
  cases h with
  | tup h k => exact ⟨_, _, rfl, h, k⟩
theorem Rp.dct_inv {v : V} {ds : List (Key × D)} (h : Rp W G v (.dct ds)) : ∃ a kvs, v = .ref a ∧ Rd G a (.dK kvs) ∧ kvs.map (·.1) = ds.map (·.1) ∧ RpAll W G (kvs.map (·.2)) (ds.map (·.2)) := by
  cases h with
  | dct h q k => exact ⟨_, _, rfl, h, q, k⟩
end

/-! ### slots -/
inductive Sl where
  | no
  | d (x : D)
  /-- a list of one's own, that changes; pl: one that the caller handed in -/
  | ol (xs : List D) | pl (xs : List D)
  /-- a dict of one's own -/
  | od (kvs : List (Key × D))
  | pd (kvs : List (Key × D))
def Sl.owned : Sl → Bool
  | .no => false
  | .d _ => false
  | _ => true
def Sl.pinned : Sl → Bool
  | .pl _ => true
  | .pd _ => true
  | _ => false
def OkS (W : Wd) (G H : Hp) (ov : Option (Option V)) : Sl → Prop
  | .no => True
  | .d x => ∃ v, ov = some (some v) ∧ Rp W G v x
  | .ol xs => ∃ l vs, ov = some (some (.ref l)) ∧ G l = none ∧ H l = some (.lst vs) ∧ RpAll W G vs xs
  | .pl xs => ∃ l vs, ov = some (some (.ref l)) ∧ G l = none ∧ H l = some (.lst vs) ∧ RpAll W G vs xs
  | .od kvs => ∃ l vs, ov = some (some (.ref l)) ∧ G l = none ∧ H l = some (.dK vs) ∧ vs.map (·.1) = kvs.map (·.1) ∧ RpAll W G (vs.map (·.2)) (kvs.map (·.2))
  | .pd kvs => ∃ l vs, ov = some (some (.ref l)) ∧ G l = none ∧ H l = some (.dK vs) ∧ vs.map (·.1) = kvs.map (·.1) ∧ RpAll W G (vs.map (·.2)) (kvs.map (·.2))
/-- the addresses of one's own -/
def own (σ : L2.St) (env : List Sl) (l : Addr) : Prop := ∃ (i : Nat) (s : Sl), env[i]? = some s ∧ s.owned = true ∧ σ[i]? = some (some (.ref l))

structure St (W : Wd) (G H : Hp) (σ : L2.St) (env : List Sl) : Prop where
  gh : Same G H
  len : σ.length = env.length
  ok : ∀ (i : Nat) (s : Sl), env[i]? = some s → OkS W G H σ[i]? s
  ds : ∀ (i j : Nat) (s t : Sl) (l : Addr), env[i]? = some s → s.owned = true → σ[i]? = some (some (.ref l)) → env[j]? = some t → t.owned = true → σ[j]? = some (some (.ref l)) → i = j
/-- what happens between two states -/
structure Tr (σ : L2.St) (env : List Sl) (G H : Hp) (σ' : L2.St) (env' : List Sl) (G' H' : Hp) : Prop where
  gg : Same G G'
  fr : ∀ b o, ¬ own σ env b → H b = some o → H' b = some o
  nw : ∀ b, ¬ own σ env b → H b ≠ none → G b = none → G' b = none
  ow : ∀ b, own σ' env' b → own σ env b ∨ H b = none
  kp : ∀ b, H b ≠ none → H' b ≠ none
  pn : ∀ (i : Nat) (s : Sl), env[i]? = some s → s.pinned = true → σ'[i]? = σ[i]? ∧ ∃ s', env'[i]? = some s' ∧ s'.pinned = true

theorem Sl.pinned_owned {s : Sl} (h : s.pinned = true) : s.owned = true := by
  cases s <;> first | rfl | cases h

section
variable {W : Wd} {G H G1 H1 G2 H2 : Hp} {σ σ1 σ2 : L2.St} {env env1 env2 : List Sl}
theorem OkS.there {ov : Option (Option V)} {s : Sl} {l : Addr} (h : OkS W G H ov s) (ho : s.owned = true) (e : ov = some (some (.ref l))) : G l = none ∧ ∃ o, H l = some o := by
  cases s with
  | no => cases ho
  | d x => cases ho
  | ol xs =>
    obtain ⟨m, vs, e1, g, h, _⟩ := h
    rw [e] at e1
    cases e1
    exact ⟨g, _, h⟩
  | pl xs =>
    obtain ⟨m, vs, e1, g, h, _⟩ := h
    rw [e] at e1
    cases e1
    exact ⟨g, _, h⟩
  | od kvs =>
    obtain ⟨m, vs, e1, g, h, _⟩ := h
    rw [e] at e1
    cases e1
    exact ⟨g, _, h⟩
  | pd kvs =>
    obtain ⟨m, vs, e1, g, h, _⟩ := h
    rw [e] at e1
    cases e1
    exact ⟨g, _, h⟩
theorem St.own_at (S : St W G H σ env) {l : Addr} (h : own σ env l) : G l = none ∧ ∃ o, H l = some o := by
  obtain ⟨i, s, e, ho, ev⟩ := h
  exact (S.ok i s e).there ho ev
theorem Tr.refl (S : St W G H σ env) : Tr σ env G H σ env G H :=
  ⟨Same.refl G, fun _ _ _ h => h, fun _ _ _ h => h, fun _ h => .inl h, fun _ h => h, fun i s e h => ⟨rfl, s, e, h⟩⟩
theorem Tr.trans (S : St W G H σ env) (a : Tr σ env G H σ1 env1 G1 H1) (b : Tr σ1 env1 G1 H1 σ2 env2 G2 H2) : Tr σ env G H σ2 env2 G2 H2 where
  gg := a.gg.trans b.gg
  fr := fun c o n h => b.fr c o (fun z => by
    rcases a.ow c z with z | z
    · exact n z
    · rw [h] at z
      cases z) (a.fr c o n h)
  nw := fun c m n h => b.nw c (fun z => (a.ow c z).elim m fun y => n y) (a.kp c n) (a.nw c m n h)
  ow := fun c h => by
    rcases b.ow c h with h | h
    · exact a.ow c h
    · refine .inr ?_
      cases q : H c with
      | none => rfl
      | some o => exact absurd h (a.kp c (by rw [q]; exact fun z => nomatch z))
  kp := fun c n => b.kp c (a.kp c n)
  pn := fun i s e h => by
    obtain ⟨e1, s1, f1, h1⟩ := a.pn i s e h
    obtain ⟨e2, s2, f2, h2⟩ := b.pn i s1 f1 h1
    exact ⟨e2.trans e1, s2, f2, h2⟩

/-- only new things come -/
structure Gr (G H G1 H1 : Hp) : Prop where
  gg : Same G G1
  gh : Same G1 H1
  hh : Same H H1
  nw : ∀ b, H b ≠ none → G b = none → G1 b = none
theorem Gr.refl (e : Same G H) : Gr G H G H := ⟨Same.refl G, e, Same.refl H, fun _ _ h => h⟩
theorem Gr.trans (a : Gr G H G1 H1) (b : Gr G1 H1 G2 H2) : Gr G H G2 H2 :=
  ⟨a.gg.trans b.gg, b.gh, a.hh.trans b.hh, fun c n h => b.nw c (fun z => n (a.hh.free z)) (a.nw c n h)⟩
theorem Gr.new {p : Addr} {o : HO} (e : Same G H) (hp : H p = none) : Gr G H (upd G p o) (upd H p o) where
  gg := fun b u h => by rw [upd_ne (ne_of_none h (e.free hp))]; exact h
  gh := fun b u h => by
    by_cases hb : b = p
    · subst hb
      rw [upd_same] at h ⊢
      exact h
    · rw [upd_ne hb] at h ⊢
      exact e b u h
  hh := fun b u h => by rw [upd_ne (ne_of_none h hp)]; exact h
  nw := fun b n h => by rw [upd_ne (fun z => n (by rw [z]; exact hp))]; exact h
theorem OkS.up {ov : Option (Option V)} {s : Sl} (g : Gr G H G1 H1) (h : OkS W G H ov s) : OkS W G1 H1 ov s := by
  cases s with
  | no => exact h
  | d x =>
    obtain ⟨v, e, r⟩ := h
    exact ⟨v, e, r.up g.gg⟩
  | ol xs =>
    obtain ⟨l, vs, e, a, b, r⟩ := h
    exact ⟨l, vs, e, g.nw l (by rw [b]; exact fun z => nomatch z) a, g.hh _ _ b, r.up g.gg⟩
  | pl xs =>
    obtain ⟨l, vs, e, a, b, r⟩ := h
    exact ⟨l, vs, e, g.nw l (by rw [b]; exact fun z => nomatch z) a, g.hh _ _ b, r.up g.gg⟩
  | od kvs =>
    obtain ⟨l, vs, e, a, b, q, r⟩ := h
    exact ⟨l, vs, e, g.nw l (by rw [b]; exact fun z => nomatch z) a, g.hh _ _ b, q, r.up g.gg⟩
  | pd kvs =>
    obtain ⟨l, vs, e, a, b, q, r⟩ := h
    exact ⟨l, vs, e, g.nw l (by rw [b]; exact fun z => nomatch z) a, g.hh _ _ b, q, r.up g.gg⟩
theorem St.up (S : St W G H σ env) (g : Gr G H G1 H1) : St W G1 H1 σ env := ⟨g.gh, S.len, fun i s e => (S.ok i s e).up g, S.ds⟩
theorem Tr.up (S : St W G H σ env) (g : Gr G H G1 H1) : Tr σ env G H σ env G1 H1 :=
  ⟨g.gg, fun b o _ h => g.hh b o h, fun b _ => g.nw b, fun _ h => .inl h, fun b n z => n (g.hh.free z), fun i s e h => ⟨rfl, s, e, h⟩⟩
/-- a slot takes data -/
theorem St.set (S : St W G H σ env) {j : Nat} {v : V} {d : D} (r : Rp W G v d) : St W G H (σ.set j (some v)) (env.set j (.d d)) where
  gh := S.gh
  len := by rw [List.length_set, List.length_set]; exact S.len
  ok := fun i s e => by
    by_cases h : j = i
    · subst h
      by_cases hl : j < env.length
      · rw [List.getElem?_set_self hl] at e
        cases e
        exact ⟨v, by rw [List.getElem?_set_self (by rw [S.len]; exact hl)], r⟩
      · rw [List.getElem?_eq_none (by rw [List.length_set]; omega)] at e
        cases e
    · rw [List.getElem?_set_ne h] at e
      rw [List.getElem?_set_ne h]
      exact S.ok i s e
  ds := fun i k s t l e1 o1 v1 e2 o2 v2 => by
    have off : ∀ {m : Nat} {u : Sl}, (env.set j (.d d))[m]? = some u → u.owned = true → j ≠ m := fun {m u} e o z => by
      subst z
      by_cases hl : j < env.length
      · rw [List.getElem?_set_self hl] at e
        cases e
        cases o
      · rw [List.getElem?_eq_none (by rw [List.length_set]; omega)] at e
        cases e
    have h1 := off e1 o1
    have h2 := off e2 o2
    rw [List.getElem?_set_ne h1] at e1 v1
    rw [List.getElem?_set_ne h2] at e2 v2
    exact S.ds i k s t l e1 o1 v1 e2 o2 v2
theorem own_set {j : Nat} {v : V} {d : D} {b : Addr} (h : own (σ.set j (some v)) (env.set j (.d d)) b) : own σ env b := by
  obtain ⟨i, s, e, o, ev⟩ := h
  have hj : j ≠ i := fun z => by
    subst z
    by_cases hl : j < env.length
    · rw [List.getElem?_set_self hl] at e
      cases e
      cases o
    · rw [List.getElem?_eq_none (by rw [List.length_set]; omega)] at e
      cases e
  rw [List.getElem?_set_ne hj] at e ev
  exact ⟨i, s, e, o, ev⟩
/-- the slot j may be stored over -/
def Free (env : List Sl) (j : Nat) : Prop := ∀ s, env[j]? = some s → s.pinned = false
theorem Tr.set (S : St W G H σ env) {j : Nat} {v : V} {d : D} (hf : Free env j) : Tr σ env G H (σ.set j (some v)) (env.set j (.d d)) G H where
  gg := Same.refl G
  fr := fun _ _ _ h => h
  nw := fun _ _ _ h => h
  ow := fun b h => .inl (own_set h)
  kp := fun _ h => h
  pn := fun i s e h => by
    have hj : j ≠ i := fun z => by
      subst z
      rw [hf s e] at h
      cases h
    rw [List.getElem?_set_ne hj, List.getElem?_set_ne hj]
    exact ⟨rfl, s, e, h⟩
/-- slots of which nothing is told may hold anything -/
theorem St.reslot (S : St W G H σ env) (hl : σ1.length = σ.length) (h : ∀ (i : Nat) (s : Sl), env[i]? = some s → (s = .no ∨ σ1[i]? = σ[i]?)) : St W G H σ1 env where
  gh := S.gh
  len := by rw [hl]; exact S.len
  ok := fun i s e => by
    rcases h i s e with q | q
    · subst q
      exact trivial
    · rw [q]
      exact S.ok i s e
  ds := fun i k s t l e1 o1 v1 e2 o2 v2 => by
    have q1 : σ1[i]? = σ[i]? := by
      rcases h i s e1 with q | q
      · subst q
        cases o1
      · exact q
    have q2 : σ1[k]? = σ[k]? := by
      rcases h k t e2 with q | q
      · subst q
        cases o2
      · exact q
    rw [q1] at v1
    rw [q2] at v2
    exact S.ds i k s t l e1 o1 v1 e2 o2 v2
theorem own_reslot (h : ∀ (i : Nat) (s : Sl), env[i]? = some s → (s = .no ∨ σ1[i]? = σ[i]?)) {b : Addr} (q : own σ1 env b) : own σ env b := by
  obtain ⟨i, s, e, o, ev⟩ := q
  rcases h i s e with z | z
  · subst z
    cases o
  · rw [z] at ev
    exact ⟨i, s, e, o, ev⟩
end

/-! ### what is told of expressions, tests, arguments, statements -/
def Ev (W : Wd) (te : TE) (env : List Sl) (R : D → List Sl → Prop) : Prop :=
  ∀ (G H : Hp) (σ : L2.St), St W G H σ env → ∀ Q : VK, (∀ v d G' H' env', St W G' H' σ env' → Tr σ env G H σ env' G' H' → Rp W G' v d → R d env' → Q v H') → te σ H Q
def EvT (W : Wd) (tt : TT) (env : List Sl) (R : Bool → List Sl → Prop) : Prop :=
  ∀ (G H : Hp) (σ : L2.St), St W G H σ env → ∀ Q : Bool → Hp → Prop, (∀ b G' H' env', St W G' H' σ env' → Tr σ env G H σ env' G' H' → R b env' → Q b H') → tt σ H Q
def EvA (W : Wd) (ta : TA) (env : List Sl) (R : List D → List Sl → Prop) : Prop :=
  ∀ (G H : Hp) (σ : L2.St), St W G H σ env → ∀ Q : List V → Hp → Prop, (∀ vs ds G' H' env', St W G' H' σ env' → Tr σ env G H σ env' G' H' → RpAll W G' vs ds → R ds env' → Q vs H') → ta σ H Q
/-- J goes through the data ds, whatever is new in the meantime -/
structure IsW (W : Wd) (J : It) (G : Hp) (ds : List D) : Prop where
  go : ∀ i G' H', Same G G' → Same G' H' → i < ds.length → J.go i H'
  stop : ∀ G' H', Same G G' → Same G' H' → J.stop ds.length H'
  yld : ∀ i G' H' x H'' d, Same G G' → Same G' H' → ds[i]? = some d → J.yld i H' x H'' → ∃ G'', Gr G' H' G'' H'' ∧ Rp W G'' x d
theorem IsW.up {W : Wd} {J : It} {G G1 : Hp} {ds : List D} (e : Same G G1) (h : IsW W J G ds) : IsW W J G1 ds :=
  ⟨fun i G' H' a b => h.go i G' H' (e.trans a) b, fun G' H' a b => h.stop G' H' (e.trans a) b, fun i G' H' x H'' d a b => h.yld i G' H' x H'' d (e.trans a) b⟩
def EvI (W : Wd) (wi : TI) (env : List Sl) (R : List D → List Sl → Prop) : Prop :=
  ∀ (G H : Hp) (σ : L2.St), St W G H σ env → ∀ Q : It → Hp → Prop, (∀ J ds G' H' env', St W G' H' σ env' → Tr σ env G H σ env' G' H' → IsW W J G' ds → R ds env' → Q J H') → wi σ H Q
structure Post where
  nx : List Sl → Prop
  rt : D → List Sl → Prop
  bk : List Sl → Prop := fun _ => False
  ct : List Sl → Prop := fun _ => False
def Run (W : Wd) (ts : TS) (env : List Sl) (P : Post) : Prop :=
  ∀ (G H : Hp) (σ : L2.St) (E : Ends), St W G H σ env →
    (∀ G' H' σ' env', St W G' H' σ' env' → Tr σ env G H σ' env' G' H' → P.nx env' → E.nx σ' H') →
    (∀ v d G' H' σ' env', St W G' H' σ' env' → Tr σ env G H σ' env' G' H' → Rp W G' v d → P.rt d env' → E.rt v H') →
    (∀ G' H' σ' env', St W G' H' σ' env' → Tr σ env G H σ' env' G' H' → P.bk env' → E.bk σ' H') →
    (∀ G' H' σ' env', St W G' H' σ' env' → Tr σ env G H σ' env' G' H' → P.ct env' → E.ct σ' H') → ts E σ H
/-- a target takes data -/
def Tg (W : Wd) (g : TG) (d : D) (env : List Sl) (R : List Sl → Prop) : Prop :=
  ∀ (G H : Hp) (σ : L2.St) (v : V), St W G H σ env → Rp W G v d → ∀ Q : L2.St → Hp → Prop,
    (∀ G' H' σ' env', St W G' H' σ' env' → Tr σ env G H σ' env' G' H' → R env' → Q σ' H') → g v σ H Q

section
variable {W : Wd} {env : List Sl} {ta tb te tx : TE} {t u : TT} {R : D → List Sl → Prop}

theorem Ev.mono {R' : D → List Sl → Prop} (h : Ev W te env R) (k : ∀ d e, R d e → R' d e) : Ev W te env R' := fun G H σ S Q q =>
  h G H σ S Q fun v d G' H' env' S' T r z => q v d G' H' env' S' T r (k d env' z)

/-! #### names, constants -/
theorem ev_var {i : Nat} {x : D} (h : env[i]? = some (.d x)) (k : R x env) : Ev W (tVar i) env R := fun G H σ S Q q => by
  obtain ⟨v, e, r⟩ := S.ok i _ h
  exact ⟨v, e, q v x G H env S (Tr.refl S) r k⟩
theorem ev_c {v : V} {x : D} (h : ∀ G, Rp W G v x) (k : R x env) : Ev W (tC v) env R := fun G H σ S Q q => q v x G H env S (Tr.refl S) (h G) k
theorem ev_int {i : Int} (k : R (.int i) env) : Ev W (tC (.int i)) env R := ev_c (fun _ => .int i) k
theorem ev_str {x : Str} (k : R (.str x) env) : Ev W (tC (.str x)) env R := ev_c (fun _ => .str x) k
theorem ev_bl {b : Bool} (k : R (.bl b) env) : Ev W (tC (.bl b)) env R := ev_c (fun _ => .bl b) k
theorem ev_non (k : R .non env) : Ev W (tC .non) env R := ev_c (fun _ => .non) k

/-! #### operators by data -/
/-- r does on values what o does on data -/
def OpD (W : Wd) (r : R2) (o : D → D → Option D) : Prop :=
  ∀ (G H : Hp) (x y : V) (dx dy dz : D), Same G H → Rp W G x dx → Rp W G y dy → o dx dy = some dz → ∀ Q : VK, (∀ v G' H', Gr G H G' H' → Rp W G' v dz → Q v H') → r x y H Q
theorem ev_op {r : R2} {o : D → D → Option D} (ho : OpD W r o) (h : Ev W ta env fun x e1 => Ev W tb e1 fun y e2 => ∃ z, o x y = some z ∧ R z e2) : Ev W (tOp r ta tb) env R := fun G H σ S Q q =>
  h G H σ S _ fun x dx G1 H1 e1 S1 T1 r1 h1 => h1 G1 H1 σ S1 _ fun y dy G2 H2 e2 S2 T2 r2 ⟨z, hz, k⟩ =>
    ho G2 H2 x y dx dy z S2.gh (r1.up T2.gg) r2 hz Q fun v G3 H3 g r3 => q v z G3 H3 e2 (S2.up g) ((T1.trans S T2).trans S (Tr.up S2 g)) r3 k
def UnD (W : Wd) (r : V → Hp → VK → Prop) (o : D → Option D) : Prop :=
  ∀ (G H : Hp) (x : V) (dx dz : D), Same G H → Rp W G x dx → o dx = some dz → ∀ Q : VK, (∀ v G' H', Gr G H G' H' → Rp W G' v dz → Q v H') → r x H Q
theorem ev_un {r : V → Hp → VK → Prop} {o : D → Option D} (ho : UnD W r o) (h : Ev W ta env fun x e1 => ∃ z, o x = some z ∧ R z e1) : Ev W (tUn r ta) env R := fun G H σ S Q q =>
  h G H σ S _ fun x dx G1 H1 e1 S1 T1 r1 ⟨z, hz, k⟩ => ho G1 H1 x dx z S1.gh r1 hz Q fun v G3 H3 g r3 => q v z G3 H3 e1 (S1.up g) (T1.trans S (Tr.up S1 g)) r3 k

/-! #### arguments, displays, built-ins -/
theorem ea_nil {R : List D → List Sl → Prop} (k : R [] env) : EvA W tNil env R := fun G H σ S Q q => q [] [] G H env S (Tr.refl S) .nil k
theorem ea_cons {tr : TA} {R : List D → List Sl → Prop} (h : Ev W ta env fun x e1 => EvA W tr e1 fun xs e2 => R (x :: xs) e2) : EvA W (tCons ta tr) env R := fun G H σ S Q q =>
  h G H σ S _ fun x dx G1 H1 e1 S1 T1 r1 h1 => h1 G1 H1 σ S1 _ fun ys dys G2 H2 e2 S2 T2 r2 k => q _ _ G2 H2 e2 S2 (T1.trans S T2) (.cons (r1.up T2.gg) r2) k
def CallD (W : Wd) (r : List V → Hp → VK → Prop) (o : List D → Option D) : Prop :=
  ∀ (G H : Hp) (xs : List V) (ds : List D) (dz : D), Same G H → RpAll W G xs ds → o ds = some dz → ∀ Q : VK, (∀ v G' H', Gr G H G' H' → Rp W G' v dz → Q v H') → r xs H Q
theorem ev_cb {r : List V → Hp → VK → Prop} {tr : TA} {o : List D → Option D} (ho : CallD W r o) (h : EvA W tr env fun xs e1 => ∃ z, o xs = some z ∧ R z e1) : Ev W (tCB r tr) env R := fun G H σ S Q q =>
  h G H σ S _ fun xs ds G1 H1 e1 S1 T1 r1 ⟨z, hz, k⟩ => ho G1 H1 xs ds z S1.gh r1 hz Q fun v G3 H3 g r3 => q v z G3 H3 e1 (S1.up g) (T1.trans S (Tr.up S1 g)) r3 k
theorem ev_tup {tr : TA} (h : EvA W tr env fun xs e1 => xs.length ≤ sizeLine ∧ R (.tup xs) e1) : Ev W (tTup tr) env R := fun G H σ S Q q =>
  h G H σ S _ fun xs ds G1 H1 e1 S1 T1 r1 ⟨hz, k⟩ => ⟨by rw [r1.length]; exact hz, fun p hp => by
    have g : Gr G1 H1 (upd G1 p (.tup xs)) (upd H1 p (.tup xs)) := Gr.new S1.gh hp
    exact q (.ref p) _ _ _ e1 (S1.up g) (T1.trans S (Tr.up S1 g)) (.tup (.inl (.inl upd_same)) (r1.up g.gg)) k⟩
theorem ev_lst {tr : TA} (h : EvA W tr env fun xs e1 => xs.length ≤ sizeLine ∧ R (.lst xs) e1) : Ev W (tLst tr) env R := fun G H σ S Q q =>
  h G H σ S _ fun xs ds G1 H1 e1 S1 T1 r1 ⟨hz, k⟩ => ⟨by rw [r1.length]; exact hz, fun p hp => by
    have g : Gr G1 H1 (upd G1 p (.lst xs)) (upd H1 p (.lst xs)) := Gr.new S1.gh hp
    exact q (.ref p) _ _ _ e1 (S1.up g) (T1.trans S (Tr.up S1 g)) (.lst upd_same (r1.up g.gg)) k⟩

/-! #### tests -/
theorem et_test {R : Bool → List Sl → Prop} (h : Ev W te env fun d e1 => ∃ b, d = .bl b ∧ R b e1) : EvT W (tTest te) env R := fun G H σ S Q q =>
  h G H σ S _ fun v d G1 H1 e1 S1 T1 r1 ⟨b, e, k⟩ => by
    subst e
    exact ⟨b, r1.bl_inv, q b G1 H1 e1 S1 T1 k⟩
theorem et_B {R : Bool → List Sl → Prop} (h : Ev W te env fun d e1 => ∃ b, d = .bl b ∧ R b e1) : EvT W (tB te) env R := fun G H σ S Q q =>
  h G H σ S _ fun v d G1 H1 e1 S1 T1 r1 ⟨b, e, k⟩ => by
    subst e
    exact ⟨b, r1.bl_inv, q b G1 H1 e1 S1 T1 k⟩
theorem et_not {R : Bool → List Sl → Prop} (h : EvT W t env fun b e1 => R (!b) e1) : EvT W (tNot t) env R := fun G H σ S Q q =>
  h G H σ S _ fun b G1 H1 e1 S1 T1 k => q (!b) G1 H1 e1 S1 T1 k
theorem et_and {R : Bool → List Sl → Prop} (h : EvT W t env fun b e1 => if b = true then EvT W u e1 R else R false e1) : EvT W (tAnd t u) env R := fun G H σ S Q q =>
  h G H σ S _ fun b G1 H1 e1 S1 T1 k => by
    cases b with
    | true =>
      have k : EvT W u e1 R := k
      show u σ H1 Q
      exact k G1 H1 σ S1 Q fun b G2 H2 e2 S2 T2 k2 => q b G2 H2 e2 S2 (T1.trans S T2) k2
    | false =>
      have k : R false e1 := k
      show Q false H1
      exact q false G1 H1 e1 S1 T1 k
theorem et_or {R : Bool → List Sl → Prop} (h : EvT W t env fun b e1 => if b = true then R true e1 else EvT W u e1 R) : EvT W (tOr t u) env R := fun G H σ S Q q =>
  h G H σ S _ fun b G1 H1 e1 S1 T1 k => by
    cases b with
    | true =>
      have k : R true e1 := k
      show Q true H1
      exact q true G1 H1 e1 S1 T1 k
    | false =>
      have k : EvT W u e1 R := k
      show u σ H1 Q
      exact k G1 H1 σ S1 Q fun b G2 H2 e2 S2 T2 k2 => q b G2 H2 e2 S2 (T1.trans S T2) k2
theorem ev_if (h : EvT W t env fun b e1 => if b = true then Ev W ta e1 R else Ev W tb e1 R) : Ev W (tIf t ta tb) env R := fun G H σ S Q q =>
  h G H σ S _ fun b G1 H1 e1 S1 T1 k => by
    cases b with
    | true =>
      have k : Ev W ta e1 R := k
      show ta σ H1 Q
      exact k G1 H1 σ S1 Q fun v d G2 H2 e2 S2 T2 r k2 => q v d G2 H2 e2 S2 (T1.trans S T2) r k2
    | false =>
      have k : Ev W tb e1 R := k
      show tb σ H1 Q
      exact k G1 H1 σ S1 Q fun v d G2 H2 e2 S2 T2 r k2 => q v d G2 H2 e2 S2 (T1.trans S T2) r k2
/-- and, or, not of bools as values -/
theorem ev_andV (h : Ev W ta env fun x e1 => ∃ b, x = .bl b ∧ if b = true then Ev W tb e1 R else R (.bl false) e1) : Ev W (tAndV ta tb) env R := fun G H σ S Q q =>
  h G H σ S _ fun v d G1 H1 e1 S1 T1 r1 ⟨b, e, k⟩ => by
    subst e
    refine ⟨b, r1.bl_inv, ?_⟩
    cases b with
    | true =>
      have k : Ev W tb e1 R := k
      show tb σ H1 Q
      exact k G1 H1 σ S1 Q fun v d G2 H2 e2 S2 T2 r k2 => q v d G2 H2 e2 S2 (T1.trans S T2) r k2
    | false =>
      have k : R (.bl false) e1 := k
      show Q (.bl false) H1
      exact q _ _ G1 H1 e1 S1 T1 (.bl false) k
theorem ev_orV (h : Ev W ta env fun x e1 => ∃ b, x = .bl b ∧ if b = true then R (.bl true) e1 else Ev W tb e1 R) : Ev W (tOrV ta tb) env R := fun G H σ S Q q =>
  h G H σ S _ fun v d G1 H1 e1 S1 T1 r1 ⟨b, e, k⟩ => by
    subst e
    refine ⟨b, r1.bl_inv, ?_⟩
    cases b with
    | false =>
      have k : Ev W tb e1 R := k
      show tb σ H1 Q
      exact k G1 H1 σ S1 Q fun v d G2 H2 e2 S2 T2 r k2 => q v d G2 H2 e2 S2 (T1.trans S T2) r k2
    | true =>
      have k : R (.bl true) e1 := k
      show Q (.bl true) H1
      exact q _ _ G1 H1 e1 S1 T1 (.bl true) k
theorem ev_notV (h : Ev W ta env fun x e1 => ∃ b, x = .bl b ∧ R (.bl (!b)) e1) : Ev W (tNotV ta) env R := fun G H σ S Q q =>
  h G H σ S _ fun v d G1 H1 e1 S1 T1 r1 ⟨b, e, k⟩ => by
    subst e
    exact ⟨b, r1.bl_inv, q _ _ G1 H1 e1 S1 T1 (.bl _) k⟩

/-! #### statements -/
variable {P : Post} {t1 t2 : TS}
theorem run_seq (h : Run W t1 env { P with nx := fun e1 => Run W t2 e1 P }) : Run W (tSeq t1 t2) env P := fun G H σ E S n r b c =>
  h G H σ { E with nx := t2 E } S
    (fun G1 H1 σ1 e1 S1 T1 k => k G1 H1 σ1 E S1 (fun G2 H2 σ2 e2 S2 T2 z => n G2 H2 σ2 e2 S2 (T1.trans S T2) z) (fun v d G2 H2 σ2 e2 S2 T2 q z => r v d G2 H2 σ2 e2 S2 (T1.trans S T2) q z)
      (fun G2 H2 σ2 e2 S2 T2 z => b G2 H2 σ2 e2 S2 (T1.trans S T2) z) (fun G2 H2 σ2 e2 S2 T2 z => c G2 H2 σ2 e2 S2 (T1.trans S T2) z)) r b c
theorem run_next (k : P.nx env) : Run W tNext env P := fun G H σ E S n r b c => n G H σ env S (Tr.refl S) k
theorem run_brk (k : P.bk env) : Run W tBreak env P := fun G H σ E S n r b c => b G H σ env S (Tr.refl S) k
theorem run_cont (k : P.ct env) : Run W tCont env P := fun G H σ E S n r b c => c G H σ env S (Tr.refl S) k
theorem run_ret (h : Ev W te env P.rt) : Run W (tRet te) env P := fun G H σ E S n r b c => h G H σ S _ fun v d G1 H1 e1 S1 T1 q k => r v d G1 H1 σ e1 S1 T1 q k
theorem run_retN (k : P.rt .non env) : Run W tRetN env P := fun G H σ E S n r b c => r .non .non G H σ env S (Tr.refl S) .non k
theorem run_drop (h : Ev W te env fun _ e1 => P.nx e1) : Run W (tDrop te) env P := fun G H σ E S n r b c => h G H σ S _ fun v d G1 H1 e1 S1 T1 q k => n G1 H1 σ e1 S1 T1 k
theorem run_if (h : EvT W t env fun b e1 => if b = true then Run W t1 e1 P else Run W t2 e1 P) : Run W (tIfS t t1 t2) env P := fun G H σ E S n r b c =>
  h G H σ S _ fun x G1 H1 e1 S1 T1 k => by
    have go : ∀ {tz : TS}, Run W tz e1 P → tz E σ H1 := fun {tz} k => k G1 H1 σ E S1 (fun G2 H2 σ2 e2 S2 T2 z => n G2 H2 σ2 e2 S2 (T1.trans S T2) z) (fun v d G2 H2 σ2 e2 S2 T2 q z => r v d G2 H2 σ2 e2 S2 (T1.trans S T2) q z)
      (fun G2 H2 σ2 e2 S2 T2 z => b G2 H2 σ2 e2 S2 (T1.trans S T2) z) (fun G2 H2 σ2 e2 S2 T2 z => c G2 H2 σ2 e2 S2 (T1.trans S T2) z)
    cases x with
    | true => exact go k
    | false => exact go k
theorem tg_name {j : Nat} {d : D} {R : List Sl → Prop} (hf : Free env j) (k : R (env.set j (.d d))) : Tg W (gName j) d env R := fun G H σ v S r Q q =>
  q G H _ _ (S.set r) (Tr.set S hf) k
theorem run_asg {g : TG} (h : Ev W te env fun d e1 => Tg W g d e1 P.nx) : Run W (tAsg te g) env P := fun G H σ E S n r b c =>
  h G H σ S _ fun v d G1 H1 e1 S1 T1 q k => k G1 H1 σ v S1 q _ fun G2 H2 σ2 e2 S2 T2 z => n G2 H2 σ2 e2 S2 (T1.trans S T2) z
/-- name = e -/
theorem run_set {j : Nat} (h : Ev W te env fun d e1 => Free e1 j ∧ P.nx (e1.set j (.d d))) : Run W (tAsg te (gName j)) env P := run_asg (h.mono fun d e1 k => tg_name k.1 k.2)
end
end Nv

set_option Elab.async false
set_option linter.all false
set_option maxRecDepth 100000
set_option maxHeartbeats 4000000
/-! NvL: loops, comprehensions, lists and dicts of one's own, calls of defs that are told by data. -/
namespace Nv
open PySem L2 PyProof.Rows PySem.Spec

section
variable {W : Wd} {G H G1 H1 G2 H2 : Hp} {σ σ1 σ2 : L2.St} {env env1 env2 : List Sl}
theorem own_no {j : Nat} (hj : env[j]? = some .no) {x : Option V} {b : Addr} : own (σ.set j x) env b ↔ own σ env b := by
  have off : ∀ {i : Nat} {s : Sl}, env[i]? = some s → s.owned = true → j ≠ i := fun {i s} e o z => by
    subst z
    rw [hj] at e
    cases e
    cases o
  constructor
  · rintro ⟨i, s, e, o, v⟩
    rw [List.getElem?_set_ne (off e o)] at v
    exact ⟨i, s, e, o, v⟩
  · rintro ⟨i, s, e, o, v⟩
    exact ⟨i, s, e, o, by rw [List.getElem?_set_ne (off e o)]; exact v⟩
/-- an address that is nobody's changes, or becomes known -/
theorem St.mut (S : St W G H σ env) {p : Addr} {o : HO} (hg : G p = none) (ho : ¬ own σ env p) : St W G (upd H p o) σ env where
  gh := fun b u h => by
    rw [upd_ne (ne_of_none h hg)]
    exact S.gh b u h
  len := S.len
  ok := fun i s e => by
    have q := S.ok i s e
    have off : ∀ l, σ[i]? = some (some (.ref l)) → s.owned = true → l ≠ p := fun l e1 e2 z => ho (by subst z; exact ⟨i, s, e, e2, e1⟩)
    cases s with
    | no => exact trivial
    | d x => exact q
    | ol xs =>
      obtain ⟨l, vs, e1, a, b, r⟩ := q
      exact ⟨l, vs, e1, a, by rw [upd_ne (off l e1 rfl)]; exact b, r⟩
    | pl xs =>
      obtain ⟨l, vs, e1, a, b, r⟩ := q
      exact ⟨l, vs, e1, a, by rw [upd_ne (off l e1 rfl)]; exact b, r⟩
    | od kvs =>
      obtain ⟨l, vs, e1, a, b, r⟩ := q
      exact ⟨l, vs, e1, a, by rw [upd_ne (off l e1 rfl)]; exact b, r⟩
    | pd kvs =>
      obtain ⟨l, vs, e1, a, b, r⟩ := q
      exact ⟨l, vs, e1, a, by rw [upd_ne (off l e1 rfl)]; exact b, r⟩
  ds := S.ds
theorem St.freeze (S : St W G H σ env) {p : Addr} {o : HO} (hh : H p = some o) (hg : G p = none) (ho : ¬ own σ env p) : St W (upd G p o) H σ env where
  gh := fun b u h => by
    by_cases z : b = p
    · subst z
      rw [upd_same] at h
      rw [← h]
      exact hh
    · rw [upd_ne z] at h
      exact S.gh b u h
  len := S.len
  ok := fun i s e => by
    have q := S.ok i s e
    have gg : Same G (upd G p o) := fun b u h => by
      rw [upd_ne (ne_of_none h hg)]
      exact h
    have off : ∀ l, σ[i]? = some (some (.ref l)) → s.owned = true → G l = none → upd G p o l = none := fun l e1 e2 z => by
      rw [upd_ne (fun y => ho (by subst y; exact ⟨i, s, e, e2, e1⟩))]
      exact z
    cases s with
    | no => exact trivial
    | d x =>
      obtain ⟨v, e1, r⟩ := q
      exact ⟨v, e1, r.up gg⟩
    | ol xs =>
      obtain ⟨l, vs, e1, a, b, r⟩ := q
      exact ⟨l, vs, e1, off l e1 rfl a, b, r.up gg⟩
    | pl xs =>
      obtain ⟨l, vs, e1, a, b, r⟩ := q
      exact ⟨l, vs, e1, off l e1 rfl a, b, r.up gg⟩
    | od kvs =>
      obtain ⟨l, vs, e1, a, b, q, r⟩ := q
      exact ⟨l, vs, e1, off l e1 rfl a, b, q, r.up gg⟩
    | pd kvs =>
      obtain ⟨l, vs, e1, a, b, q, r⟩ := q
      exact ⟨l, vs, e1, off l e1 rfl a, b, q, r.up gg⟩
  ds := S.ds
/-- the same between two states in which nothing is told of the slot j -/
theorem Tr.off {j : Nat} {x : Option V} (S : St W G H σ env) (hj : env[j]? = some .no) (hj1 : env1[j]? = some .no) (T : Tr (σ.set j x) env G H (σ1.set j x) env1 G1 H1) (hs : ∀ i, i ≠ j → σ1[i]? = σ[i]?) : Tr σ env G H σ1 env1 G1 H1 where
  gg := T.gg
  fr := fun b o n h => T.fr b o (fun z => n ((own_no hj).mp z)) h
  nw := fun b m => T.nw b fun z => m ((own_no hj).mp z)
  ow := fun b h => (T.ow b ((own_no hj1).mpr h)).imp (fun z => (own_no hj).mp z) id
  kp := T.kp
  pn := fun i s e h => by
    have ne : i ≠ j := fun z => by
      subst z
      rw [hj] at e
      cases e
      cases h
    exact ⟨hs i ne, (T.pn i s e h).2⟩

/-- something that was not there ahead has come, has changed, has become known -/
theorem Tr.late (T : Tr σ env G H σ1 env1 G1 H1) {p : Addr} {o : HO} (hp : H p = none) : Tr σ env G H σ1 env1 G1 (upd H1 p o) where
  gg := T.gg
  fr := fun b u n h => by
    rw [upd_ne (ne_of_none h hp)]
    exact T.fr b u n h
  nw := T.nw
  ow := T.ow
  kp := fun b n => by
    rw [upd_ne (fun z => n (by rw [z]; exact hp))]
    exact T.kp b n
  pn := T.pn
theorem Tr.told (S : St W G H σ env) (T : Tr σ env G H σ1 env1 G1 H1) {p : Addr} {o : HO} (hp : H p = none) : Tr σ env G H σ1 env1 (upd G1 p o) H1 where
  gg := fun b u h => by
    rw [upd_ne (ne_of_none (S.gh b u h) hp)]
    exact T.gg b u h
  fr := T.fr
  nw := fun b m n h => by
    rw [upd_ne (fun z => n (by rw [z]; exact hp))]
    exact T.nw b m n h
  ow := T.ow
  kp := T.kp
  pn := T.pn
end

/-- te makes a new list, that nobody has yet -/
def EvF (W : Wd) (te : TE) (env : List Sl) (R : List D → List Sl → Prop) : Prop :=
  ∀ (G H : Hp) (σ : L2.St), St W G H σ env → ∀ Q : VK, (∀ p vs ds G' H' env', St W G' H' σ env' → Tr σ env G H σ env' G' H' → H p = none → H' p = some (.lst vs) → G' p = none → ¬ own σ env' p → RpAll W G' vs ds → R ds env' → Q (.ref p) H') → te σ H Q
theorem ev_f {W : Wd} {te : TE} {env : List Sl} {R : D → List Sl → Prop} (h : EvF W te env fun ds e1 => R (.lst ds) e1) : Ev W te env R := fun G H σ S Q q =>
  h G H σ S Q fun p vs ds G1 H1 e1 S1 T1 h0 h1 g1 no r k => by
    have gg : Same G1 (upd G1 p (.lst vs)) := fun b u z => by
      rw [upd_ne (ne_of_none z g1)]
      exact z
    exact q (.ref p) (.lst ds) (upd G1 p (.lst vs)) H1 e1 (S1.freeze h1 g1 no) (T1.told S h0) (.lst upd_same (r.up gg)) k
theorem evf_lst {W : Wd} {tr : TA} {env : List Sl} {R : List D → List Sl → Prop} (h : EvA W tr env fun xs e1 => xs.length ≤ sizeLine ∧ R xs e1) : EvF W (tLst tr) env R := fun G H σ S Q q =>
  h G H σ S _ fun xs ds G1 H1 e1 S1 T1 r1 ⟨hz, k⟩ => ⟨by rw [r1.length]; exact hz, fun p hp => by
    have no : ¬ own σ e1 p := fun z => by
      obtain ⟨_, o, ho⟩ := S1.own_at z
      rw [hp] at ho
      cases ho
    have h0 : H p = none := by
      cases z : H p with
      | none => rfl
      | some o => exact absurd hp (T1.kp p (by rw [z]; exact fun y => nomatch y))
    exact q p xs ds G1 _ e1 (S1.mut (S1.gh.free hp) no) (T1.late h0) h0 upd_same (S1.gh.free hp) no r1 k⟩

/-! ### for -/
def ForR (W : Wd) (g : TG) (tb : TS) (P : Post) : List D → List Sl → Prop
  | [], env => P.nx env
  | d :: ds, env => Tg W g d env fun e1 => Run W tb e1 { nx := ForR W g tb P ds, rt := P.rt, bk := P.nx, ct := ForR W g tb P ds }
theorem run_for {W : Wd} {wi : TI} {g : TG} {tb : TS} {env : List Sl} {P : Post} (h : EvI W wi env fun ds e1 => ForR W g tb P ds e1) : Run W (tFor wi g tb) env P := fun G H σ E S n r b c => by
  refine h G H σ S _ fun J ds G1 H1 e1 S1 T1 hw k => ?_
  let I : Nat → L2.St → Hp → Prop := fun i σ2 H2 => i ≤ ds.length ∧ ∃ G2 e2, St W G2 H2 σ2 e2 ∧ Tr σ e1 G1 H1 σ2 e2 G2 H2 ∧ ForR W g tb P (ds.drop i) e2
  refine ⟨fun i m σ2 H2 => m = ds.length - i ∧ I i σ2 H2, ⟨ds.length, by simp, Nat.zero_le _, G1, e1, S1, Tr.refl S1, k⟩, ?_⟩
  rintro i m σ2 H2 ⟨rfl, hi, G2, e2, S2, T2, k2⟩
  by_cases hlt : i < ds.length
  · refine .inr ⟨hw.go i G2 H2 T2.gg S2.gh hlt, I (i + 1), fun σ3 H3 q => ⟨ds.length - (i + 1), by omega, rfl, q⟩, fun x H3 y => ?_⟩
    obtain ⟨G3, g3, r3⟩ := hw.yld i G2 H2 x H3 ds[i] T2.gg S2.gh (by simp [hlt]) y
    have e : ds.drop i = ds[i] :: ds.drop (i + 1) := by simp [hlt]
    rw [e] at k2
    have k2 : Tg W g ds[i] e2 _ := k2
    have T3 := Tr.up S2 g3
    have S3 := S2.up g3
    refine k2 G3 H3 σ2 x S3 r3 _ fun G4 H4 σ4 e4 S4 T4 k4 => ?_
    have T4' := (T2.trans S1 T3).trans S1 T4
    refine k4 G4 H4 σ4 _ S4 (fun G5 H5 σ5 e5 S5 T5 k5 => ⟨hlt, G5, e5, S5, T4'.trans S1 T5, k5⟩) (fun v d G5 H5 σ5 e5 S5 T5 r5 k5 => ?_) (fun G5 H5 σ5 e5 S5 T5 k5 => ?_) fun G5 H5 σ5 e5 S5 T5 k5 => ⟨hlt, G5, e5, S5, T4'.trans S1 T5, k5⟩
    · exact r v d G5 H5 σ5 e5 S5 (T1.trans S (T4'.trans S1 T5)) r5 k5
    · exact n G5 H5 σ5 e5 S5 (T1.trans S (T4'.trans S1 T5)) k5
  · have e : i = ds.length := by omega
    subst e
    rw [List.drop_length] at k2
    exact .inl ⟨hw.stop G2 H2 T2.gg S2.gh, n G2 H2 σ2 e2 S2 (T1.trans S T2) k2⟩

/-! ### while: a word over the slots, and a number that falls -/
theorem run_while {W : Wd} {t : TT} {tb : TS} {env : List Sl} {P : Post} (I : Nat → List Sl → Prop) (m0 : Nat) (h0 : I m0 env)
    (hs : ∀ m e, I m e → EvT W t e fun b e1 => if b = true then Run W tb e1 { nx := fun e2 => ∃ m', m' < m ∧ I m' e2, rt := P.rt, bk := P.nx, ct := fun e2 => ∃ m', m' < m ∧ I m' e2 } else P.nx e1) : Run W (tWhile t tb) env P := fun G H σ E S n r b c => by
  refine ⟨fun m σ2 H2 => ∃ G2 e2, St W G2 H2 σ2 e2 ∧ Tr σ env G H σ2 e2 G2 H2 ∧ I m e2, ⟨m0, G, env, S, Tr.refl S, h0⟩, ?_⟩
  rintro m σ2 H2 ⟨G2, e2, S2, T2, k2⟩
  refine hs m e2 k2 G2 H2 σ2 S2 _ fun x G3 H3 e3 S3 T3 k3 => ?_
  have T3' := T2.trans S T3
  cases x with
  | false => exact n G3 H3 σ2 e3 S3 T3' k3
  | true =>
    have k3 : Run W tb e3 _ := k3
    refine ⟨fun σ4 H4 => ∃ m', m' < m ∧ ∃ G4 e4, St W G4 H4 σ4 e4 ∧ Tr σ env G H σ4 e4 G4 H4 ∧ I m' e4, fun σ4 H4 q => q, ?_⟩
    refine k3 G3 H3 σ2 _ S3 (fun G5 H5 σ5 e5 S5 T5 k5 => ?_) (fun v d G5 H5 σ5 e5 S5 T5 r5 k5 => r v d G5 H5 σ5 e5 S5 (T3'.trans S T5) r5 k5) (fun G5 H5 σ5 e5 S5 T5 k5 => n G5 H5 σ5 e5 S5 (T3'.trans S T5) k5) (fun G5 H5 σ5 e5 S5 T5 k5 => ?_)
    all_goals
      obtain ⟨m', hm, k5⟩ := k5
      exact ⟨m', hm, G5, e5, S5, T3'.trans S T5, k5⟩

/-! ### a comprehension with one for, its name in the slot j -/
def CmpR (W : Wd) (j : Nat) (tt : TT) (te : TE) (R : List D → List Sl → Prop) : List D → List D → List Sl → Prop
  | [], acc, env => R acc env
  | d :: ds, acc, env => EvT W tt (env.set j (.d d)) fun b e1 =>
    if b = true then Ev W te e1 fun y e2 => acc.length < sizeLine ∧ CmpR W j tt te R ds (acc ++ [y]) (e2.set j .no) else CmpR W j tt te R ds acc (e1.set j .no)
theorem evf_lc {W : Wd} {wi : TI} {tt : TT} {te : TE} {j : Nat} {env : List Sl} {R : List D → List Sl → Prop} (h : EvI W wi env fun ds e1 => e1[j]? = some .no ∧ CmpR W j tt te R ds [] e1) : EvF W (tLc wi (gName j) tt te [j]) env R := fun G H σ S Q q => by
  refine h G H σ S _ fun J ds G1 H1 e1 S1 T1 hw ⟨hj, k⟩ => fun A hA => ?_
  have jl : j < e1.length := (List.getElem?_eq_some_iff.mp hj).1
  -- the new list at A, nobody's
  have nA : ∀ l, own σ e1 l → l ≠ A := fun l hl z => by
    obtain ⟨_, o, ho⟩ := S1.own_at hl
    rw [z, hA] at ho
    cases ho
  have g0 : ∀ b o, G1 b = some o → b ≠ A := fun b o hb => ne_of_none (S1.gh b o hb) hA
  have gA : G1 A = none := S1.gh.free hA
  let I : Nat → Hp → Prop := fun i H2 => i ≤ ds.length ∧ ∃ G2 e2 acc av, St W G2 H2 (σ.set j none) e2 ∧ Tr σ e1 G1 H1 σ e2 G2 H2 ∧ e2[j]? = some .no ∧ H2 A = some (.lst av) ∧ G2 A = none ∧ RpAll W G2 av acc ∧ (∀ l, own σ e2 l → l ≠ A) ∧ CmpR W j tt te R (ds.drop i) acc e2
  have S1' : St W G1 (upd H1 A (.lst [])) σ e1 := S1.mut gA fun z => nA A z rfl
  have clr : ∀ {G2 H2 : Hp} {e2 : List Sl} {x : Option V}, e2[j]? = some .no → St W G2 H2 σ e2 → St W G2 H2 (σ.set j x) e2 := fun {G2 H2 e2 x} hz S2 => S2.reslot (by rw [List.length_set]) fun i s e => by
    by_cases z : j = i
    · subst z
      rw [hz] at e
      cases e
      exact .inl rfl
    · exact .inr (List.getElem?_set_ne z)
  have unclr : ∀ {G2 H2 : Hp} {e2 : List Sl} {x : Option V}, e2[j]? = some .no → St W G2 H2 (σ.set j x) e2 → St W G2 H2 σ e2 := fun {G2 H2 e2 x} hz S2 => S2.reslot (by rw [List.length_set]) fun i s e => by
    by_cases z : j = i
    · subst z
      rw [hz] at e
      cases e
      exact .inl rfl
    · exact .inr (List.getElem?_set_ne z).symm
  refine ⟨fun i m H2 => m = ds.length - i ∧ I i H2, ⟨ds.length, by simp, Nat.zero_le _, G1, e1, [], [], clr hj S1', (Tr.refl S1).late hA, hj, upd_same, gA, .nil, nA, k⟩, ?_⟩
  rintro i m H2 ⟨rfl, hi, G2, e2, acc, av, S2, T2, hj2, hA2, gA2, ra, nO, k2⟩
  have nA2 : ¬ own σ e2 A := fun z => by
    obtain ⟨_, o, ho⟩ := (unclr hj2 S2).own_at z
    obtain ⟨i0, s0, a0, b0, c0⟩ := z
    exact nO A ⟨i0, s0, a0, b0, c0⟩ rfl
  by_cases hlt : i < ds.length
  · refine .inr ⟨hw.go i G2 H2 T2.gg S2.gh hlt, I (i + 1), fun H3 z => ⟨ds.length - (i + 1), by omega, rfl, z⟩, fun x H3 y => ?_⟩
    obtain ⟨G3, g3, r3⟩ := hw.yld i G2 H2 x H3 ds[i] T2.gg S2.gh (by simp [hlt]) y
    have e : ds.drop i = ds[i] :: ds.drop (i + 1) := by simp [hlt]
    rw [e] at k2
    have k2 : EvT W tt (e2.set j (.d ds[i])) _ := k2
    have jl2 : j < e2.length := (List.getElem?_eq_some_iff.mp hj2).1
    have hA3 : H3 A = some (.lst av) := g3.hh _ _ hA2
    have gA3 : G3 A = none := g3.nw A (by rw [hA2]; exact fun z => nomatch z) gA2
    have S3 : St W G3 H3 ((σ.set j none).set j (some x)) (e2.set j (.d ds[i])) := (S2.up g3).set r3
    rw [List.set_set] at S3
    have T3 : Tr σ e1 G1 H1 σ e2 G3 H3 := T2.trans S1 (Tr.up (unclr hj2 S2) g3)
    show (fun σ2 H2 => wipe σ2 [j] = wipe σ [j] ∧ _) ((σ.set j none).set j (some x)) H3
    refine ⟨by show ((σ.set j none).set j (some x)).set j none = σ.set j none; rw [List.set_set, List.set_set], ?_⟩
    show tt ((σ.set j none).set j (some x)) H3 fun b H3 => if b = true then te ((σ.set j none).set j (some x)) H3 fun y H4 => ∃ acc, H4 A = some (.lst acc) ∧ acc.length < sizeLine ∧ I (i + 1) (upd H4 A (.lst (acc ++ [y]))) else I (i + 1) H3
    rw [List.set_set]
    -- what the element leaves
    have back : ∀ {G5 H5 : Hp} {e5 : List Sl}, St W G5 H5 (σ.set j (some x)) e5 → Tr (σ.set j (some x)) (e2.set j (.d ds[i])) G3 H3 (σ.set j (some x)) e5 G5 H5 →
        St W G5 H5 σ (e5.set j .no) ∧ Tr σ e2 G3 H3 σ (e5.set j .no) G5 H5 ∧ (e5.set j .no)[j]? = some .no ∧ H5 A = some (.lst av) ∧ G5 A = none ∧ ¬ own σ (e5.set j .no) A := fun {G5 H5 e5} S5 T5 => by
      have l5 : e5.length = e2.length := by
        have a := S5.len
        have b := S2.len
        rw [List.length_set] at a b
        omega
      have hno : (e5.set j .no)[j]? = some .no := by rw [List.getElem?_set_self (by omega)]
      have lower : ∀ b, own σ (e5.set j .no) b → own (σ.set j (some x)) e5 b := fun b ⟨i, s, e, o, v⟩ => by
        have ne : j ≠ i := fun z => by
          subst z
          rw [hno] at e
          cases e
          cases o
        rw [List.getElem?_set_ne ne] at e
        exact ⟨i, s, e, o, by rw [List.getElem?_set_ne ne]; exact v⟩
      have down : ∀ b, own (σ.set j (some x)) (e2.set j (.d ds[i])) b → own σ e2 b := fun b z => own_set z
      have S6 : St W G5 H5 σ (e5.set j .no) := by
        refine ⟨S5.gh, by rw [List.length_set, l5]; have := S2.len; rw [List.length_set] at this; exact this, fun i s e => ?_, fun i1 k1 s1 t1 l a1 o1 v1 a2 o2 v2 => ?_⟩
        · by_cases z : j = i
          · subst z
            rw [hno] at e
            cases e
            exact trivial
          · rw [List.getElem?_set_ne z] at e
            have := S5.ok i s e
            rw [List.getElem?_set_ne z] at this
            exact this
        · have ne1 : j ≠ i1 := fun z => by
            subst z
            rw [hno] at a1
            cases a1
            cases o1
          have ne2 : j ≠ k1 := fun z => by
            subst z
            rw [hno] at a2
            cases a2
            cases o2
          rw [List.getElem?_set_ne ne1] at a1
          rw [List.getElem?_set_ne ne2] at a2
          exact S5.ds i1 k1 s1 t1 l a1 o1 (by rw [List.getElem?_set_ne ne1]; exact v1) a2 o2 (by rw [List.getElem?_set_ne ne2]; exact v2)
      have nA5 : ¬ own σ (e5.set j .no) A := fun z => by
        rcases T5.ow A (lower A z) with z | z
        · exact nA2 (down A z)
        · rw [hA3] at z
          cases z
      refine ⟨S6, ⟨T5.gg, fun b o n h => T5.fr b o (fun z => n (down b z)) h, fun b m => T5.nw b fun z => m (down b z), fun b z => (T5.ow b (lower b z)).imp (down b) id, T5.kp, fun i s e h => ?_⟩, hno, T5.fr A _ (fun z => nA2 (down A z)) hA3, T5.nw A (fun z => nA2 (down A z)) (by rw [hA3]; exact fun z => nomatch z) gA3, nA5⟩
      have ne : j ≠ i := fun z => by
        subst z
        rw [hj2] at e
        cases e
        cases h
      obtain ⟨_, s', e', h'⟩ := T5.pn i s (by rw [List.getElem?_set_ne ne]; exact e) h
      exact ⟨rfl, s', by rw [List.getElem?_set_ne ne]; exact e', h'⟩
    refine k2 G3 H3 _ S3 _ fun bb G4 H4 e4 S4 T4 k4 => ?_
    cases bb with
    | false =>
      have k4 : CmpR W j tt te R (ds.drop (i + 1)) acc (e4.set j .no) := k4
      obtain ⟨S6, T6, z1, z2, z3, z4⟩ := back S4 T4
      exact ⟨hlt, G4, _, acc, av, clr z1 S6, T3.trans S1 T6, z1, z2, z3, ra.up ((g3.gg).trans T4.gg), fun l hl z => z4 (z ▸ hl), k4⟩
    | true =>
      have k4 : Ev W te e4 _ := k4
      show te (σ.set j (some x)) H4 _
      refine k4 G4 H4 _ S4 _ fun y dy G5 H5 e5 S5 T5 r5 ⟨hz, k5⟩ => ?_
      obtain ⟨S6, T6, z1, z2, z3, z4⟩ := back S5 (T4.trans S3 T5)
      exact ⟨av, z2, by rw [ra.length]; exact hz, hlt, G5, _, acc ++ [dy], av ++ [y], clr z1 (S6.mut z3 z4), (T3.trans S1 T6).late hA, z1, upd_same, z3, (ra.up ((g3.gg).trans (T4.gg.trans T5.gg))).append (.cons r5 .nil), fun l hl z => z4 (z ▸ hl), k5⟩
  · have e : i = ds.length := by omega
    subst e
    rw [List.drop_length] at k2
    have k2 : R acc e2 := k2
    have hA0 : H A = none := by
      cases z : H A with
      | none => rfl
      | some o => exact absurd hA (T1.kp A (by rw [z]; exact fun y => nomatch y))
    exact .inl ⟨hw.stop G2 H2 T2.gg S2.gh, q A av acc G2 H2 e2 (unclr hj2 S2) (T1.trans S T2) hA0 hA2 gA2 nA2 ra k2⟩
theorem ev_lc {W : Wd} {wi : TI} {tt : TT} {te : TE} {j : Nat} {env : List Sl} {R : D → List Sl → Prop} (h : EvI W wi env fun ds e1 => e1[j]? = some .no ∧ CmpR W j tt te (fun xs e2 => R (.lst xs) e2) ds [] e1) : Ev W (tLc wi (gName j) tt te [j]) env R := ev_f (evf_lc h)

/-! ### what is one's own -/
section
variable {W : Wd} {G H : Hp} {σ : L2.St} {env : List Sl} {P : Post}
/-- what stands at an owned slot changes -/
theorem St.chg (S : St W G H σ env) {i : Nat} {l : Addr} {s s' : Sl} {o : HO} (e : env[i]? = some s) (ho : s.owned = true) (ev : σ[i]? = some (some (.ref l))) (ok' : OkS W G (upd H l o) (some (some (.ref l))) s') : St W G (upd H l o) σ (env.set i s') := by
  have il : i < env.length := (List.getElem?_eq_some_iff.mp e).1
  have g := (S.own_at ⟨i, s, e, ho, ev⟩).1
  refine ⟨fun b u h => by rw [upd_ne (ne_of_none h g)]; exact S.gh b u h, by rw [List.length_set]; exact S.len, fun k t f => ?_, fun a b s1 t1 m e1 o1 v1 e2 o2 v2 => ?_⟩
  · by_cases z : i = k
    · subst z
      rw [List.getElem?_set_self il] at f
      cases f
      rw [ev]
      exact ok'
    · rw [List.getElem?_set_ne z] at f
      have q := S.ok k t f
      have off : ∀ m, σ[k]? = some (some (.ref m)) → t.owned = true → m ≠ l := fun m e1 e2 y => z (S.ds i k s t l e ho ev f e2 (by rw [← y]; exact e1))
      cases t with
      | no => exact trivial
      | d x => exact q
      | ol xs =>
        obtain ⟨m, vs, e1, a, b, r⟩ := q
        exact ⟨m, vs, e1, a, by rw [upd_ne (off m e1 rfl)]; exact b, r⟩
      | pl xs =>
        obtain ⟨m, vs, e1, a, b, r⟩ := q
        exact ⟨m, vs, e1, a, by rw [upd_ne (off m e1 rfl)]; exact b, r⟩
      | od kvs =>
        obtain ⟨m, vs, e1, a, b, r⟩ := q
        exact ⟨m, vs, e1, a, by rw [upd_ne (off m e1 rfl)]; exact b, r⟩
      | pd kvs =>
        obtain ⟨m, vs, e1, a, b, r⟩ := q
        exact ⟨m, vs, e1, a, by rw [upd_ne (off m e1 rfl)]; exact b, r⟩
  · have was : ∀ {k : Nat} {t : Sl}, (env.set i s')[k]? = some t → t.owned = true → ∃ t', env[k]? = some t' ∧ t'.owned = true := fun {k t} f q => by
      by_cases z : i = k
      · subst z
        exact ⟨s, e, ho⟩
      · rw [List.getElem?_set_ne z] at f
        exact ⟨t, f, q⟩
    obtain ⟨s2, f1, q1⟩ := was e1 o1
    obtain ⟨t2, f2, q2⟩ := was e2 o2
    exact S.ds a b s2 t2 m f1 q1 v1 f2 q2 v2
theorem Tr.chg (S : St W G H σ env) {i : Nat} {l : Addr} {s s' : Sl} {o : HO} (e : env[i]? = some s) (ho : s.owned = true) (ev : σ[i]? = some (some (.ref l))) (hp : s.pinned = true → s'.pinned = true) : Tr σ env G H σ (env.set i s') G (upd H l o) where
  gg := Same.refl G
  fr := fun b u n h => by
    rw [upd_ne (fun z => n (by subst z; exact ⟨i, s, e, ho, ev⟩))]
    exact h
  nw := fun _ _ _ h => h
  ow := fun b ⟨k, t, f, q, v⟩ => by
    by_cases z : i = k
    · subst z
      exact .inl ⟨i, s, e, ho, v⟩
    · rw [List.getElem?_set_ne z] at f
      exact .inl ⟨k, t, f, q, v⟩
  kp := fun b n => by
    by_cases z : b = l
    · subst z
      rw [upd_same]
      exact fun y => nomatch y
    · rw [upd_ne z]
      exact n
  pn := fun k t f q => by
    by_cases z : i = k
    · subst z
      rw [e] at f
      cases f
      exact ⟨rfl, s', by rw [List.getElem?_set_self (List.getElem?_eq_some_iff.mp e).1], hp q⟩
    · exact ⟨rfl, t, by rw [List.getElem?_set_ne z]; exact f, q⟩
/-- a new list becomes a slot's own -/
theorem St.take (S : St W G H σ env) {j : Nat} {p : Addr} {vs : List V} {xs : List D} (hh : H p = some (.lst vs)) (hg : G p = none) (no : ¬ own σ env p) (r : RpAll W G vs xs) : St W G H (σ.set j (some (.ref p))) (env.set j (.ol xs)) := by
  by_cases jl : j < env.length
  · refine ⟨S.gh, by rw [List.length_set, List.length_set]; exact S.len, fun k t f => ?_, fun a b s1 t1 m e1 o1 v1 e2 o2 v2 => ?_⟩
    · by_cases z : j = k
      · subst z
        rw [List.getElem?_set_self jl] at f
        cases f
        exact ⟨p, vs, by rw [List.getElem?_set_self (by rw [S.len]; exact jl)], hg, hh, r⟩
      · rw [List.getElem?_set_ne z] at f
        rw [List.getElem?_set_ne z]
        exact S.ok k t f
    · have at_j : ∀ {m : Addr}, (σ.set j (some (V.ref p)))[j]? = some (some (.ref m)) → m = p := fun {m} v => by
        rw [List.getElem?_set_self (by rw [S.len]; exact jl)] at v
        cases v
        rfl
      by_cases za : j = a
      · subst za
        by_cases zb : j = b
        · exact zb
        · rw [List.getElem?_set_ne zb] at e2 v2
          rw [at_j v1] at v2
          exact absurd ⟨b, t1, e2, o2, v2⟩ no
      · rw [List.getElem?_set_ne za] at e1 v1
        by_cases zb : j = b
        · subst zb
          rw [at_j v2] at v1
          exact absurd ⟨a, s1, e1, o1, v1⟩ no
        · rw [List.getElem?_set_ne zb] at e2 v2
          exact S.ds a b s1 t1 m e1 o1 v1 e2 o2 v2
  · rw [List.set_eq_of_length_le (by rw [S.len]; omega), List.set_eq_of_length_le (by omega)]
    exact S
theorem Tr.take (S : St W G H σ env) {j : Nat} {p : Addr} {xs : List D} (hf : Free env j) : ∀ {G0 H0 : Hp} {σ0 : L2.St} {env0 : List Sl}, Tr σ0 env0 G0 H0 σ env G H → H0 p = none → Tr σ0 env0 G0 H0 (σ.set j (some (.ref p))) (env.set j (.ol xs)) G H := fun {G0 H0 σ0 env0} T h0 => by
  refine ⟨T.gg, T.fr, T.nw, fun b ⟨k, t, f, q, v⟩ => ?_, T.kp, fun i s e h => ?_⟩
  · by_cases z : j = k
    · subst z
      by_cases jl : j < σ.length
      · rw [List.getElem?_set_self jl] at v
        cases v
        exact .inr h0
      · rw [List.getElem?_eq_none (by rw [List.length_set]; omega)] at v
        cases v
    · rw [List.getElem?_set_ne z] at f v
      exact T.ow b ⟨k, t, f, q, v⟩
  · obtain ⟨e1, s', e2, h2⟩ := T.pn i s e h
    have ne : j ≠ i := fun z => by
      subst z
      rw [hf s' e2] at h2
      cases h2
    rw [List.getElem?_set_ne ne, List.getElem?_set_ne ne]
    exact ⟨e1, s', e2, h2⟩
theorem run_own {te : TE} {j : Nat} (h : EvF W te env fun xs e1 => Free e1 j ∧ P.nx (e1.set j (.ol xs))) : Run W (tAsg te (gName j)) env P := fun G H σ E S n r b c =>
  h G H σ S _ fun p vs ds G1 H1 e1 S1 T1 h0 h1 g1 no ra ⟨hf, k⟩ => n G1 H1 _ _ (S1.take h1 g1 no ra) (Tr.take S1 hf T1 h0) k
/-- xs.append(e) -/
theorem run_app {te : TE} {i : Nat} (h : Ev W te env fun d e1 => ∃ xs, e1[i]? = some (.ol xs) ∧ xs.length < sizeLine ∧ P.nx (e1.set i (.ol (xs ++ [d])))) (h0 : ∃ ys, env[i]? = some (.ol ys)) : Run W (tDrop (tBM W.K "list" rAppend (tVar i) (tCons te tNil))) env P := fun G H σ E S n r b c => by
  obtain ⟨ys, e0⟩ := h0
  obtain ⟨l, vs, ev, g, hh, ra⟩ := S.ok i _ e0
  refine ⟨.ref l, ev, .inl ⟨rfl, vs, .inl (.inl hh)⟩, h G H σ S _ fun v d G1 H1 e1 S1 T1 r1 ⟨xs, e2, hz, k⟩ => ?_⟩
  obtain ⟨m, ws, ev2, g2, h2, ra2⟩ := S1.ok i _ e2
  rw [ev] at ev2
  cases ev2
  refine ⟨l, ws, v, rfl, rfl, h2, by rw [ra2.length]; exact hz, n G1 _ σ _ (S1.chg e2 rfl ev (o := .lst (ws ++ [v])) (s' := .ol (xs ++ [d])) ⟨l, _, rfl, g2, upd_same, ra2.append (.cons r1 .nil)⟩) (T1.trans S (Tr.chg S1 e2 rfl ev fun z => nomatch z)) k⟩
/-- what is one's own is data from here on -/
theorem run_freeze {ts : TS} {i : Nat} {xs : List D} (e : env[i]? = some (.ol xs)) (h : Run W ts (env.set i (.d (.lst xs))) P) : Run W ts env P := fun G H σ E S n r b c => by
  obtain ⟨l, vs, ev, g, hh, ra⟩ := S.ok i _ e
  have il : i < env.length := (List.getElem?_eq_some_iff.mp e).1
  have gg : Same G (upd G l (.lst vs)) := fun b u z => by
    rw [upd_ne (ne_of_none z g)]
    exact z
  -- the state without the slot, then with what it holds as data
  have S0 : St W G H σ (env.set i .no) := by
    refine ⟨S.gh, by rw [List.length_set]; exact S.len, fun k t f => ?_, fun a b s1 t1 m e1 o1 v1 e2 o2 v2 => ?_⟩
    · by_cases z : i = k
      · subst z
        rw [List.getElem?_set_self il] at f
        cases f
        exact trivial
      · rw [List.getElem?_set_ne z] at f
        exact S.ok k t f
    · have was : ∀ {k : Nat} {t : Sl}, (env.set i .no)[k]? = some t → t.owned = true → env[k]? = some t := fun {k t} f q => by
        by_cases z : i = k
        · subst z
          rw [List.getElem?_set_self il] at f
          cases f
          cases q
        · rw [List.getElem?_set_ne z] at f
          exact f
      exact S.ds a b s1 t1 m (was e1 o1) o1 v1 (was e2 o2) o2 v2
  have no : ¬ own σ (env.set i .no) l := fun ⟨k, t, f, q, v⟩ => by
    by_cases z : i = k
    · subst z
      rw [List.getElem?_set_self il] at f
      cases f
      cases q
    · rw [List.getElem?_set_ne z] at f
      exact z (S.ds i k _ t l e rfl ev f q v)
  have S1 : St W (upd G l (.lst vs)) H σ ((env.set i .no).set i (.d (.lst xs))) := by
    have q := (S0.freeze hh g no).set (j := i) (v := .ref l) (d := .lst xs) (.lst upd_same (ra.up gg))
    have es : σ.set i (some (.ref l)) = σ := by
      apply List.ext_getElem?
      intro k
      by_cases z : i = k
      · subst z
        rw [List.getElem?_set_self (by rw [S.len]; exact il), ev]
      · rw [List.getElem?_set_ne z]
    rw [es] at q
    exact q
  rw [List.set_set] at S1
  have low : ∀ b, own σ (env.set i (.d (.lst xs))) b → own σ env b := fun b ⟨k, t, f, q, v⟩ => by
    by_cases z : i = k
    · subst z
      rw [List.getElem?_set_self il] at f
      cases f
      cases q
    · rw [List.getElem?_set_ne z] at f
      exact ⟨k, t, f, q, v⟩
  have T0 : ∀ {σ2 : L2.St} {e2 : List Sl} {G2 H2 : Hp}, Tr σ (env.set i (.d (.lst xs))) (upd G l (.lst vs)) H σ2 e2 G2 H2 → Tr σ env G H σ2 e2 G2 H2 := fun {σ2 e2 G2 H2} T => by
    refine ⟨gg.trans T.gg, fun b u n0 h0 => T.fr b u (fun z => n0 (low b z)) h0, fun b m n0 h0 => ?_, fun b z => (T.ow b z).imp (low b) id, T.kp, fun k s f q => ?_⟩
    · refine T.nw b (fun z => m (low b z)) n0 ?_
      rw [upd_ne (fun z => m (by subst z; exact ⟨i, _, e, rfl, ev⟩))]
      exact h0
    · have z : i ≠ k := fun y => by
        subst y
        rw [e] at f
        cases f
        cases q
      exact T.pn k s (by rw [List.getElem?_set_ne z]; exact f) q
  exact h _ H σ E S1 (fun G2 H2 σ2 e2 S2 T2 k => n G2 H2 σ2 e2 S2 (T0 T2) k) (fun v d G2 H2 σ2 e2 S2 T2 q k => r v d G2 H2 σ2 e2 S2 (T0 T2) q k)
    (fun G2 H2 σ2 e2 S2 T2 k => b G2 H2 σ2 e2 S2 (T0 T2) k) (fun G2 H2 σ2 e2 S2 T2 k => c G2 H2 σ2 e2 S2 (T0 T2) k)
end
end Nv

set_option Elab.async false
set_option linter.all false
set_option maxRecDepth 100000
set_option maxHeartbeats 4000000
/-! NvF: defs by data, and their calls. -/
namespace Nv
open PySem L2 PyProof.Rows PySem.Spec

/-- what a def does, by its arguments' slots (data, or what the caller hands in to be changed): the wish R of the answer and of these slots behind it -/
abbrev Fs := List Sl → (D → List Sl → Prop) → Prop
def ArgOk : Sl → Prop
  | .d _ => True
  | .pl _ => True
  | .pd _ => True
  | _ => False
def SpD (W : Wd) (n : Nat) (Phi : Fs) : Sp := fun vs H Q _ => ∃ (G : Hp) (as : List Sl) (R : D → List Sl → Prop), vs.length = n ∧ St W G H (vs.map some) as ∧ (∀ s ∈ as, ArgOk s) ∧ Phi as R ∧
  ∀ v d G' H' as', St W G' H' (vs.map some) as' → Tr (vs.map some) as G H (vs.map some) as' G' H' → Rp W G' v d → R d as' → Q v H'

/-- the arguments' slots behind the body: what was handed in to be changed as it is, the others as they were -/
def mergeS : List Sl → List Sl → List Sl
  | [], _ => []
  | a :: as, e :: es => (if a.pinned then e else a) :: mergeS as es
  | a :: as, [] => a :: mergeS as []
theorem mergeS_len : ∀ (as es : List Sl), (mergeS as es).length = as.length
  | [], _ => rfl
  | _ :: as, _ :: es => congrArg Nat.succ (mergeS_len as es)
  | _ :: as, [] => congrArg Nat.succ (mergeS_len as [])
theorem mergeS_get : ∀ {as es : List Sl} {i : Nat} {a : Sl}, as[i]? = some a → (mergeS as es)[i]? = some (if a.pinned then (es[i]?).getD a else a)
  | [], _, _, _, h => by simp at h
  | a :: as, e :: es, 0, _, h => by
    simp at h
    subst h
    simp [mergeS]
  | a :: as, [], 0, _, h => by
    simp at h
    subst h
    simp [mergeS]
  | a :: as, e :: es, i + 1, b, h => by
    have := mergeS_get (as := as) (es := es) (i := i) (a := b) (by simpa using h)
    simpa [mergeS] using this
  | a :: as, [], i + 1, b, h => by
    have := mergeS_get (as := as) (es := []) (i := i) (a := b) (by simpa using h)
    simpa [mergeS] using this

section
variable {W : Wd} {G H : Hp}
theorem St.start {N : List Str} {vs : List V} {as : List Sl} (S : St W G H (vs.map some) as) (hl : vs.length ≤ N.length) : St W G H (L2.start N vs) (as ++ List.replicate (N.length - vs.length) .no) := by
  have la : as.length = vs.length := by have := S.len; rw [List.length_map] at this; omega
  have lv : (vs.map some).length = as.length := S.len
  refine ⟨S.gh, ?_, fun i s e => ?_, fun i j s t l e1 o1 v1 e2 o2 v2 => ?_⟩
  · show (vs.map some ++ List.replicate (N.length - vs.length) none).length = _
    rw [List.length_append, List.length_append, List.length_replicate, List.length_replicate, lv]
  · by_cases h : i < as.length
    · rw [List.getElem?_append_left h] at e
      show OkS W G H (vs.map some ++ List.replicate (N.length - vs.length) none)[i]? s
      rw [List.getElem?_append_left (by rw [lv]; exact h)]
      exact S.ok i s e
    · rw [List.getElem?_append_right (by omega), List.getElem?_replicate] at e
      split at e
      · cases e
        exact trivial
      · cases e
  · have low : ∀ {k : Nat} {u : Sl}, (as ++ List.replicate (N.length - vs.length) Sl.no)[k]? = some u → u.owned = true → k < as.length ∧ as[k]? = some u := fun {k u} e o => by
      by_cases h : k < as.length
      · rw [List.getElem?_append_left h] at e
        exact ⟨h, e⟩
      · rw [List.getElem?_append_right (by omega), List.getElem?_replicate] at e
        split at e
        · cases e
          cases o
        · cases e
    obtain ⟨h1, f1⟩ := low e1 o1
    obtain ⟨h2, f2⟩ := low e2 o2
    have v1 : (vs.map some ++ List.replicate (N.length - vs.length) none)[i]? = some (some (V.ref l)) := v1
    have v2 : (vs.map some ++ List.replicate (N.length - vs.length) none)[j]? = some (some (V.ref l)) := v2
    rw [List.getElem?_append_left (by rw [lv]; exact h1)] at v1
    rw [List.getElem?_append_left (by rw [lv]; exact h2)] at v2
    exact S.ds i j s t l f1 o1 v1 f2 o2 v2
theorem own_start {N : List Str} {vs : List V} {as : List Sl} (la : as.length = vs.length) {b : Addr} : own (L2.start N vs) (as ++ List.replicate (N.length - vs.length) .no) b → own (vs.map some) as b := by
  rintro ⟨k, u, e, o, v⟩
  by_cases h : k < as.length
  · rw [List.getElem?_append_left h] at e
    have v : (vs.map some ++ List.replicate (N.length - vs.length) none)[k]? = some (some (V.ref b)) := v
    rw [List.getElem?_append_left (by rw [List.length_map]; omega)] at v
    exact ⟨k, u, e, o, v⟩
  · rw [List.getElem?_append_right (by omega), List.getElem?_replicate] at e
    split at e
    · cases e
      cases o
    · cases e
/-- behind the body -/
theorem St.left {N : List Str} {vs : List V} {as env' : List Sl} {σ' : L2.St} {G' H' : Hp} (S : St W G H (vs.map some) as) (ha : ∀ s ∈ as, ArgOk s) (S' : St W G' H' σ' env') (T : Tr (L2.start N vs) (as ++ List.replicate (N.length - vs.length) .no) G H σ' env' G' H') :
    St W G' H' (vs.map some) (mergeS as env') ∧ Tr (vs.map some) as G H (vs.map some) (mergeS as env') G' H' := by
  have la : as.length = vs.length := by have := S.len; rw [List.length_map] at this; omega
  -- a slot that was handed in to be changed
  have pin : ∀ {i : Nat} {a : Sl}, as[i]? = some a → a.pinned = true → ∃ s', (mergeS as env')[i]? = some s' ∧ env'[i]? = some s' ∧ s'.pinned = true ∧ σ'[i]? = (vs.map some)[i]? := fun {i a} e p => by
    have il : i < as.length := (List.getElem?_eq_some_iff.mp e).1
    obtain ⟨e1, s', e2, h2⟩ := T.pn i a (by rw [List.getElem?_append_left il]; exact e) p
    refine ⟨s', ?_, e2, h2, ?_⟩
    · rw [mergeS_get e, if_pos p, e2]
      rfl
    · rw [e1]
      show (vs.map some ++ List.replicate (N.length - vs.length) none)[i]? = _
      rw [List.getElem?_append_left (by rw [List.length_map]; omega)]
  have inv : ∀ {i : Nat} {s : Sl}, (mergeS as env')[i]? = some s → ∃ a, as[i]? = some a := fun {i s} e => by
    have il : i < as.length := by rw [← mergeS_len as env']; exact (List.getElem?_eq_some_iff.mp e).1
    exact ⟨as[i], by simp [il]⟩
  have dat : ∀ {i : Nat} {s : Sl}, (mergeS as env')[i]? = some s → s.owned = true → ∃ a, as[i]? = some a ∧ a.pinned = true ∧ env'[i]? = some s ∧ σ'[i]? = (vs.map some)[i]? := fun {i s} e o => by
    obtain ⟨a, ea⟩ := inv e
    cases p : a.pinned with
    | false =>
      rw [mergeS_get ea, p] at e
      have e : some a = some s := by simpa using e
      cases e
      have hk := ha s (List.mem_of_getElem? ea)
      cases s <;> first | exact hk.elim | (exfalso; revert p; simp [Sl.pinned]; done) | (exfalso; revert o; simp [Sl.owned]; done)
    | true =>
      obtain ⟨s', e1, e2, _, e4⟩ := pin ea p
      rw [e] at e1
      cases e1
      exact ⟨a, ea, p, e2, e4⟩
  refine ⟨⟨S'.gh, by rw [mergeS_len]; exact S.len, fun i s e => ?_, fun i j s t l e1 o1 v1 e2 o2 v2 => ?_⟩, ⟨T.gg, fun b o n h => T.fr b o (fun z => n (own_start la z)) h, fun b m n h => T.nw b (fun z => m (own_start la z)) n h, fun b ⟨i, s, e, o, v⟩ => ?_, T.kp, fun i a e p => ?_⟩⟩
  · obtain ⟨a, ea⟩ := inv e
    cases p : a.pinned with
    | true =>
      obtain ⟨s', e1, e2, _, e4⟩ := pin ea p
      rw [e] at e1
      cases e1
      rw [← e4]
      exact S'.ok i s e2
    | false =>
      rw [mergeS_get ea, p] at e
      have e : some a = some s := by simpa using e
      cases e
      have q := S.ok i s ea
      cases s with
      | no => exact trivial
      | d x =>
        obtain ⟨v, e1, r⟩ := q
        exact ⟨v, e1, r.up T.gg⟩
      | ol xs => exact (ha _ (List.mem_of_getElem? ea)).elim
      | od xs => exact (ha _ (List.mem_of_getElem? ea)).elim
      | pl xs => cases p
      | pd kvs => cases p
  · obtain ⟨a, _, _, f1, g1⟩ := dat e1 o1
    obtain ⟨c, _, _, f2, g2⟩ := dat e2 o2
    exact S'.ds i j s t l f1 o1 (by rw [g1]; exact v1) f2 o2 (by rw [g2]; exact v2)
  · obtain ⟨a, ea, pa, f, g⟩ := dat e o
    exact .inl ⟨i, a, ea, Sl.pinned_owned pa, v⟩
  · obtain ⟨s', e1, _, h, _⟩ := pin e p
    exact ⟨rfl, s', e1, h⟩
end

section
variable {P : Program} {w : World} {K : PySem.W.Frag} {mg : Str → Option Value} {base : Heap} {k : Nat} {f : Addr} {fd : FuncData} {ps : List Str} {W : Wd}
/-- where the body runs -/
abbrev Bx (P : Program) (w : World) (K : PySem.W.Frag) (mg : Str → Option Value) (base : Heap) (N : List Str) (qual : Str) (st : Stmt) (f : Addr) (cdv : Value) (A : Around) (outer : List Env) (s : Shared) (H : Hp) (E : XK) : Cx :=
  (cxOf CX0 P w K mg base N qual (defScope st) f cdv A outer s H E).nox
/-- a def by its body, told by data -/
theorem fn_d {x qual : Str} {st : Stmt} {N : List Str} {Phi : Fs} (F : Fun K x qual st f fd) (S : FnScope N ps (defScope st))
    (hbody : ∀ (cdv : Value) (A : Around) (outer : List Env) (s : Shared) (H : Hp) (E : XK), (Bx P w K mg base N qual st f cdv A outer s H E).A.guards = some [] → Room k (Bx P w K mg base N qual st f cdv A outer s H E).A →
      ∃ t, PSs (Bx P w K mg base N qual st f cdv A outer s H E) (defBody st) t ∧ ∀ as R, as.length = ps.length → Phi as R → Run W t (as ++ List.replicate (N.length - ps.length) .no) { nx := fun e' => R .non (mergeS as e'), rt := fun d e' => R d (mergeS as e') }) :
    FnG P w K mg base (k + 1) f fd ps (SpD W ps.length Phi) := by
  have hpl : ps.length ≤ N.length := by
    have := congrArg List.length S.pre
    rw [List.length_take] at this
    omega
  refine fn_g F S (fun vs H Q E h => ?_) fun cdv A outer s H vs Q E hg hr h => ?_
  · obtain ⟨_, _, _, l, _⟩ := h
    exact l
  · obtain ⟨G, as, R, hl, hS, ha, hP, q⟩ := h
    have la : as.length = vs.length := by have := hS.len; rw [List.length_map] at this; omega
    obtain ⟨t, ht, hrun⟩ := hbody cdv A outer s H E hg hr
    have S1 := hS.start (N := N) (by omega)
    have hrun := hrun as R (by omega) hP
    rw [← hl] at hrun
    refine ⟨t, ht.nox, hrun G H (L2.start N vs) _ S1 (fun G' H' σ' env' S' T' k => ?_) (fun v d G' H' σ' env' S' T' r k => ?_) (fun _ _ _ _ _ _ z => z.elim) fun _ _ _ _ _ _ z => z.elim⟩
    · obtain ⟨S2, T2⟩ := St.left hS ha S' T'
      exact q .non .non G' H' _ S2 T2 .non k
    · obtain ⟨S2, T2⟩ := St.left hS ha S' T'
      exact q v d G' H' _ S2 T2 r k
end
end Nv

set_option Elab.async false
set_option linter.all false
set_option maxRecDepth 100000
set_option maxHeartbeats 4000000
/-! NvC: calls of defs told by data. -/
namespace Nv
open PySem L2 PyProof.Rows PySem.Spec

section
variable {W : Wd} {G H G' H' : Hp} {σ : L2.St} {env env' : List Sl}
theorem St.swap (S : St W G H σ env) (A : Addr → Prop) (gg : Same G G') (gh : Same G' H') (hh : ∀ b o, ¬ A b → H b = some o → H' b = some o) (nw : ∀ b, ¬ A b → H b ≠ none → G b = none → G' b = none) (len : env'.length = env.length)
    (each : ∀ (k : Nat) (s' : Sl), env'[k]? = some s' → (env[k]? = some s' ∧ (s'.owned = true → ∀ l : Addr, σ[k]? = some (some (.ref l)) → ¬ A l)) ∨ (OkS W G' H' σ[k]? s' ∧ ∃ s, env[k]? = some s ∧ s.owned = true)) : St W G' H' σ env' := by
  refine ⟨gh, by rw [len]; exact S.len, fun k s e => ?_, fun a b s t m e1 o1 v1 e2 o2 v2 => ?_⟩
  · rcases each k s e with ⟨f, off⟩ | ⟨q, _⟩
    · have q := S.ok k s f
      cases s with
      | no => exact trivial
      | d x =>
        obtain ⟨v, e1, r⟩ := q
        exact ⟨v, e1, r.up gg⟩
      | ol xs =>
        obtain ⟨l, vs, e1, a, b, r⟩ := q
        have z := off rfl l e1
        exact ⟨l, vs, e1, nw l z (by rw [b]; exact fun y => nomatch y) a, hh l _ z b, r.up gg⟩
      | pl xs =>
        obtain ⟨l, vs, e1, a, b, r⟩ := q
        have z := off rfl l e1
        exact ⟨l, vs, e1, nw l z (by rw [b]; exact fun y => nomatch y) a, hh l _ z b, r.up gg⟩
      | od kvs =>
        obtain ⟨l, vs, e1, a, b, c, r⟩ := q
        have z := off rfl l e1
        exact ⟨l, vs, e1, nw l z (by rw [b]; exact fun y => nomatch y) a, hh l _ z b, c, r.up gg⟩
      | pd kvs =>
        obtain ⟨l, vs, e1, a, b, c, r⟩ := q
        have z := off rfl l e1
        exact ⟨l, vs, e1, nw l z (by rw [b]; exact fun y => nomatch y) a, hh l _ z b, c, r.up gg⟩
    · exact q
  · have was : ∀ {k : Nat} {s : Sl}, env'[k]? = some s → s.owned = true → ∃ s', env[k]? = some s' ∧ s'.owned = true := fun {k s} e o => by
      rcases each k s e with ⟨f, _⟩ | ⟨_, s0, f, o0⟩
      · exact ⟨s, f, o⟩
      · exact ⟨s0, f, o0⟩
    obtain ⟨s1, f1, q1⟩ := was e1 o1
    obtain ⟨t1, f2, q2⟩ := was e2 o2
    exact S.ds a b s1 t1 m f1 q1 v1 f2 q2 v2
theorem Tr.swap (A : Addr → Prop) (gg : Same G G') (hh : ∀ b o, ¬ A b → H b = some o → H' b = some o) (nw : ∀ b, ¬ A b → H b ≠ none → G b = none → G' b = none) (kp : ∀ b, H b ≠ none → H' b ≠ none) (hA : ∀ b, A b → own σ env b)
    (each : ∀ (k : Nat) (s' : Sl), env'[k]? = some s' → s'.owned = true → ∃ s, env[k]? = some s ∧ s.owned = true) (hp : ∀ (k : Nat) (s : Sl), env[k]? = some s → s.pinned = true → ∃ s', env'[k]? = some s' ∧ s'.pinned = true) : Tr σ env G H σ env' G' H' where
  gg := gg
  fr := fun b o n h => hh b o (fun z => n (hA b z)) h
  nw := fun b m n h => nw b (fun z => m (hA b z)) n h
  ow := fun b ⟨k, s', e, o, v⟩ => by
    obtain ⟨s, f, q⟩ := each k s' e o
    exact .inl ⟨k, s, f, q, v⟩
  kp := kp
  pn := fun k s e h => by
    obtain ⟨s', e', h'⟩ := hp k s e h
    exact ⟨rfl, s', e', h'⟩
theorem not_own_data {vs : List V} {ds : List D} {b : Addr} : ¬ own (vs.map some) (ds.map Sl.d) b := by
  rintro ⟨i, s, e, o, _⟩
  rw [List.getElem?_map] at e
  cases q : ds[i]? with
  | none => rw [q] at e; cases e
  | some d =>
    rw [q] at e
    cases e
    cases o
theorem St.data (gh : Same G H) {vs : List V} {ds : List D} (r : RpAll W G vs ds) : St W G H (vs.map some) (ds.map Sl.d) := by
  refine ⟨gh, by rw [List.length_map, List.length_map, r.length], fun i s e => ?_, fun i j s t l e1 o1 _ _ _ _ => ?_⟩
  · rw [List.getElem?_map] at e
    cases q : ds[i]? with
    | none => rw [q] at e; cases e
    | some d =>
      rw [q] at e
      cases e
      obtain ⟨v, h1, h2⟩ := r.get q
      exact ⟨v, by rw [List.getElem?_map, h1]; rfl, h2⟩
  · rw [List.getElem?_map] at e1
    cases q : ds[i]? with
    | none => rw [q] at e1; cases e1
    | some d =>
      rw [q] at e1
      cases e1
      cases o1
end

section
variable {W : Wd} {env : List Sl} {R : D → List Sl → Prop} {ta : TA} {n : Nat} {Phi : Fs}
theorem args_ok {ds : List D} : ∀ s ∈ ds.map Sl.d, ArgOk s := fun s h => by
  obtain ⟨d, _, rfl⟩ := List.mem_map.mp h
  exact trivial
theorem sp_data {G H : Hp} {vs : List V} {ds : List D} {σ : L2.St} {Q : VK} {E : XK} (S : St W G H σ env) (r : RpAll W G vs ds) (hl : ds.length = n) (hP : Phi (ds.map .d) fun d _ => R d env)
    (q : ∀ v d G' H', St W G' H' σ env → Tr σ env G H σ env G' H' → Rp W G' v d → R d env → Q v H') : SpD W n Phi vs H Q E :=
  ⟨G, ds.map .d, fun d _ => R d env, by rw [r.length, hl], St.data S.gh r, args_ok, hP, fun v d G' H' as' S' T' rv k => by
    have g : Gr G H G' H' := ⟨T'.gg, S'.gh, fun b o h => T'.fr b o not_own_data h, fun b => T'.nw b not_own_data⟩
    exact q v d G' H' (S.up g) (Tr.up S g) rv k⟩
/-- f(e, ..), all arguments data -/
theorem ev_g (h : EvA W ta env fun ds e1 => ds.length = n ∧ Phi (ds.map .d) fun d _ => R d e1) : Ev W (tG (SpD W n Phi) ta) env R := fun G H σ S Q q =>
  h G H σ S _ fun vs ds G1 H1 e1 S1 T1 ra ⟨hl, hP⟩ => sp_data S1 ra hl hP fun v d G' H' S' T' r k => q v d G' H' e1 S' (T1.trans S T') r k
/-- keywords alone -/
def permD (pm : List Nat) (ds : List D) : List D := pm.filterMap (ds[·]?)
theorem RpAll.perm {G : Hp} {vs : List V} {ds : List D} (r : RpAll W G vs ds) : ∀ pm : List Nat, RpAll W G (permV pm vs) (permD pm ds)
  | [] => .nil
  | i :: pm => by
    have ih := RpAll.perm r pm
    unfold permV permD at ih ⊢
    rw [List.filterMap_cons, List.filterMap_cons]
    cases e : ds[i]? with
    | none =>
      have : vs[i]? = none := by
        rw [List.getElem?_eq_none_iff] at e ⊢
        rw [r.length]
        exact e
      rw [this]
      exact ih
    | some d =>
      obtain ⟨v, h1, h2⟩ := r.get e
      rw [h1]
      exact .cons h2 ih
theorem ev_gK {m : Nat} {pm : List Nat} (h : EvA W ta env fun ds e1 => ds.length = m ∧ (permD pm ds).length = n ∧ Phi ((permD pm ds).map .d) fun d _ => R d e1) : Ev W (tGK m pm (SpD W n Phi) ta) env R := fun G H σ S Q q =>
  h G H σ S _ fun vs ds G1 H1 e1 S1 T1 ra ⟨hm, hl, hP⟩ => ⟨by rw [ra.length, hm], sp_data S1 (ra.perm pm) hl hP fun v d G' H' S' T' r k => q v d G' H' e1 S' (T1.trans S T') r k⟩
/-- what is one's own is handed on, to be changed by the callee; and comes back -/
def Sl.lend : Sl → Sl
  | .ol xs => .pl xs
  | .od kvs => .pd kvs
  | s => s
def Sl.back (s s' : Sl) : Sl := if s.pinned = true then s' else match s' with
  | .pl xs => .ol xs
  | .pd kvs => .od kvs
  | s => s
theorem Sl.lend_pinned {s : Sl} (h : s.owned = true) : s.lend.pinned = true := by
  cases s <;> first | rfl | cases h
theorem OkS.lend {G H : Hp} {ov : Option (Option V)} {s : Sl} (h : OkS W G H ov s) : OkS W G H ov s.lend := by
  cases s <;> exact h
theorem OkS.back {G H : Hp} {ov : Option (Option V)} {s s' : Sl} (h : OkS W G H ov s') : OkS W G H ov (s.back s') := by
  unfold Sl.back
  split
  · exact h
  · cases s' <;> exact h
theorem OkS.addr {G H : Hp} {ov : Option (Option V)} {s : Sl} (h : OkS W G H ov s) (ho : s.owned = true) : ∃ l : Addr, ov = some (some (.ref l)) := by
  cases s with
  | no => cases ho
  | d x => cases ho
  | ol xs => obtain ⟨m, vs, e1, _⟩ := h; exact ⟨m, e1⟩
  | pl xs => obtain ⟨m, vs, e1, _⟩ := h; exact ⟨m, e1⟩
  | od kvs => obtain ⟨m, vs, e1, _⟩ := h; exact ⟨m, e1⟩
  | pd kvs => obtain ⟨m, vs, e1, _⟩ := h; exact ⟨m, e1⟩
/-- f(x, e, ..), x one's own -/
theorem ev_gp {i : Nat} (h0 : ∃ s0, env[i]? = some s0 ∧ s0.owned = true) (h : EvA W ta env fun ds e1 => ds.length + 1 = n ∧ ∃ s, e1[i]? = some s ∧ s.owned = true ∧ Phi (s.lend :: ds.map .d) fun d as' => ∃ s', as'[0]? = some s' ∧ R d (e1.set i (s.back s'))) :
    Ev W (tG (SpD W n Phi) (tCons (tVar i) ta)) env R := fun G H σ S Q q => by
  obtain ⟨s0, e0, o0⟩ := h0
  obtain ⟨p, ev⟩ := (S.ok i _ e0).addr o0
  refine ⟨.ref p, ev, h G H σ S _ fun vs ds G1 H1 e1 S1 T1 ra ⟨hl, s, e, os, hP⟩ => ?_⟩
  have il : i < e1.length := (List.getElem?_eq_some_iff.mp e).1
  have ok1 : OkS W G1 H1 (some (some (.ref p))) s.lend := by
    have := (S1.ok i _ e).lend
    rw [ev] at this
    exact this
  have lp : s.lend.pinned = true := Sl.lend_pinned os
  have SA : St W G1 H1 ((V.ref p :: vs).map some) (s.lend :: ds.map .d) := by
    have SD := St.data S1.gh ra
    refine ⟨S1.gh, by simp [ra.length], fun k s f => ?_, fun a c s t l e1 o1 v1 e2 o2 v2 => ?_⟩
    · cases k with
      | zero =>
        simp at f
        subst f
        exact ok1
      | succ k => exact SD.ok k s (by simpa using f)
    · cases a with
      | succ a => exact absurd ⟨a, s, by simpa using e1, o1, by simpa using v1⟩ (not_own_data (vs := vs) (ds := ds) (b := l))
      | zero =>
        cases c with
        | succ c => exact absurd ⟨c, t, by simpa using e2, o2, by simpa using v2⟩ (not_own_data (vs := vs) (ds := ds) (b := l))
        | zero => rfl
  have oA : ∀ c, own ((V.ref p :: vs).map some) (s.lend :: ds.map .d) c → c = p := fun c ⟨k, s, f, o, v⟩ => by
    cases k with
    | zero =>
      have v : some (some (V.ref p)) = some (some (V.ref c)) := v
      cases v
      rfl
    | succ k => exact absurd ⟨k, s, by simpa using f, o, by simpa using v⟩ (not_own_data (vs := vs) (ds := ds) (b := c))
  refine ⟨G1, s.lend :: ds.map .d, _, by simp [ra.length, hl], SA, fun s1 hs => ?_, hP, fun v d G' H' as' S' T' rv ⟨s', ea, k⟩ => ?_⟩
  · rcases List.mem_cons.mp hs with z | z
    · subst z
      cases s <;> first | exact trivial | cases os
    · exact args_ok s1 z
  · have ok2 : OkS W G' H' (some (some (.ref p))) s' := S'.ok 0 _ ea
    have sp : s'.pinned = true := by
      obtain ⟨_, s2, e2, h2⟩ := T'.pn 0 s.lend rfl lp
      rw [ea] at e2
      cases e2
      exact h2
    have hh : ∀ c o, ¬ c = p → H1 c = some o → H' c = some o := fun c o n h => T'.fr c o (fun z => n (oA c z)) h
    have nw : ∀ c, ¬ c = p → H1 c ≠ none → G1 c = none → G' c = none := fun c n => T'.nw c fun z => n (oA c z)
    have S2 : St W G' H' σ (e1.set i (s.back s')) := S1.swap (fun c => c = p) T'.gg S'.gh hh nw (by rw [List.length_set]) fun k t f => by
      by_cases z : i = k
      · subst z
        rw [List.getElem?_set_self il] at f
        cases f
        exact .inr ⟨by rw [ev]; exact ok2.back, _, e, os⟩
      · rw [List.getElem?_set_ne z] at f
        exact .inl ⟨f, fun o l e3 e4 => z (S1.ds i k _ t p e os ev f o (by rw [e3, e4]))⟩
    refine q v d G' H' _ S2 ((T1.trans S (Tr.swap (fun c => c = p) T'.gg hh nw T'.kp (fun c z => ⟨i, _, e, os, by rw [z]; exact ev⟩) (fun k t f o => ?_) fun k t f o => ?_))) rv k
    · by_cases z : i = k
      · subst z
        exact ⟨_, e, os⟩
      · rw [List.getElem?_set_ne z] at f
        exact ⟨t, f, o⟩
    · by_cases z : i = k
      · subst z
        rw [e] at f
        cases f
        exact ⟨_, by rw [List.getElem?_set_self il], by unfold Sl.back; rw [if_pos o]; exact sp⟩
      · exact ⟨t, by rw [List.getElem?_set_ne z]; exact f, o⟩
end
end Nv

set_option Elab.async false
set_option linter.all false
set_option maxRecDepth 100000
set_option maxHeartbeats 4000000
/-! NvO: what operators, built-ins and walks do to data. -/
namespace Nv
open PySem L2 PyProof.Rows PySem.Spec

theorem opr_or {X : Cx} {f : Value → Value → Sem Value} {r1 r2 : R2} (h1 : OpR X f r1) (h2 : OpR X f r2) : OpR X f (fun x y H Q => r1 x y H Q ∨ r2 x y H Q) := by
  intro pins s σ H x y v u Q I rx ry q
  exact q.elim (h1 pins s σ H x y v u Q I rx ry) (h2 pins s σ H x y v u Q I rx ry)

section
variable {W : Wd} {G H : Hp}
theorem Gr.newT {W : Wd} {p : Addr} {vs : List V} {ds : List D} (e : Same G H) (hp : H p = none) (r : RpAll W G vs ds) : Gr G H (upd G p (.tup vs)) (upd H p (.tup vs)) ∧ Rp W (upd G p (.tup vs)) (.ref p) (.tup ds) :=
  have g : Gr G H (upd G p (.tup vs)) (upd H p (.tup vs)) := Gr.new e hp
  ⟨g, .tup (.inl (.inl upd_same)) (r.up g.gg)⟩
theorem Gr.newL {W : Wd} {p : Addr} {vs : List V} {ds : List D} (e : Same G H) (hp : H p = none) (r : RpAll W G vs ds) : Gr G H (upd G p (.lst vs)) (upd H p (.lst vs)) ∧ Rp W (upd G p (.lst vs)) (.ref p) (.lst ds) :=
  have g : Gr G H (upd G p (.lst vs)) (upd H p (.lst vs)) := Gr.new e hp
  ⟨g, .lst upd_same (r.up g.gg)⟩
end

/-! ### + -/
def rAddU (K : PySem.W.Frag) : R2 := fun x y H Q => rI0 (fun i j => .int (i + j)) x y H Q ∨ (∃ i j, x = .str i ∧ y = .str j ∧ i.length + j.length ≤ sizeLine ∧ Q (.str (i ++ j)) H) ∨ rCat x y H Q ∨ rCatA K x y H Q
theorem op_addU {X : Cx} : OpR X (binaryOp .Add) (rAddU X.K) := opr_or op_add (opr_or op_add_str (opr_or op_cat op_catA))
def addD : D → D → Option D
  | .int i, .int j => some (.int (i + j))
  | .str a, .str b => if a.length + b.length ≤ sizeLine then some (.str (a ++ b)) else none
  | .lst a, .lst b => if a.length + b.length ≤ sizeLine then some (.lst (a ++ b)) else none
  | .tup a, .tup b => if a.length + b.length ≤ sizeLine then some (.tup (a ++ b)) else none
  | _, _ => none
theorem opd_add {W : Wd} : OpD W (rAddU W.K) addD := by
  intro G H x y dx dy dz e rx ry ho Q q
  cases dx <;> cases dy <;> first | (cases ho; done) | skip
  · cases ho
    rw [rx.int_inv, ry.int_inv]
    exact .inl ⟨_, _, rfl, rfl, q _ G H (Gr.refl e) (.int _)⟩
  · rename_i a b
    have ho : (if a.length + b.length ≤ sizeLine then some (D.str (a ++ b)) else none) = some dz := ho
    split at ho
    · cases ho
      rename_i hz
      rw [rx.str_inv, ry.str_inv]
      exact .inr (.inl ⟨_, _, rfl, rfl, hz, q _ G H (Gr.refl e) (.str _)⟩)
    · cases ho
  · rename_i a b
    have ho : (if a.length + b.length ≤ sizeLine then some (D.lst (a ++ b)) else none) = some dz := ho
    split at ho
    · cases ho
      rename_i hz
      obtain ⟨p, xs, rfl, h1, r1⟩ := rx.lst_inv
      obtain ⟨p', ys, rfl, h2, r2⟩ := ry.lst_inv
      refine .inr (.inr (.inl ⟨p, p', xs, ys, rfl, rfl, e _ _ h1, e _ _ h2, by rw [r1.length, r2.length]; exact hz, fun n hn => ?_⟩))
      obtain ⟨g, r⟩ := Gr.newL (W := W) e hn (r1.append r2)
      exact q _ _ _ g r
    · cases ho
  · rename_i a b
    have ho : (if a.length + b.length ≤ sizeLine then some (D.tup (a ++ b)) else none) = some dz := ho
    split at ho
    · cases ho
      rename_i hz
      obtain ⟨p, xs, rfl, h1, r1⟩ := rx.tup_inv
      obtain ⟨p', ys, rfl, h2, r2⟩ := ry.tup_inv
      refine .inr (.inr (.inr ⟨p, p', xs, ys, rfl, rfl, Same.tup e h1, Same.tup e h2, by rw [r1.length, r2.length]; exact hz, fun z => ?_, fun _ z => ?_, fun _ _ n hn => ?_⟩))
      · subst z
        cases r1
        exact q _ G H (Gr.refl e) (.tup h2 r2)
      · subst z
        cases r2
        rw [List.append_nil] at q
        exact q _ G H (Gr.refl e) (.tup h1 r1)
      · obtain ⟨g, r⟩ := Gr.newT (W := W) e hn (r1.append r2)
        exact q _ _ _ g r
    · cases ho

/-! ### numbers -/
section
variable {W : Wd}
def intD (g : Int → Int → Option D) : D → D → Option D
  | .int i, .int j => g i j
  | _, _ => none
theorem opd_I0 {g : Int → Int → V} {o : Int → Int → D} (h : ∀ G i j, Rp W G (g i j) (o i j)) : OpD W (rI0 g) (intD fun i j => some (o i j)) := by
  intro G H x y dx dy dz e rx ry ho Q q
  cases dx <;> cases dy <;> first | (cases ho; done) | skip
  cases ho
  rw [rx.int_inv, ry.int_inv]
  exact ⟨_, _, rfl, rfl, q _ G H (Gr.refl e) (h _ _ _)⟩
theorem opd_I {C : Int → Int → Prop} [∀ i j, Decidable (C i j)] {g : Int → Int → V} {o : Int → Int → D} (h : ∀ G i j, Rp W G (g i j) (o i j)) : OpD W (rI C g) (intD fun i j => if C i j then some (o i j) else none) := by
  intro G H x y dx dy dz e rx ry ho Q q
  cases dx <;> cases dy <;> first | (cases ho; done) | skip
  rename_i i j
  have ho : (if C i j then some (o i j) else none) = some dz := ho
  split at ho
  · cases ho
    rename_i hc
    rw [rx.int_inv, ry.int_inv]
    exact ⟨_, _, rfl, rfl, hc, q _ G H (Gr.refl e) (h _ _ _)⟩
  · cases ho
instance (i j : Int) : Decidable (CMul i j) := by unfold CMul; exact inferInstance
instance (i j : Int) : Decidable (CDiv i j) := by unfold CDiv; exact inferInstance
instance (i j : Int) : Decidable (CPow i j) := by unfold CPow; exact inferInstance
theorem opd_sub : OpD W (rI0 fun i j => .int (i - j)) (intD fun i j => some (.int (i - j))) := opd_I0 fun _ _ _ => .int _
theorem opd_mul : OpD W (rI CMul fun i j => .int (i * j)) (intD fun i j => if CMul i j then some (.int (i * j)) else none) := opd_I fun _ _ _ => .int _
theorem opd_fdiv : OpD W (rI CDiv fun i j => .int (i / j)) (intD fun i j => if CDiv i j then some (.int (i / j)) else none) := opd_I fun _ _ _ => .int _
theorem opd_mod : OpD W (rI (fun _ j => 0 < j) fun i j => .int (i % j)) (intD fun i j => if 0 < j then some (.int (i % j)) else none) := opd_I fun _ _ _ => .int _
theorem opd_pow : OpD W (rI CPow fun i j => .int (i ^ j.toNat)) (intD fun i j => if CPow i j then some (.int (i ^ j.toNat)) else none) := opd_I fun _ _ _ => .int _
theorem opd_lt : OpD W (rI0 fun i j => .bl (decide (i < j))) (intD fun i j => some (.bl (decide (i < j)))) := opd_I0 fun _ _ _ => .bl _
theorem opd_le : OpD W (rI0 fun i j => .bl (decide (i ≤ j))) (intD fun i j => some (.bl (decide (i ≤ j)))) := opd_I0 fun _ _ _ => .bl _
theorem opd_gt : OpD W (rI0 fun i j => .bl (decide (j < i))) (intD fun i j => some (.bl (decide (j < i)))) := opd_I0 fun _ _ _ => .bl _
theorem opd_ge : OpD W (rI0 fun i j => .bl (decide (j ≤ i))) (intD fun i j => some (.bl (decide (j ≤ i)))) := opd_I0 fun _ _ _ => .bl _
def negD : D → Option D
  | .int i => some (.int (-i))
  | _ => none
theorem und_neg : UnD W (rU fun i => .int (-i)) negD := by
  intro G H x dx dz e rx ho Q q
  cases dx <;> first | (cases ho; done) | skip
  cases ho
  rw [rx.int_inv]
  exact ⟨_, rfl, q _ G H (Gr.refl e) (.int _)⟩
end

/-! ### ==, != of plain values -/
def eqS : D → D → Option Bool
  | .non, .non => some true
  | .int i, .int j => some (decide (i = j))
  | .bl i, .bl j => some (decide (i = j))
  | .str i, .str j => some (decide (i = j))
  | .non, .int _ => some false
  | .int _, .non => some false
  | .non, .str _ => some false
  | .str _, .non => some false
  | .non, .bl _ => some false
  | .bl _, .non => some false
  | .int _, .str _ => some false
  | .str _, .int _ => some false
  | .bl _, .str _ => some false
  | .str _, .bl _ => some false
  | _, _ => none
theorem dec_ne {a b : V} (h : a ≠ b) : decide (a = b) = false := decide_eq_false h
theorem dec_of {α : Type} [DecidableEq α] {f : α → V} (hf : ∀ a b, f a = f b → a = b) (a b : α) : decide (f a = f b) = decide (a = b) := by
  by_cases h : a = b
  · subst h
    simp
  · rw [decide_eq_false h, decide_eq_false fun z => h (hf a b z)]
theorem eqS_ok {W : Wd} {G : Hp} {x y : V} {dx dy : D} {b : Bool} (rx : Rp W G x dx) (ry : Rp W G y dy) (h : eqS dx dy = some b) : scal x y = true ∧ decide (x = y) = b := by
  cases dx <;> cases dy <;> first | (cases h; done) | skip
  all_goals
    cases h
    first | rw [rx.non_inv] | rw [rx.int_inv] | rw [rx.bl_inv] | rw [rx.str_inv]
    first | rw [ry.non_inv] | rw [ry.int_inv] | rw [ry.bl_inv] | rw [ry.str_inv]
    refine ⟨rfl, ?_⟩
    first
      | rfl
      | exact dec_of (fun _ _ z => V.int.inj z) _ _
      | exact dec_of (fun _ _ z => V.bl.inj z) _ _
      | exact dec_of (fun _ _ z => V.str.inj z) _ _
      | exact dec_ne (fun z => nomatch z)
def eqD (x y : D) : Option D := (eqS x y).map .bl
def neD (x y : D) : Option D := (eqS x y).map fun b => .bl (!b)
theorem opd_eq {W : Wd} : OpD W rEq eqD := by
  intro G H x y dx dy dz e rx ry ho Q q
  unfold eqD at ho
  cases h : eqS dx dy with
  | none => rw [h] at ho; cases ho
  | some b =>
    rw [h] at ho
    cases ho
    obtain ⟨h1, h2⟩ := eqS_ok rx ry h
    exact ⟨h1, by rw [h2]; exact q _ G H (Gr.refl e) (.bl b)⟩
theorem opd_ne {W : Wd} : OpD W rNe neD := by
  intro G H x y dx dy dz e rx ry ho Q q
  unfold neD at ho
  cases h : eqS dx dy with
  | none => rw [h] at ho; cases ho
  | some b =>
    rw [h] at ho
    cases ho
    obtain ⟨h1, h2⟩ := eqS_ok rx ry h
    exact ⟨h1, by rw [h2]; exact q _ G H (Gr.refl e) (.bl (!b))⟩
end Nv

set_option Elab.async false
set_option linter.all false
set_option maxRecDepth 100000
set_option maxHeartbeats 4000000
/-! NvP: in, is, subscripts, slices, built-ins, truth, walks: by data. -/
namespace Nv
open PySem L2 PyProof.Rows PySem.Spec

theorem callr_or {X : Cx} {f : Value} {r1 r2 : List V → Hp → VK → Prop} (h1 : CallR X f r1) (h2 : CallR X f r2) : CallR X f (fun xs H Q => r1 xs H Q ∨ r2 xs H Q) := by
  intro pins s σ H xs us Q I r q
  exact q.elim (h1 pins s σ H xs us Q I r) (h2 pins s σ H xs us Q I r)

/-! ### in -/
def flatD : D → Bool
  | .non => true
  | .bl _ => true
  | .int _ => true
  | .str _ => true
  | _ => false
def eqF : D → D → Bool
  | .non, .non => true
  | .bl a, .bl b => a == b
  | .bl a, .int b => (if a then 1 else 0) == b
  | .int a, .bl b => a == (if b then 1 else 0)
  | .int a, .int b => a == b
  | .str a, .str b => a == b
  | _, _ => false
def oneSign (z : Str) : Option Nat := match z.cps.toList with
  | [c] => some c
  | _ => none
theorem oneSign_eq {z : Str} {c : Nat} (h : oneSign z = some c) : z = ⟨#[c]⟩ := by
  unfold oneSign at h
  split at h
  · rename_i d e
    cases h
    obtain ⟨a⟩ := z
    congr 1
    apply Array.ext'
    exact e
  · cases h
def inD (neg : Bool) : D → D → Option D
  | .str a, .str b => (oneSign a).map fun c => .bl (if neg then !decide (c ∈ b.cps.toList) else decide (c ∈ b.cps.toList))
  | x, .tup ys => if (flatD x && ys.all flatD) = true then some (.bl (if neg then !ys.any (fun y => eqF y x) else ys.any fun y => eqF y x)) else none
  | x, .lst ys => if (flatD x && ys.all flatD) = true then some (.bl (if neg then !ys.any (fun y => eqF y x) else ys.any fun y => eqF y x)) else none
  | _, _ => none
section
variable {W : Wd} {G H : Hp}
theorem flat_of {x : V} {d : D} (r : Rp W G x d) (h : flatD d = true) : flatV x = true := by
  cases d <;> first | (cases h; done) | (cases r; rfl)
theorem eqF_of {x y : V} {dx dy : D} (rx : Rp W G x dx) (ry : Rp W G y dy) (hx : flatD dx = true) (hy : flatD dy = true) : eqV y x = eqF dy dx := by
  cases dx <;> first | (cases hx; done) | skip
  all_goals
    cases dy <;> first | (cases hy; done) | skip
    all_goals
      cases rx
      cases ry
      rfl
theorem all_flat : ∀ {xs : List V} {ds : List D}, RpAll W G xs ds → ds.all flatD = true → xs.all flatV = true
  | _, _, .nil, _ => rfl
  | _, _, .cons r k, h => by
    rw [List.all_cons, Bool.and_eq_true] at h ⊢
    exact ⟨flat_of r h.1, all_flat k h.2⟩
theorem any_flat {x : V} {dx : D} (rx : Rp W G x dx) (hx : flatD dx = true) : ∀ {xs : List V} {ds : List D}, RpAll W G xs ds → ds.all flatD = true → inV x xs = ds.any fun y => eqF y dx
  | _, _, .nil, _ => rfl
  | _, _, .cons r k, h => by
    rw [List.all_cons, Bool.and_eq_true] at h
    have := any_flat rx hx k h.2
    unfold inV at this ⊢
    rw [List.any_cons, List.any_cons, eqF_of rx r hx h.1, this]
end
def rInU (K : PySem.W.Frag) : R2 := fun x y H Q => rInS x y H Q ∨ rIn K false x y H Q
def rNiU (K : PySem.W.Frag) : R2 := fun x y H Q => rNotInS x y H Q ∨ rIn K true x y H Q
theorem op_inU {X : Cx} : OpR X (compareOp .In) (rInU X.K) := opr_or op_inS op_in_seq
theorem op_niU {X : Cx} : OpR X (compareOp .NotIn) (rNiU X.K) := opr_or op_notInS op_notIn_seq
theorem in_seq {W : Wd} {neg : Bool} {G H : Hp} {x y : V} {dx dz : D} {ys : List D} (e : Same G H) (rx : Rp W G x dx) (ry : Rp W G y (.tup ys) ∨ Rp W G y (.lst ys))
    (ho : (if (flatD dx && ys.all flatD) = true then some (D.bl (if neg then !ys.any (fun y => eqF y dx) else ys.any fun y => eqF y dx)) else none) = some dz) {Q : VK} (q : ∀ v G' H', Gr G H G' H' → Rp W G' v dz → Q v H') : rIn W.K neg x y H Q := by
  split at ho
  · cases ho
    rename_i hz
    rw [Bool.and_eq_true] at hz
    have go : ∀ {a : Addr} {xs : List V}, (SqL W.K H a xs ∨ SqT W.K H a xs) → RpAll W G xs ys → rIn W.K neg x (.ref a) H Q := fun {a xs} hs ra =>
      ⟨a, xs, rfl, hs, flat_of rx hz.1, all_flat ra hz.2, by rw [any_flat rx hz.1 ra hz.2]; exact q _ G H (Gr.refl e) (.bl _)⟩
    rcases ry with ry | ry
    · obtain ⟨a, xs, rfl, hs, ra⟩ := ry.tup_inv
      exact go (.inr (Same.tup e hs)) ra
    · obtain ⟨a, xs, rfl, hs, ra⟩ := ry.lst_inv
      exact go (.inl (.inl (.inl (e _ _ hs)))) ra
  · cases ho
theorem opd_in {W : Wd} : OpD W (rInU W.K) (inD false) := by
  intro G H x y dx dy dz e rx ry ho Q q
  cases dy with
  | tup ys => exact .inr (in_seq e rx (.inl ry) (by cases dx <;> exact ho) q)
  | lst ys => exact .inr (in_seq e rx (.inr ry) (by cases dx <;> exact ho) q)
  | str b =>
    cases dx <;> first | (cases ho; done) | skip
    rename_i a
    have ho : (oneSign a).map (fun c => D.bl (if false = true then !decide (c ∈ b.cps.toList) else decide (c ∈ b.cps.toList))) = some dz := ho
    cases h : oneSign a with
    | none => rw [h] at ho; cases ho
    | some c =>
      rw [h] at ho
      cases ho
      rw [rx.str_inv, ry.str_inv, oneSign_eq h]
      exact .inl ⟨c, b, rfl, rfl, q _ G H (Gr.refl e) (.bl _)⟩
  | _ => cases dx <;> cases ho
theorem opd_ni {W : Wd} : OpD W (rNiU W.K) (inD true) := by
  intro G H x y dx dy dz e rx ry ho Q q
  cases dy with
  | tup ys => exact .inr (in_seq e rx (.inl ry) (by cases dx <;> exact ho) q)
  | lst ys => exact .inr (in_seq e rx (.inr ry) (by cases dx <;> exact ho) q)
  | str b =>
    cases dx <;> first | (cases ho; done) | skip
    rename_i a
    have ho : (oneSign a).map (fun c => D.bl (if true = true then !decide (c ∈ b.cps.toList) else decide (c ∈ b.cps.toList))) = some dz := ho
    cases h : oneSign a with
    | none => rw [h] at ho; cases ho
    | some c =>
      rw [h] at ho
      cases ho
      rw [rx.str_inv, ry.str_inv, oneSign_eq h]
      exact .inl ⟨c, b, rfl, rfl, q _ G H (Gr.refl e) (.bl _)⟩
  | _ => cases dx <;> cases ho

/-! ### is None, is True -/
def rIsU : R2 := fun x y H Q => rIsN x y H Q ∨ rIsB x y H Q
theorem op_isU {X : Cx} : OpR X (compareOp .Is) rIsU := opr_or op_isN1 op_isBl
def rNoU : R2 := fun x y H Q => rNotN x y H Q ∨ rNotB x y H Q
def isNon : D → Bool
  | .non => true
  | _ => false
def isD : D → D → Option D
  | x, .non => some (.bl (isNon x))
  | .bl a, .bl b => some (.bl (decide (a = b)))
  | _, _ => none
def noD : D → D → Option D
  | x, .non => some (.bl (!isNon x))
  | .bl a, .bl b => some (.bl (!decide (a = b)))
  | _, _ => none
theorem isNon_of {W : Wd} {G : Hp} {x : V} {d : D} (r : Rp W G x d) : decide (x = V.non) = isNon d := by
  cases r <;> rfl
theorem opd_is {W : Wd} : OpD W rIsU isD := by
  intro G H x y dx dy dz e rx ry ho Q q
  cases dy with
  | non =>
    have ho : some (D.bl (isNon dx)) = some dz := by cases dx <;> exact ho
    cases ho
    rw [ry.non_inv]
    exact .inl ⟨rfl, by rw [isNon_of rx]; exact q _ G H (Gr.refl e) (.bl _)⟩
  | bl b =>
    cases dx <;> first | (cases ho; done) | skip
    cases ho
    rw [rx.bl_inv, ry.bl_inv]
    exact .inr ⟨_, b, rfl, rfl, q _ G H (Gr.refl e) (.bl _)⟩
  | _ => cases dx <;> cases ho

/-! ### subscripts -/
def rIxU (K : PySem.W.Frag) : R2 := fun x y H Q => rIxL K x y H Q ∨ rIxT K x y H Q ∨ rIxS x y H Q
theorem ix_U {X : Cx} : IxR X (rIxU X.K) := IxR.or ix_list (IxR.or ix_tup ix_str)
def ixD : D → D → Option D
  | .lst xs, .int i => atI xs i
  | .tup xs, .int i => atI xs i
  | .str z, .int i => if z.length ≤ sizeLine then (atI z.cps.toList i).map fun c => .str ⟨#[c]⟩ else none
  | _, _ => none
theorem RpAll.atI {W : Wd} {G : Hp} {vs : List V} {ds : List D} {i : Int} {d : D} (r : RpAll W G vs ds) (h : atI ds i = some d) : ∃ v, L2.atI vs i = some v ∧ Rp W G v d := by
  unfold L2.atI at h ⊢
  rw [r.length]
  cases e : ixN ds.length i with
  | none => rw [e] at h; cases h
  | some j =>
    rw [e] at h
    exact r.get h
theorem opd_ix {W : Wd} : OpD W (rIxU W.K) ixD := by
  intro G H x y dx dy dz e rx ry ho Q q
  cases dx <;> first | (cases ho; done) | skip
  all_goals
    cases dy <;> first | (cases ho; done) | skip
  · rename_i z i
    have ho : (if z.length ≤ sizeLine then (L2.atI z.cps.toList i).map (fun c => D.str ⟨#[c]⟩) else none) = some dz := ho
    split at ho
    · rename_i hz
      cases h : L2.atI z.cps.toList i with
      | none => rw [h] at ho; cases ho
      | some c =>
        rw [h] at ho
        cases ho
        rw [rx.str_inv, ry.int_inv]
        exact .inr (.inr ⟨z, i, c, rfl, rfl, hz, h, q _ G H (Gr.refl e) (.str _)⟩)
    · cases ho
  · rename_i xs i
    obtain ⟨a, vs, rfl, hs, ra⟩ := rx.lst_inv
    obtain ⟨v, h1, h2⟩ := ra.atI ho
    rw [ry.int_inv]
    exact .inl ⟨a, vs, i, v, rfl, rfl, .inl (.inl (e _ _ hs)), h1, q _ G H (Gr.refl e) h2⟩
  · rename_i xs i
    obtain ⟨a, vs, rfl, hs, ra⟩ := rx.tup_inv
    obtain ⟨v, h1, h2⟩ := ra.atI ho
    rw [ry.int_inv]
    exact .inr (.inl ⟨a, vs, i, v, rfl, rfl, Same.tup e hs, h1, q _ G H (Gr.refl e) h2⟩)

/-! ### slices -/
def cut {α : Type} (xs : List α) (lo hi : Option Int) : List α := (xs.drop (HT.sIx xs.length 0 lo)).take (HT.sIx xs.length xs.length hi - HT.sIx xs.length 0 lo)
def slD : D → Option Int → Option Int → Option D
  | .lst xs, lo, hi => some (.lst (cut xs lo hi))
  | .tup xs, lo, hi => some (.tup (cut xs lo hi))
  | .frl xs, lo, hi => some (.lst (cut xs lo hi))
  | .str z, lo, hi => if z.length ≤ sizeLine then some (.str (cutS z lo hi)) else none
  | _, _, _ => none
def rSlU (K : PySem.W.Frag) : V → Option Int → Option Int → Hp → VK → Prop := fun x lo hi H Q => rSlL K x lo hi H Q ∨ rSlA K x lo hi H Q ∨ rSlS x lo hi H Q
theorem sl_U {X : Cx} : SlR X (rSlU X.K) := SlR.or sl_list (SlR.or sl_tupA sl_str)
def EvO (W : Wd) (to : TO) (env : List Sl) (R : Option Int → List Sl → Prop) : Prop :=
  ∀ (G H : Hp) (σ : L2.St), St W G H σ env → ∀ Q : Option Int → Hp → Prop, (∀ o G' H' env', St W G' H' σ env' → Tr σ env G H σ env' G' H' → R o env' → Q o H') → to σ H Q
section
variable {W : Wd} {env : List Sl} {ta tb tc te : TE}
theorem eo_none {R : Option Int → List Sl → Prop} (k : R none env) : EvO W tNoPart env R := fun G H σ S Q q => q none G H env S (Tr.refl S) k
theorem eo_some {R : Option Int → List Sl → Prop} (h : Ev W te env fun d e1 => ∃ i, d = .int i ∧ R (some i) e1) : EvO W (tPart te) env R := fun G H σ S Q q =>
  h G H σ S _ fun v d G1 H1 e1 S1 T1 r ⟨i, e, k⟩ => by
    subst e
    exact ⟨i, r.int_inv, q (some i) G1 H1 e1 S1 T1 k⟩
theorem RpAll.cut {G : Hp} {vs : List V} {ds : List D} (r : RpAll W G vs ds) (lo hi : Option Int) : RpAll W G (cutV vs lo hi) (Nv.cut ds lo hi) := by
  unfold cutV Nv.cut
  rw [r.length]
  exact (r.drop _).take _
theorem cut_whole {α : Type} {xs : List α} {lo hi : Option Int} (h1 : HT.sIx xs.length 0 lo = 0) (h2 : HT.sIx xs.length xs.length hi = xs.length) : cut xs lo hi = xs := by
  unfold cut
  rw [h1, h2]
  simp
theorem ev_sl {tl th : TO} {R : D → List Sl → Prop} (h : Ev W ta env fun x e1 => EvO W tl e1 fun lo e2 => EvO W th e2 fun hi e3 => ∃ z, slD x lo hi = some z ∧ R z e3) : Ev W (tSl (rSlU W.K) ta tl th) env R := fun G H σ S Q q =>
  h G H σ S _ fun x d G1 H1 e1 S1 T1 r1 h1 => h1 G1 H1 σ S1 _ fun lo G2 H2 e2 S2 T2 h2 => h2 G2 H2 σ S2 _ fun hi G3 H3 e3 S3 T3 w => by
    obtain ⟨z, hz, k⟩ := w
    have T := T1.trans S (T2.trans S1 T3)
    have r := r1.up (T2.gg.trans T3.gg)
    cases d <;> first | (cases hz; done) | skip
    · rename_i y
      have hz : (if y.length ≤ sizeLine then some (D.str (cutS y lo hi)) else none) = some z := hz
      split at hz
      · rename_i hl
        cases hz
        rw [r.str_inv]
        exact .inr (.inr ⟨y, rfl, hl, q _ _ G3 H3 e3 S3 T (.str _) k⟩)
      · cases hz
    · cases hz
      obtain ⟨a, vs, rfl, hs, ra⟩ := r.lst_inv
      refine .inl ⟨a, vs, rfl, .inl (.inl (S3.gh _ _ hs)), fun p hp => ?_⟩
      obtain ⟨g, rr⟩ := Gr.newL (W := W) S3.gh hp (ra.cut lo hi)
      exact q _ _ _ _ e3 (S3.up g) (T.trans S (Tr.up S3 g)) rr k
    · cases hz
      obtain ⟨a, vs, rfl, hs, ra⟩ := r.tup_inv
      refine .inr (.inl ⟨a, vs, rfl, Same.tup S3.gh hs, fun hw => ?_, fun hw p hp => ?_⟩)
      · rw [ra.length] at hw
        rw [cut_whole hw.1 hw.2] at k
        exact q _ _ G3 H3 e3 S3 T r k
      · obtain ⟨g, rr⟩ := Gr.newT (W := W) S3.gh hp (ra.cut lo hi)
        exact q _ _ _ _ e3 (S3.up g) (T.trans S (Tr.up S3 g)) rr k
    · cases hz
      obtain ⟨a, vs, rfl, hs, ra⟩ := r.frl_inv
      refine .inl ⟨a, vs, rfl, Same.lst S3.gh hs, fun p hp => ?_⟩
      obtain ⟨g, rr⟩ := Gr.newL (W := W) S3.gh hp (ra.cut lo hi)
      exact q _ _ _ _ e3 (S3.up g) (T.trans S (Tr.up S3 g)) rr k

/-! ### chains of two comparisons -/
theorem ev_chain {r r' : R2} {o o' : D → D → Option D} {R : D → List Sl → Prop} (ho : OpD W r o) (ho' : OpD W r' o')
    (h : Ev W ta env fun x e1 => Ev W tb e1 fun y e2 => ∃ b, o x y = some (.bl b) ∧ if b = true then Ev W tc e2 fun w e3 => ∃ z, o' y w = some z ∧ R z e3 else R (.bl false) e2) : Ev W (tChain r r' ta tb tc) env R := fun G H σ S Q q =>
  h G H σ S _ fun x dx G1 H1 e1 S1 T1 r1 h1 => h1 G1 H1 σ S1 _ fun y dy G2 H2 e2 S2 T2 r2 ⟨b, hb, k⟩ =>
    ho G2 H2 x y dx dy _ S2.gh (r1.up T2.gg) r2 hb _ fun v G3 H3 g r3 => by
      refine ⟨b, r3.bl_inv, ?_⟩
      have S3 := S2.up g
      have T3 := (T1.trans S T2).trans S (Tr.up S2 g)
      cases b with
      | false => exact q _ _ G3 H3 e2 S3 T3 (.bl false) k
      | true =>
        have k : Ev W tc e2 _ := k
        show tc σ H3 _
        exact k G3 H3 σ S3 _ fun w dw G4 H4 e4 S4 T4 r4 ⟨z, hz, k4⟩ => ho' G4 H4 y w dy dw z S4.gh (r2.up (g.gg.trans T4.gg)) r4 hz Q fun v G5 H5 g5 r5 => q v z G5 H5 e4 (S4.up g5) ((T3.trans S T4).trans S (Tr.up S4 g5)) r5 k4

/-! ### truth -/
def truD : D → Option Bool
  | .non => some false
  | .bl b => some b
  | .int i => some (i != 0)
  | .str y => if y.length ≤ sizeLine then some ((y.length : Int) != 0) else none
  | .lst xs => some (!xs.isEmpty)
  | .tup xs => some (!xs.isEmpty)
  | _ => none
theorem isEmpty_rp {G : Hp} {vs : List V} {ds : List D} (r : RpAll W G vs ds) : (!ds.isEmpty) = !vs.isEmpty := by cases r <;> rfl
theorem tru_of {G H : Hp} {x : V} {d : D} {b : Bool} (e : Same G H) (r : Rp W G x d) (h : truD d = some b) : TruV W.K x H b := by
  cases d <;> first | (cases h; done) | skip
  · cases h
    rw [r.non_inv]
    exact rfl
  · cases h
    rw [r.bl_inv]
    exact rfl
  · cases h
    rw [r.int_inv]
    exact rfl
  · rename_i y
    have h : (if y.length ≤ sizeLine then some ((y.length : Int) != 0) else none) = some b := h
    split at h
    · rename_i hz
      cases h
      rw [r.str_inv]
      exact ⟨hz, rfl⟩
    · cases h
  · cases h
    obtain ⟨a, vs, rfl, hs, ra⟩ := r.lst_inv
    exact .inl ⟨vs, .inl (.inl (e _ _ hs)), isEmpty_rp ra⟩
  · cases h
    obtain ⟨a, vs, rfl, hs, ra⟩ := r.tup_inv
    exact .inr (.inl ⟨vs, Same.tup e hs, isEmpty_rp ra⟩)
theorem et_tru {R : Bool → List Sl → Prop} (h : Ev W te env fun d e1 => ∃ b, truD d = some b ∧ R b e1) : EvT W (tTru W.K te) env R := fun G H σ S Q q =>
  h G H σ S _ fun v d G1 H1 e1 S1 T1 r ⟨b, hb, k⟩ => ⟨b, tru_of S1.gh r hb, q b G1 H1 e1 S1 T1 k⟩

/-! ### what is walked -/
theorem isw_list {G : Hp} {a : Addr} {vs : List V} {ds : List D} (hs : G a = some (.lst vs)) (r : RpAll W G vs ds) : IsW W (Itl W.K a) G ds where
  go := fun i G' H' e e' h => ⟨vs, vs[i]'(by rw [r.length]; exact h), .inl (.inl (e' _ _ (e _ _ hs))), by simp [r.length, h]⟩
  stop := fun G' H' e e' => ⟨vs, .inl (.inl (e' _ _ (e _ _ hs))), Nat.le_of_eq r.length⟩
  yld := fun i G' H' x H'' d e e' hd ⟨eq, y⟩ => by
    subst eq
    obtain ⟨v, h1, h2⟩ := r.get hd
    have := y vs (.inl (.inl (e' _ _ (e _ _ hs))))
    rw [h1] at this
    cases this
    exact ⟨G', Gr.refl e', h2.up e⟩
theorem isw_tup {G : Hp} {a : Addr} {vs : List V} {ds : List D} (hs : SqT W.K G a vs) (r : RpAll W G vs ds) : IsW W (Itt W.K a) G ds where
  go := fun i G' H' e e' h => ⟨vs, vs[i]'(by rw [r.length]; exact h), Same.tup e' (Same.tup e hs), by simp [r.length, h]⟩
  stop := fun G' H' e e' => ⟨vs, Same.tup e' (Same.tup e hs), Nat.le_of_eq r.length⟩
  yld := fun i G' H' x H'' d e e' hd ⟨eq, y⟩ => by
    subst eq
    obtain ⟨v, h1, h2⟩ := r.get hd
    have := y vs (Same.tup e' (Same.tup e hs))
    rw [h1] at this
    cases this
    exact ⟨G', Gr.refl e', h2.up e⟩
def signs (z : Str) : List D := z.cps.toList.map fun c => .str ⟨#[c]⟩
theorem isw_str {G : Hp} (z : Str) : IsW W (Its z) G (signs z) where
  go := fun i G' H' e e' h => by
    show i < z.cps.size
    simpa [signs] using h
  stop := fun G' H' e e' => by
    show z.cps.size ≤ (signs z).length
    simp [signs]
  yld := fun i G' H' x H'' d e e' hd ⟨eq, c, hc, hx⟩ => by
    subst eq hx
    have : d = .str ⟨#[c]⟩ := by
      unfold signs at hd
      rw [List.getElem?_map, Array.getElem?_toList, hc] at hd
      cases hd
      rfl
    subst this
    exact ⟨G', Gr.refl e', .str _⟩
def upto (n : Nat) : List D := (List.range n).map fun k : Nat => .int (k : Int)
theorem isw_rng {G : Hp} (n : Nat) : IsW W (Itr 0 n) G (upto n) where
  go := fun i G' H' e e' h => by
    show i < n
    simpa [upto] using h
  stop := fun G' H' e e' => by
    show n ≤ (upto n).length
    simp [upto]
  yld := fun i G' H' x H'' d e e' hd ⟨eq, hx⟩ => by
    subst eq hx
    have hi : i < n := by
      have := (List.getElem?_eq_some_iff.mp hd).1
      simpa [upto] using this
    have : d = .int (i : Int) := by
      unfold upto at hd
      rw [List.getElem?_map, List.getElem?_range hi] at hd
      cases hd
      rfl
    subst this
    rw [Int.zero_add]
    exact ⟨G', Gr.refl e', .int _⟩
theorem ei_list {tl : TE} {R : List D → List Sl → Prop} (h : Ev W tl env fun d e1 => ∃ xs, d = .lst xs ∧ R xs e1) : EvI W (iList W.K tl) env R := fun G H σ S Q q =>
  h G H σ S _ fun v d G1 H1 e1 S1 T1 r ⟨xs, e, k⟩ => by
    subst e
    obtain ⟨a, vs, rfl, hs, ra⟩ := r.lst_inv
    exact ⟨a, rfl, ⟨vs, .inl (.inl (S1.gh _ _ hs))⟩, q _ xs G1 H1 e1 S1 T1 (isw_list hs ra) k⟩
theorem ei_tup {tl : TE} {R : List D → List Sl → Prop} (h : Ev W tl env fun d e1 => ∃ xs, d = .tup xs ∧ R xs e1) : EvI W (iTup W.K tl) env R := fun G H σ S Q q =>
  h G H σ S _ fun v d G1 H1 e1 S1 T1 r ⟨xs, e, k⟩ => by
    subst e
    obtain ⟨a, vs, rfl, hs, ra⟩ := r.tup_inv
    exact ⟨a, rfl, ⟨vs, Same.tup S1.gh hs⟩, q _ xs G1 H1 e1 S1 T1 (isw_tup hs ra) k⟩
theorem ei_str {tl : TE} {R : List D → List Sl → Prop} (h : Ev W tl env fun d e1 => ∃ z, d = .str z ∧ R (signs z) e1) : EvI W (iStr tl) env R := fun G H σ S Q q =>
  h G H σ S _ fun v d G1 H1 e1 S1 T1 r ⟨z, e, k⟩ => by
    subst e
    exact ⟨z, r.str_inv, q _ _ G1 H1 e1 S1 T1 (isw_str z) k⟩
theorem ei_rng {tl : TA} {R : List D → List Sl → Prop} (h : EvA W tl env fun ds e1 => ∃ n : Int, ds = [.int n] ∧ -(2 ^ 62) ≤ n ∧ n < 2 ^ 62 ∧ R (upto n.toNat) e1) : EvI W (iRng1 tl) env R := fun G H σ S Q q =>
  h G H σ S _ fun vs ds G1 H1 e1 S1 T1 r ⟨n, e, h1, h2, k⟩ => by
    subst e
    cases r with
    | cons r1 r2 =>
      cases r2
      rw [r1.int_inv]
      exact ⟨n, rfl, h1, h2, q _ _ G1 H1 e1 S1 T1 (isw_rng n.toNat) k⟩
end
end Nv

set_option Elab.async false
set_option linter.all false
set_option maxRecDepth 100000
set_option maxHeartbeats 4000000
/-! NvB: built-ins by data. -/
namespace Nv
open PySem L2 PyProof.Rows PySem.Spec

section
variable {W : Wd} {env : List Sl} {ta tb te : TE} {R : D → List Sl → Prop}

/-! ### len -/
def rLenU (K : PySem.W.Frag) : List V → Hp → VK → Prop := fun xs H Q => (∃ p ys, xs = [.ref p] ∧ (SqL K H p ys ∨ SqT K H p ys) ∧ Q (.int ys.length) H) ∨ ∃ z, xs = [.str z] ∧ z.length ≤ sizeLine ∧ Q (.int z.length) H
theorem cr_lenU {X : Cx} : CallR X (.builtin "len") (rLenU X.K) := callr_or call_len_seq call_len_str
def lenD : List D → Option D
  | [.lst xs] => some (.int xs.length)
  | [.tup xs] => some (.int xs.length)
  | [.str z] => if z.length ≤ sizeLine then some (.int z.length) else none
  | _ => none
/-- one argument -/
theorem rp1 {G : Hp} {xs : List V} {d : D} (r : RpAll W G xs [d]) : ∃ v, xs = [v] ∧ Rp W G v d := by
  cases r with
  | cons h k => cases k; exact ⟨_, rfl, h⟩
theorem rp2 {G : Hp} {xs : List V} {d e : D} (r : RpAll W G xs [d, e]) : ∃ v w, xs = [v, w] ∧ Rp W G v d ∧ Rp W G w e := by
  cases r with
  | cons h k =>
    obtain ⟨w, rfl, q⟩ := rp1 k
    exact ⟨_, w, rfl, h, q⟩
theorem cd_len : CallD W (rLenU W.K) lenD := by
  intro G H xs ds dz e r ho Q q
  cases ds with
  | nil => cases ho
  | cons d ds =>
    cases ds with
    | cons d' ds => cases d <;> cases ho
    | nil =>
      obtain ⟨v, rfl, r0⟩ := rp1 r
      clear r
      cases d <;> first | (cases ho; done) | skip
      · rename_i z
        have ho : (if z.length ≤ sizeLine then some (D.int z.length) else none) = some dz := ho
        split at ho
        · rename_i hz
          cases ho
          rw [r0.str_inv]
          exact .inr ⟨z, rfl, hz, q _ G H (Gr.refl e) (.int _)⟩
        · cases ho
      · cases ho
        obtain ⟨a, vs, rfl, hs, ra⟩ := r0.lst_inv
        exact .inl ⟨a, vs, rfl, .inl (.inl (.inl (e _ _ hs))), by rw [ra.length]; exact q _ G H (Gr.refl e) (.int _)⟩
      · cases ho
        obtain ⟨a, vs, rfl, hs, ra⟩ := r0.tup_inv
        exact .inl ⟨a, vs, rfl, .inr (Same.tup e hs), by rw [ra.length]; exact q _ G H (Gr.refl e) (.int _)⟩

/-! ### isinstance with a built-in class -/
def kindD : D → String
  | .non => "NoneType"
  | .bl _ => "bool"
  | .int _ => "int"
  | .str _ => "str"
  | .lst _ => "list"
  | .tup _ => "tuple"
  | .dct _ => "dict"
  | _ => ""
theorem ty_of {G H : Hp} {x : V} {d : D} (e : Same G H) (r : Rp W G x d) (hk : kindD d ≠ "") : TyX W.K H x (.type (kindD d)) := by
  cases r with
  | non => exact .base .non
  | bl b => exact .base (.bl b)
  | int i => exact .base (.int i)
  | str x => exact .base (.str x)
  | ty n => exact absurd rfl hk
  | frl h k => exact absurd rfl hk
  | lst h k => exact .base (.lst (e _ _ h))
  | tup h k =>
    rcases h with (h | ⟨o, h⟩) | ⟨o, its, n, h, c, _⟩
    · exact .base (.tup (e _ _ h))
    · exact .fTuple (e _ _ h)
    · exact .kTuple h c
  | dct h q k =>
    rcases h with h | ⟨o, h⟩
    · exact .base (.dK (e _ _ h))
    · exact .fDict (e _ _ h)
  | ins h q k => exact absurd rfl hk
/-- p tells of every kind whether it is a T -/
structure IsK (T : String) (p : D → Bool) : Prop where
  ok : ∀ d, kindD d ≠ "" → kitB (kindD d) T = some (p d)
theorem ev_isT {T : String} {p : D → Bool} (k : IsK T p) (h : Ev W te env fun d e1 => kindD d ≠ "" ∧ R (.bl (p d)) e1) : Ev W (tCB (rIsi W.K) (tCons te (tCons (tC (.ty T)) tNil))) env R := fun G H σ S Q q =>
  h G H σ S _ fun v d G1 H1 e1 S1 T1 r ⟨hk, hr⟩ => ⟨v, .ty T, _, _, p d, rfl, .ty T, ty_of S1.gh r hk, kit_ty (k.ok d hk), q _ _ G1 H1 e1 S1 T1 (.bl _) hr⟩
def isStrD : D → Bool
  | .str _ => true
  | _ => false
def isTupD : D → Bool
  | .tup _ => true
  | _ => false
def isLstD : D → Bool
  | .lst _ => true
  | _ => false
def isDctD : D → Bool
  | .dct _ => true
  | _ => false
def isIntD : D → Bool
  | .int _ => true
  | .bl _ => true
  | _ => false
def isBlD : D → Bool
  | .bl _ => true
  | _ => false
theorem isk_str : IsK "str" isStrD := ⟨fun d hd => match d, hd with
  | .non, _ => (by decide +kernel : kitB "NoneType" "str" = some false)
  | .bl _, _ => (by decide +kernel : kitB "bool" "str" = some false)
  | .int _, _ => (by decide +kernel : kitB "int" "str" = some false)
  | .str _, _ => (by decide +kernel : kitB "str" "str" = some true)
  | .lst _, _ => (by decide +kernel : kitB "list" "str" = some false)
  | .tup _, _ => (by decide +kernel : kitB "tuple" "str" = some false)
  | .dct _, _ => (by decide +kernel : kitB "dict" "str" = some false)
  | .ins _ _, h => absurd rfl h
  | .ty _, h => absurd rfl h
  | .frl _, h => absurd rfl h⟩
theorem isk_tup : IsK "tuple" isTupD := ⟨fun d hd => match d, hd with
  | .non, _ => (by decide +kernel : kitB "NoneType" "tuple" = some false)
  | .bl _, _ => (by decide +kernel : kitB "bool" "tuple" = some false)
  | .int _, _ => (by decide +kernel : kitB "int" "tuple" = some false)
  | .str _, _ => (by decide +kernel : kitB "str" "tuple" = some false)
  | .lst _, _ => (by decide +kernel : kitB "list" "tuple" = some false)
  | .tup _, _ => (by decide +kernel : kitB "tuple" "tuple" = some true)
  | .dct _, _ => (by decide +kernel : kitB "dict" "tuple" = some false)
  | .ins _ _, h => absurd rfl h
  | .ty _, h => absurd rfl h
  | .frl _, h => absurd rfl h⟩
theorem isk_lst : IsK "list" isLstD := ⟨fun d hd => match d, hd with
  | .non, _ => (by decide +kernel : kitB "NoneType" "list" = some false)
  | .bl _, _ => (by decide +kernel : kitB "bool" "list" = some false)
  | .int _, _ => (by decide +kernel : kitB "int" "list" = some false)
  | .str _, _ => (by decide +kernel : kitB "str" "list" = some false)
  | .lst _, _ => (by decide +kernel : kitB "list" "list" = some true)
  | .tup _, _ => (by decide +kernel : kitB "tuple" "list" = some false)
  | .dct _, _ => (by decide +kernel : kitB "dict" "list" = some false)
  | .ins _ _, h => absurd rfl h
  | .ty _, h => absurd rfl h
  | .frl _, h => absurd rfl h⟩
theorem isk_dct : IsK "dict" isDctD := ⟨fun d hd => match d, hd with
  | .non, _ => (by decide +kernel : kitB "NoneType" "dict" = some false)
  | .bl _, _ => (by decide +kernel : kitB "bool" "dict" = some false)
  | .int _, _ => (by decide +kernel : kitB "int" "dict" = some false)
  | .str _, _ => (by decide +kernel : kitB "str" "dict" = some false)
  | .lst _, _ => (by decide +kernel : kitB "list" "dict" = some false)
  | .tup _, _ => (by decide +kernel : kitB "tuple" "dict" = some false)
  | .dct _, _ => (by decide +kernel : kitB "dict" "dict" = some true)
  | .ins _ _, h => absurd rfl h
  | .ty _, h => absurd rfl h
  | .frl _, h => absurd rfl h⟩
theorem isk_int : IsK "int" isIntD := ⟨fun d hd => match d, hd with
  | .non, _ => (by decide +kernel : kitB "NoneType" "int" = some false)
  | .bl _, _ => (by decide +kernel : kitB "bool" "int" = some true)
  | .int _, _ => (by decide +kernel : kitB "int" "int" = some true)
  | .str _, _ => (by decide +kernel : kitB "str" "int" = some false)
  | .lst _, _ => (by decide +kernel : kitB "list" "int" = some false)
  | .tup _, _ => (by decide +kernel : kitB "tuple" "int" = some false)
  | .dct _, _ => (by decide +kernel : kitB "dict" "int" = some false)
  | .ins _ _, h => absurd rfl h
  | .ty _, h => absurd rfl h
  | .frl _, h => absurd rfl h⟩
theorem isk_bl : IsK "bool" isBlD := ⟨fun d hd => match d, hd with
  | .non, _ => (by decide +kernel : kitB "NoneType" "bool" = some false)
  | .bl _, _ => (by decide +kernel : kitB "bool" "bool" = some true)
  | .int _, _ => (by decide +kernel : kitB "int" "bool" = some false)
  | .str _, _ => (by decide +kernel : kitB "str" "bool" = some false)
  | .lst _, _ => (by decide +kernel : kitB "list" "bool" = some false)
  | .tup _, _ => (by decide +kernel : kitB "tuple" "bool" = some false)
  | .dct _, _ => (by decide +kernel : kitB "dict" "bool" = some false)
  | .ins _ _, h => absurd rfl h
  | .ty _, h => absurd rfl h
  | .frl _, h => absurd rfl h⟩

/-! ### int(x), abs(x), min(x, y) -/
def intOfD : List D → Option D
  | [.int i] => some (.int i)
  | [.bl b] => some (.int (if b then 1 else 0))
  | _ => none
theorem cd_int : CallD W (fun xs H Q => (∃ i, xs = [.int i] ∧ Q (.int i) H) ∨ ∃ k, xs = [.bl k] ∧ Q (.int (if k then 1 else 0)) H) intOfD := by
  intro G H xs ds dz e r ho Q q
  cases ds with
  | nil => cases ho
  | cons d ds =>
    cases ds with
    | cons d' ds => cases d <;> cases ho
    | nil =>
      obtain ⟨v, rfl, r0⟩ := rp1 r
      cases d <;> first | (cases ho; done) | skip
      · cases ho
        rw [r0.bl_inv]
        exact .inr ⟨_, rfl, q _ G H (Gr.refl e) (.int _)⟩
      · cases ho
        rw [r0.int_inv]
        exact .inl ⟨_, rfl, q _ G H (Gr.refl e) (.int _)⟩
def absD : List D → Option D
  | [.int i] => some (.int (if i < 0 then -i else i))
  | _ => none
theorem cd_abs : CallD W (fun xs H Q => ∃ i, xs = [.int i] ∧ Q (.int (if i < 0 then -i else i)) H) absD := by
  intro G H xs ds dz e r ho Q q
  cases ds with
  | nil => cases ho
  | cons d ds =>
    cases ds with
    | cons d' ds => cases d <;> cases ho
    | nil =>
      obtain ⟨v, rfl, r0⟩ := rp1 r
      cases d <;> first | (cases ho; done) | skip
      cases ho
      rw [r0.int_inv]
      exact ⟨_, rfl, q _ G H (Gr.refl e) (.int _)⟩
def min2D : List D → Option D
  | [.int i, .int j] => some (.int (if j < i then j else i))
  | _ => none
theorem cd_min2 : CallD W (fun xs H Q => ∃ i j, xs = [.int i, .int j] ∧ Q (.int (if j < i then j else i)) H) min2D := by
  intro G H xs ds dz e r ho Q q
  cases ds with
  | nil => cases ho
  | cons d ds =>
    cases ds with
    | nil => cases d <;> cases ho
    | cons d' ds =>
      cases ds with
      | cons d'' ds => cases d <;> cases d' <;> cases ho
      | nil =>
        obtain ⟨v, w, rfl, r1, r2⟩ := rp2 r
        cases d <;> first | (cases ho; done) | skip
        cases d' <;> first | (cases ho; done) | skip
        cases ho
        rw [r1.int_inv, r2.int_inv]
        exact ⟨_, _, rfl, q _ G H (Gr.refl e) (.int _)⟩

/-! ### tuple(x), list(x) -/
def tupOfD : List D → Option D
  | [.lst xs] => some (.tup xs)
  | [.tup xs] => some (.tup xs)
  | _ => none
theorem cd_tuple : CallD W (fun xs H Q => ∃ p ys, xs = [.ref p] ∧ ((SqL W.K H p ys ∧ ∀ l, H l = none → Q (.ref l) (upd H l (.tup ys))) ∨ (SqT W.K H p ys ∧ Q (.ref p) H))) tupOfD := by
  intro G H xs ds dz e r ho Q q
  cases ds with
  | nil => cases ho
  | cons d ds =>
    cases ds with
    | cons d' ds => cases d <;> cases ho
    | nil =>
      obtain ⟨v, rfl, r0⟩ := rp1 r
      cases d <;> first | (cases ho; done) | skip
      · cases ho
        obtain ⟨a, vs, rfl, hs, ra⟩ := r0.lst_inv
        refine ⟨a, vs, rfl, .inl ⟨.inl (.inl (e _ _ hs)), fun p hp => ?_⟩⟩
        obtain ⟨g, rr⟩ := Gr.newT (W := W) e hp ra
        exact q _ _ _ g rr
      · cases ho
        obtain ⟨a, vs, rfl, hs, ra⟩ := r0.tup_inv
        exact ⟨a, vs, rfl, .inr ⟨Same.tup e hs, q _ G H (Gr.refl e) r0⟩⟩
/-- list(x): a new list -/
theorem evf_list {tr : TA} {R : List D → List Sl → Prop} (h : EvA W tr env fun ds e1 => ∃ xs, (ds = [.lst xs] ∨ ds = [.tup xs]) ∧ R xs e1) : EvF W (tCB (fun xs H Q => ∃ p ys, xs = [.ref p] ∧ (SqL W.K H p ys ∨ SqT W.K H p ys) ∧ ∀ l, H l = none → Q (.ref l) (upd H l (.lst ys))) tr) env R := fun G H σ S Q q =>
  h G H σ S _ fun vs ds G1 H1 e1 S1 T1 r ⟨xs, hx, k⟩ => by
    have go : ∀ {a : Addr} {ys : List V}, (SqL W.K H1 a ys ∨ SqT W.K H1 a ys) → RpAll W G1 ys xs → vs = [.ref a] → (∃ p ys, vs = [.ref p] ∧ (SqL W.K H1 p ys ∨ SqT W.K H1 p ys) ∧ ∀ l, H1 l = none → Q (.ref l) (upd H1 l (.lst ys))) := fun {a ys} hs ra ev => by
      refine ⟨a, ys, ev, hs, fun p hp => ?_⟩
      have no : ¬ own σ e1 p := fun z => by
        obtain ⟨_, o, ho⟩ := S1.own_at z
        rw [hp] at ho
        cases ho
      have h0 : H p = none := by
        cases z : H p with
        | none => rfl
        | some o => exact absurd hp (T1.kp p (by rw [z]; exact fun y => nomatch y))
      exact q p ys xs G1 _ e1 (S1.mut (S1.gh.free hp) no) (T1.late h0) h0 upd_same (S1.gh.free hp) no ra k
    rcases hx with hx | hx
    · subst hx
      obtain ⟨v, rfl, r0⟩ := rp1 r
      obtain ⟨a, ys, rfl, hs, ra⟩ := r0.lst_inv
      exact go (.inl (.inl (.inl (S1.gh _ _ hs)))) ra rfl
    · subst hx
      obtain ⟨v, rfl, r0⟩ := rp1 r
      obtain ⟨a, ys, rfl, hs, ra⟩ := r0.tup_inv
      exact go (.inr (Same.tup S1.gh hs)) ra rfl

/-! ### all(list of bools) -/
theorem bls_of {G : Hp} : ∀ {vs : List V} {bs : List Bool}, RpAll W G vs (bs.map D.bl) → vs = bs.map V.bl
  | _, [], r => by cases r; rfl
  | _, b :: bs, r => by
    cases r with
    | cons h k =>
      rw [h.bl_inv, bls_of k]
      rfl
theorem ev_all {tr : TA} (h : EvA W tr env fun ds e1 => ∃ bs : List Bool, ds = [.lst (bs.map D.bl)] ∧ R (.bl (bs.all id)) e1) : Ev W (tCB (rAll W.K) tr) env R := fun G H σ S Q q =>
  h G H σ S _ fun vs ds G1 H1 e1 S1 T1 r ⟨bs, hx, k⟩ => by
    subst hx
    obtain ⟨v, rfl, r0⟩ := rp1 r
    obtain ⟨a, ys, rfl, hs, ra⟩ := r0.lst_inv
    rw [bls_of ra] at hs
    exact ⟨a, bs, rfl, .inl (.inl (S1.gh _ _ hs)), q _ _ G1 H1 e1 S1 T1 (.bl _) k⟩

/-! ### repr -/
mutual
def D.py : D → PyData
  | .non => .none
  | .bl b => .bool b
  | .int i => .int i
  | .str x => .str x
  | .lst xs => .list (pyAll xs)
  | .tup xs => .tuple (pyAll xs)
  | .dct kvs => .dict (pyKv kvs)
  | .ins _ _ => .none
  | .ty _ => .none
  | .frl _ => .none
def pyAll : List D → List PyData
  | [] => []
  | d :: ds => d.py :: pyAll ds
def pyKv : List (Key × D) → List (PyData × PyData)
  | [] => []
  | (.inl i, d) :: r => (.int i, d.py) :: pyKv r
  | (.inr x, d) :: r => (.str x, d.py) :: pyKv r
end
mutual
def D.plain : D → Bool
  | .lst xs => plainAll xs
  | .tup xs => plainAll xs
  | .dct kvs => plainKv kvs
  | .ins _ _ => false
  | .ty _ => false
  | .frl _ => false
  | _ => true
def plainAll : List D → Bool
  | [] => true
  | d :: ds => d.plain && plainAll ds
def plainKv : List (Key × D) → Bool
  | [] => true
  | (_, d) :: r => d.plain && plainKv r
end
theorem dt_kv {G : Hp} : ∀ {ds : List (Key × D)} {kvs : List (Key × V)}, kvs.map (·.1) = ds.map (·.1) → (∀ d ∈ ds, d.2.plain = true) → (∀ (v : V) (d : D), Rp W G v d → d.plain = true → (∃ k, (k, d) ∈ ds) → Dt W.K G v d.py) → RpAll W G (kvs.map (·.2)) (ds.map (·.2)) → DtKv W.K G kvs (pyKv ds)
  | [], kvs, e, _, _, r => by
    cases kvs with
    | nil => exact .nil
    | cons p kvs => cases e
  | (k, d) :: ds, kvs, e, hp, f, r => by
    cases kvs with
    | nil => cases e
    | cons p kvs =>
      obtain ⟨k', v⟩ := p
      have e1 : k' = k := by simpa using (List.cons.inj e).1
      subst e1
      cases r with
      | cons h q =>
        have ih := dt_kv (ds := ds) (kvs := kvs) (List.cons.inj e).2 (fun x hx => hp x (List.mem_cons_of_mem _ hx)) (fun v d r0 p0 ⟨k0, hk⟩ => f v d r0 p0 ⟨k0, List.mem_cons_of_mem _ hk⟩) q
        have h0 := f v d h (hp (k', d) List.mem_cons_self) ⟨k', List.mem_cons_self⟩
        cases k' with
        | inl i => exact .int h0 ih
        | inr x => exact .str h0 ih
theorem plainKv_mem : ∀ {ds : List (Key × D)}, plainKv ds = true → ∀ d ∈ ds, d.2.plain = true
  | [], _, d, h => by cases h
  | (k, x) :: r, h, d, hd => by
    have h : (x.plain && plainKv r) = true := h
    rw [Bool.and_eq_true] at h
    rcases List.mem_cons.mp hd with z | z
    · subst z
      exact h.1
    · exact plainKv_mem h.2 d z
mutual
theorem dt_of {G : Hp} : ∀ (d : D) (v : V), Rp W G v d → d.plain = true → Dt W.K G v d.py
  | .non, _, r, _ => by rw [r.non_inv]; exact .non
  | .bl b, _, r, _ => by rw [r.bl_inv]; exact .bl b
  | .int i, _, r, _ => by rw [r.int_inv]; exact .int i
  | .str x, _, r, _ => by rw [r.str_inv]; exact .str x
  | .lst xs, _, r, h => by
    obtain ⟨a, vs, rfl, hs, ra⟩ := r.lst_inv
    exact .lst (.inl (.inl hs)) (dt_all xs vs ra h)
  | .tup xs, _, r, h => by
    obtain ⟨a, vs, rfl, hs, ra⟩ := r.tup_inv
    exact .tup hs (dt_all xs vs ra h)
  | .dct ds, _, r, h => by
    obtain ⟨a, kvs, rfl, hs, e, ra⟩ := r.dct_inv
    exact .dct hs (dt_kv2 ds kvs e ra h)
  | .ins _ _, _, _, h => nomatch h
  | .ty _, _, _, h => nomatch h
  | .frl _, _, _, h => nomatch h
theorem dt_all {G : Hp} : ∀ (ds : List D) (vs : List V), RpAll W G vs ds → plainAll ds = true → DtAll W.K G vs (pyAll ds)
  | [], _, r, _ => by cases r; exact .nil
  | d :: ds, _, r, h => by
    have h : (d.plain && plainAll ds) = true := h
    rw [Bool.and_eq_true] at h
    cases r with
    | cons r1 r2 => exact .cons (dt_of d _ r1 h.1) (dt_all ds _ r2 h.2)
theorem dt_kv2 {G : Hp} : ∀ (ds : List (Key × D)) (kvs : List (Key × V)), kvs.map (·.1) = ds.map (·.1) → RpAll W G (kvs.map (·.2)) (ds.map (·.2)) → plainKv ds = true → DtKv W.K G kvs (pyKv ds)
  | [], kvs, e, _, _ => by
    cases kvs with
    | nil => exact .nil
    | cons p kvs => cases e
  | (k, d) :: ds, kvs, e, r, h => by
    have hh : (d.plain && plainKv ds) = true := h
    rw [Bool.and_eq_true] at hh
    cases kvs with
    | nil => cases e
    | cons p kvs =>
      obtain ⟨k', v⟩ := p
      have e1 : k' = k := by simpa using (List.cons.inj e).1
      subst e1
      cases r with
      | cons r1 r2 =>
        have ih := dt_kv2 ds kvs (List.cons.inj e).2 r2 hh.2
        have h0 := dt_of d v r1 hh.1
        cases k' with
        | inl i => exact .int h0 ih
        | inr x => exact .str h0 ih
end
/-- what repr may be asked of -/
structure Rok (d : D) : Prop where
  plain : d.plain = true
  tells : tells d.py = true
  show_ : d.py.showable = true
  depth : d.py.depth ≤ 60
  len : d.py.shown.length ≤ sizeLine
theorem ev_repr {tr : TA} (h : EvA W tr env fun ds e1 => ∃ d, ds = [d] ∧ Rok d ∧ R (.str d.py.shown) e1) : Ev W (tCB (rRepr W.K) tr) env R := fun G H σ S Q q =>
  h G H σ S _ fun vs ds G1 H1 e1 S1 T1 r ⟨d, hx, ok, k⟩ => by
    subst hx
    obtain ⟨v, rfl, r0⟩ := rp1 r
    exact ⟨v, d.py, rfl, Dt.up S1.gh _ _ (dt_of d v r0 ok.plain), ok.tells, ok.show_, ok.depth, ok.len, q _ _ G1 H1 e1 S1 T1 (.str _) k⟩

/-! ### methods of texts: s.split(t), s.join(xs) -/
def MetD (W : Wd) (r : V → List V → Hp → VK → Prop) (o : D → D → Option D) : Prop :=
  ∀ (G H : Hp) (x y : V) (dx dy dz : D), Same G H → Rp W G x dx → Rp W G y dy → o dx dy = some dz → ∀ Q : VK, (∀ v G' H', Gr G H G' H' → Rp W G' v dz → Q v H') → r x [y] H Q
theorem ev_m1 {r : V → List V → Hp → VK → Prop} {o : D → D → Option D} (ho : MetD W r o) (h : Ev W ta env fun x e1 => (∃ a, x = .str a) ∧ Ev W tb e1 fun y e2 => ∃ z, o x y = some z ∧ R z e2) : Ev W (tM1 r ta tb) env R := fun G H σ S Q q =>
  h G H σ S _ fun x dx G1 H1 e1 S1 T1 r1 ⟨⟨a, ea⟩, h1⟩ => ⟨by subst ea; exact ⟨a, r1.str_inv⟩, h1 G1 H1 σ S1 _ fun y dy G2 H2 e2 S2 T2 r2 ⟨z, hz, k⟩ =>
    ho G2 H2 x y dx dy z S2.gh (r1.up T2.gg) r2 hz Q fun v G3 H3 g r3 => q v z G3 H3 e2 (S2.up g) ((T1.trans S T2).trans S (Tr.up S2 g)) r3 k⟩
def splitD : D → D → Option D
  | .str a, .str b => if (b.length == 0) = false ∧ a.length + 2 ≤ sizeLine then some (.lst ((Txt.split a b).map D.str)) else none
  | _, _ => none
theorem rp_strs {G : Hp} : ∀ ys : List Str, RpAll W G (ys.map V.str) (ys.map D.str)
  | [] => .nil
  | y :: ys => .cons (.str y) (rp_strs ys)
theorem md_split : MetD W (fun x xs H Q => ∃ a b, x = .str a ∧ xs = [.str b] ∧ (b.length == 0) = false ∧ a.length + 2 ≤ sizeLine ∧ rNewStrs (Txt.split a b) H Q) splitD := by
  intro G H x y dx dy dz e rx ry ho Q q
  cases dx <;> first | (cases ho; done) | skip
  cases dy <;> first | (cases ho; done) | skip
  rename_i a b
  have ho : (if (b.length == 0) = false ∧ a.length + 2 ≤ sizeLine then some (D.lst ((Txt.split a b).map D.str)) else none) = some dz := ho
  split at ho
  · rename_i hz
    cases ho
    rw [rx.str_inv, ry.str_inv]
    refine ⟨a, b, rfl, rfl, hz.1, hz.2, fun p hp => ?_⟩
    obtain ⟨g, rr⟩ := Gr.newL (W := W) e hp (rp_strs (W := W) (G := G) (Txt.split a b))
    exact q _ _ _ g rr
  · cases ho
end
end Nv

set_option Elab.async false
set_option linter.all false
set_option maxRecDepth 100000
set_option maxHeartbeats 4000000
/-! NvX: what a law's own text wants: its defs and constants by name. -/
namespace Nv
open PySem L2 PyProof.Rows PySem.Spec

/-- a def of the text, by its name -/
structure DefAt (K : PySem.W.Frag) (mg : Str → Option Value) (x : Str) (st : Stmt) (ps : List Str) where
  f : Addr
  fd : FuncData
  fn : Fun K x x st f fd
  mg : mg x = some (.ref f)
  bd : Binds K fd ps []
def Const (mg : Str → Option Value) (x : Str) (v : V) : Prop := ∃ u, mg x = some u ∧ RelV v u
theorem pe_const {X : Cx} {x : Str} {v : V} {pos : Pos} (hx : Gl X x) (h : Const X.mg x v) (hd : (x == ("__debug__" : Str)) = false := by decide) : PE X (.Name x pos) (tC v) := by
  obtain ⟨u, h1, h2⟩ := h
  exact pe_glob hx h1 h2 hd
theorem pt_tru {X : Cx} {a : Expr} {ta : TE} (ha : PE X a ta) (he : ∀ whole, isTrue a X.env whole = (do let v ← whole; standAt a.pos; holding [v] (truthy v))) : PT X a (tTru X.K ta) := pt_truth ha he
theorem pip_of {X : Cx} {op : Operator} {r : R2} (h : OpR X (inplaceOp op) r) : PIp X op (fun x y H Q => r x y H Q) := fun pins s σ H x y v u Q I rx ry q => h pins s σ H x y v u Q I rx ry q
/-- name op= e -/
theorem run_aug {W : Wd} {env : List Sl} {P : Post} {j : Nat} {te : TE} {r : R2} {o : D → D → Option D} (ho : OpD W r o) (h : Ev W te env fun y e1 => ∃ x z, e1[j]? = some (.d x) ∧ o x y = some z ∧ P.nx (e1.set j (.d z))) (h0 : ∃ x, env[j]? = some (.d x)) : Run W (tAug j te (fun x y H Q => r x y H Q)) env P := fun G H σ E S n rt b c => by
  obtain ⟨x0, e0⟩ := h0
  obtain ⟨v, ev, rv⟩ := S.ok j _ e0
  refine ⟨v, ev, h G H σ S _ fun w d G1 H1 e1 S1 T1 r1 ⟨x, z, e2, hz, k⟩ => ?_⟩
  obtain ⟨v', ev', rv'⟩ := S1.ok j _ e2
  rw [ev] at ev'
  cases ev'
  refine ho G1 H1 v w x d z S1.gh rv' r1 hz _ fun y G2 H2 g r2 => ?_
  exact n G2 H2 _ _ ((S1.up g).set r2) ((T1.trans S (Tr.up S1 g)).trans S (Tr.set (S1.up g) fun s es => by rw [e2] at es; cases es; rfl)) k
theorem opd_iadd {W : Wd} : OpD W (rI0 fun i j => .int (i + j)) (intD fun i j => some (.int (i + j))) := opd_I0 fun _ _ _ => .int _
end Nv
namespace Nv
open PySem L2 PyProof.Rows PySem.Spec
/-! ### the rules with the written part said (a comprehension's block has its own context, but the same written part) -/
section
variable {X : Cx} {K : PySem.W.Frag}
theorem ka_add (h : X.K = K) : OpR X (binaryOp .Add) (rAddU K) := h ▸ op_addU
theorem ka_in (h : X.K = K) : OpR X (compareOp .In) (rInU K) := h ▸ op_inU
theorem ka_ni (h : X.K = K) : OpR X (compareOp .NotIn) (rNiU K) := h ▸ op_niU
theorem ka_ix (h : X.K = K) : IxR X (rIxU K) := h ▸ ix_U
theorem ka_sl (h : X.K = K) : SlR X (rSlU K) := h ▸ sl_U
theorem ka_len (h : X.K = K) : CallR X (.builtin "len") (rLenU K) := h ▸ cr_lenU
theorem ka_isi (h : X.K = K) : CallR X (.builtin "isinstance") (rIsi K) := h ▸ call_isi
theorem ka_tuple (h : X.K = K) : CallR X (.type "tuple") (fun xs H Q => ∃ p ys, xs = [.ref p] ∧ ((SqL K H p ys ∧ ∀ l, H l = none → Q (.ref l) (upd H l (.tup ys))) ∨ (SqT K H p ys ∧ Q (.ref p) H))) := h ▸ call_tuple_of
theorem ka_list (h : X.K = K) : CallR X (.type "list") (fun xs H Q => ∃ p ys, xs = [.ref p] ∧ (SqL K H p ys ∨ SqT K H p ys) ∧ ∀ l, H l = none → Q (.ref l) (upd H l (.lst ys))) := h ▸ call_list_of
theorem ka_all (hc : X.calm = true) (h : X.K = K) : CallR X (.builtin "all") (rAll K) := h ▸ cr_all hc
theorem ka_repr (hg : X.A.guards = some []) (hu : X.A.units + 64 < cLine) (h : X.K = K) : CallR X (.builtin "repr") (rRepr K) := h ▸ cr_repr hg hu
theorem ka_tru {a : Expr} {ta : TE} (h : X.K = K) (ha : PE X a ta) (he : ∀ whole, isTrue a X.env whole = (do let v ← whole; standAt a.pos; holding [v] (truthy v))) : PT X a (tTru K ta) := h ▸ pt_truth ha he
theorem ka_plist {tg l : Expr} {tl : TE} (h : X.K = K) (hl : PE X l tl) : PI X tg l (iList K tl) := h ▸ pi_list hl
theorem ka_ptup {tg l : Expr} {tl : TE} (h : X.K = K) (hl : PE X l tl) : PI X tg l (iTup K tl) := h ▸ pi_tup hl
end
end Nv

set_option Elab.async false
set_option linter.all false
set_option maxRecDepth 100000
set_option maxHeartbeats 4000000
/-! NvK: dicts of one's own; reading one's own as data from here on. -/
namespace Nv
open PySem L2 PyProof.Rows PySem.Spec

def valD (kvs : List (Key × D)) (k : Key) : Option D := (kvs.find? fun kv => decide (kv.1 = k)).map (·.2)
def putD (kvs : List (Key × D)) (k : Key) (d : D) : List (Key × D) :=
  if (kvs.any fun kv => decide (kv.1 = k)) = true then kvs.map (fun kv => if kv.1 = k then (kv.1, d) else kv) else kvs ++ [(k, d)]
def keyD : D → Option Key
  | .int i => some (.inl i)
  | .str x => some (.inr x)
  | _ => none
section
variable {W : Wd} {G H : Hp}
theorem key_of {v : V} {d : D} {k : Key} (r : Rp W G v d) (h : keyD d = some k) : v = kV k := by
  cases d <;> first | (cases h; done) | skip
  · cases h
    exact r.int_inv
  · cases h
    exact r.str_inv
theorem val_of {k : Key} : ∀ {vs : List (Key × V)} {ds : List (Key × D)}, vs.map (·.1) = ds.map (·.1) → RpAll W G (vs.map (·.2)) (ds.map (·.2)) → ∀ {d : D}, valD ds k = some d → ∃ v, valV vs k = some v ∧ Rp W G v d
  | [], [], _, _, d, h => by cases h
  | [], _ :: _, e, _, _, _ => by cases e
  | _ :: _, [], e, _, _, _ => by cases e
  | (a, v) :: vs, (b, x) :: ds, e, r, d, h => by
    have e1 : a = b := (List.cons.inj e).1
    subst e1
    cases r with
    | cons r0 r1 =>
      by_cases z : a = k
      · have : valD ((a, x) :: ds) k = some x := by simp [valD, List.find?_cons, z]
        rw [this] at h
        cases h
        exact ⟨v, valV_pos z, r0⟩
      · have : valD ((a, x) :: ds) k = valD ds k := by simp [valD, List.find?_cons, z]
        rw [this] at h
        obtain ⟨w, h1, h2⟩ := val_of (List.cons.inj e).2 r1 h
        exact ⟨w, by rw [valV_neg z]; exact h1, h2⟩
theorem any_keys {k : Key} : ∀ {vs : List (Key × V)} {ds : List (Key × D)}, vs.map (·.1) = ds.map (·.1) → (vs.any fun kv => decide (kv.1 = k)) = (ds.any fun kv => decide (kv.1 = k))
  | [], [], _ => rfl
  | [], _ :: _, e => by cases e
  | _ :: _, [], e => by cases e
  | (a, v) :: vs, (b, x) :: ds, e => by
    have e1 : a = b := (List.cons.inj e).1
    subst e1
    rw [List.any_cons, List.any_cons, any_keys (List.cons.inj e).2]
theorem put_map {k : Key} {v : V} {d : D} (rv : Rp W G v d) : ∀ {vs : List (Key × V)} {ds : List (Key × D)}, vs.map (·.1) = ds.map (·.1) → RpAll W G (vs.map (·.2)) (ds.map (·.2)) →
    (vs.map (fun kv => if kv.1 = k then (kv.1, v) else kv)).map (·.1) = (ds.map (fun kv => if kv.1 = k then (kv.1, d) else kv)).map (·.1) ∧ RpAll W G ((vs.map (fun kv => if kv.1 = k then (kv.1, v) else kv)).map (·.2)) ((ds.map (fun kv => if kv.1 = k then (kv.1, d) else kv)).map (·.2))
  | [], [], _, _ => ⟨rfl, .nil⟩
  | [], _ :: _, e, _ => by cases e
  | _ :: _, [], e, _ => by cases e
  | (a, w) :: vs, (b, x) :: ds, e, r => by
    have e1 : a = b := (List.cons.inj e).1
    subst e1
    cases r with
    | cons r0 r1 =>
      obtain ⟨h1, h2⟩ := put_map (k := k) rv (List.cons.inj e).2 r1
      by_cases z : a = k
      · refine ⟨?_, ?_⟩
        · simp only [List.map_cons, z, if_true]
          exact congrArg _ h1
        · simp only [List.map_cons, z, if_true]
          exact .cons rv h2
      · refine ⟨?_, ?_⟩
        · simp only [List.map_cons, z, if_false]
          exact congrArg _ h1
        · simp only [List.map_cons, z, if_false]
          exact .cons r0 h2
theorem put_of {k : Key} {v : V} {d : D} {vs : List (Key × V)} {ds : List (Key × D)} (rv : Rp W G v d) (e : vs.map (·.1) = ds.map (·.1)) (r : RpAll W G (vs.map (·.2)) (ds.map (·.2))) :
    (putK vs k v).map (·.1) = (putD ds k d).map (·.1) ∧ RpAll W G ((putK vs k v).map (·.2)) ((putD ds k d).map (·.2)) := by
  unfold putK putD
  rw [any_keys (k := k) e]
  split
  · exact put_map rv e r
  · rw [List.map_append, List.map_append, List.map_append, List.map_append, e]
    exact ⟨rfl, r.append (.cons rv .nil)⟩
end
def Sl.dict : Sl → Option (List (Key × D))
  | .od kvs => some kvs
  | .pd kvs => some kvs
  | _ => none
def Sl.dictTo : Sl → List (Key × D) → Sl
  | .pd _, kvs => .pd kvs
  | _, kvs => .od kvs
section
variable {W : Wd} {G H : Hp} {σ : L2.St} {env : List Sl}
theorem OkS.dict {ov : Option (Option V)} {s : Sl} {kvs : List (Key × D)} (h : OkS W G H ov s) (e : s.dict = some kvs) : ∃ l vs, ov = some (some (.ref l)) ∧ G l = none ∧ H l = some (.dK vs) ∧ vs.map (·.1) = kvs.map (·.1) ∧ RpAll W G (vs.map (·.2)) (kvs.map (·.2)) := by
  cases s <;> first | (cases e; done) | skip
  all_goals
    cases e
    exact h
theorem dict_owned {s : Sl} {kvs : List (Key × D)} (e : s.dict = some kvs) : s.owned = true := by
  cases s <;> first | rfl | cases e
/-- d[k], d one's own -/
theorem ev_dget {ty : TE} {i : Nat} {R : D → List Sl → Prop} (h0 : ∃ s kvs, env[i]? = some s ∧ s.dict = some kvs) (h : Ev W ty env fun y e1 => ∃ s kvs k d, e1[i]? = some s ∧ s.dict = some kvs ∧ keyD y = some k ∧ valD kvs k = some d ∧ R d e1) : Ev W (tDGet (tVar i) ty) env R := fun G H σ S Q q => by
  obtain ⟨s0, kv0, e0, d0⟩ := h0
  obtain ⟨p, _, ev, _⟩ := (S.ok i _ e0).dict d0
  refine ⟨.ref p, ev, h G H σ S _ fun y dy G1 H1 e1 S1 T1 ry ⟨s, kvs, k, d, e, sd, hk, hv, hr⟩ => ?_⟩
  obtain ⟨p', vs, ev', g1, h1, ke, ra⟩ := (S1.ok i _ e).dict sd
  rw [ev] at ev'
  cases ev'
  obtain ⟨v, z1, z2⟩ := val_of ke ra hv
  exact ⟨p, v, rfl, .inl ⟨vs, k, .inl h1, key_of ry hk, z1.symm⟩, q v d G1 H1 e1 S1 T1 z2 hr⟩
/-- d[k] = v, d one's own -/
theorem run_dput {ty tv : TE} {i : Nat} {P : Post} (h : Ev W tv env fun d e1 => (∃ s kvs, e1[i]? = some s ∧ s.dict = some kvs) ∧ Ev W ty e1 fun y e2 => e2 = e1 ∧ ∃ s kvs k, e1[i]? = some s ∧ s.dict = some kvs ∧ keyD y = some k ∧ kvs.length < sizeLine ∧ P.nx (e1.set i (s.dictTo (putD kvs k d)))) : Run W (sDPut (tVar i) ty tv) env P := fun G H σ E S n r b c =>
  h G H σ S _ fun v d G1 H1 e1 S1 T1 rv ⟨⟨s0, kv0, e0, d0⟩, h1⟩ => by
    obtain ⟨p, _, ev, _⟩ := (S1.ok i _ e0).dict d0
    refine ⟨.ref p, ev, h1 G1 H1 σ S1 _ fun y dy G2 H2 e2 S2 T2 ry ⟨z, s, kvs, k, e, sd, hk, hl, hn⟩ => ?_⟩
    subst z
    obtain ⟨p', vs, ev', g2, h2, ke, ra⟩ := (S2.ok i _ e).dict sd
    rw [ev] at ev'
    cases ev'
    have lv : vs.length = kvs.length := by
      have := congrArg List.length ke
      simpa using this
    obtain ⟨z1, z2⟩ := put_of (k := k) (rv.up T2.gg) ke ra
    have os := dict_owned sd
    refine ⟨p, upd H2 p (.dK (putK vs k v)), rfl, .inl ⟨vs, k, h2, key_of ry hk, by rw [lv]; exact hl, rfl⟩, n G2 _ σ _ (S2.chg (o := .dK (putK vs k v)) e os ev ?_) ((T1.trans S T2).trans S (Tr.chg S2 e os ev ?_)) hn⟩
    · cases s <;> first | (cases sd; done) | skip
      all_goals exact ⟨p, _, rfl, g2, upd_same, z1, z2⟩
    · cases s <;> first | (cases sd; done) | skip
      all_goals
        intro y
        first | rfl | cases y

/-- one's own is data from here on -/
def Sl.data : Sl → Option D
  | .d x => some x
  | .ol xs => some (.lst xs)
  | .od kvs => some (.dct kvs)
  | _ => none
theorem own_low {i : Nat} {x : D} {b : Addr} {σ : L2.St} {env : List Sl} : own σ (env.set i (.d x)) b → own σ env b := fun ⟨k, t, f, q, v⟩ => by
  by_cases z : i = k
  · subst z
    by_cases hl : i < env.length
    · rw [List.getElem?_set_self hl] at f
      cases f
      cases q
    · rw [List.getElem?_eq_none (by rw [List.length_set]; omega)] at f
      cases f
  · rw [List.getElem?_set_ne z] at f
    exact ⟨k, t, f, q, v⟩
theorem St.fz (S : St W G H σ env) {i : Nat} {l : Addr} {o : HO} {x : D} {s : Sl} (e : env[i]? = some s) (ow : s.owned = true) (np : s.pinned = false) (ev : σ[i]? = some (some (.ref l))) (hh : H l = some o) (g : G l = none) (rx : Rp W (upd G l o) (.ref l) x) :
    St W (upd G l o) H σ (env.set i (.d x)) ∧ Tr σ env G H σ (env.set i (.d x)) (upd G l o) H := by
  have il : i < env.length := (List.getElem?_eq_some_iff.mp e).1
  have gg : Same G (upd G l o) := fun b u z => by
    rw [upd_ne (ne_of_none z g)]
    exact z
  have S0 : St W G H σ (env.set i .no) := by
    refine ⟨S.gh, by rw [List.length_set]; exact S.len, fun k t f => ?_, fun a b s1 t1 m e1 o1 v1 e2 o2 v2 => ?_⟩
    · by_cases z : i = k
      · subst z
        rw [List.getElem?_set_self il] at f
        cases f
        exact trivial
      · rw [List.getElem?_set_ne z] at f
        exact S.ok k t f
    · have was : ∀ {k : Nat} {t : Sl}, (env.set i .no)[k]? = some t → t.owned = true → env[k]? = some t := fun {k t} f q => by
        by_cases z : i = k
        · subst z
          rw [List.getElem?_set_self il] at f
          cases f
          cases q
        · rw [List.getElem?_set_ne z] at f
          exact f
      exact S.ds a b s1 t1 m (was e1 o1) o1 v1 (was e2 o2) o2 v2
  have no : ¬ own σ (env.set i .no) l := fun ⟨k, t, f, q, v⟩ => by
    by_cases z : i = k
    · subst z
      rw [List.getElem?_set_self il] at f
      cases f
      cases q
    · rw [List.getElem?_set_ne z] at f
      exact z (S.ds i k _ t l e ow ev f q v)
  have S1 : St W (upd G l o) H σ ((env.set i .no).set i (.d x)) := by
    have q := (S0.freeze hh g no).set (j := i) rx
    have es : σ.set i (some (.ref l)) = σ := by
      apply List.ext_getElem?
      intro k
      by_cases z : i = k
      · subst z
        rw [List.getElem?_set_self (by rw [S.len]; exact il), ev]
      · rw [List.getElem?_set_ne z]
    rw [es] at q
    exact q
  rw [List.set_set] at S1
  have T := Tr.refl S1
  refine ⟨S1, gg, fun b u _ h0 => h0, fun b m n0 h0 => ?_, fun b z => .inl (own_low z), fun _ h => h, fun k t f q => ?_⟩
  · rw [upd_ne (fun z => m (by subst z; exact ⟨i, _, e, ow, ev⟩))]
    exact h0
  · have z : i ≠ k := fun y => by
      subst y
      rw [e] at f
      cases f
      rw [np] at q
      cases q
    exact ⟨rfl, t, by rw [List.getElem?_set_ne z]; exact f, q⟩
/-- a name, as data -/
theorem ev_varD {i : Nat} {s : Sl} {x : D} {R : D → List Sl → Prop} (e : env[i]? = some s) (hs : s.data = some x) (k : R x (env.set i (.d x))) : Ev W (tVar i) env R := fun G H σ S Q q => by
  cases s with
  | no => cases hs
  | pl xs => cases hs
  | pd kvs => cases hs
  | d y =>
    cases hs
    obtain ⟨v, ev, r⟩ := S.ok i _ e
    have es : env.set i (.d x) = env := by
      apply List.ext_getElem?
      intro k
      by_cases z : i = k
      · subst z
        rw [List.getElem?_set_self (List.getElem?_eq_some_iff.mp e).1, e]
      · rw [List.getElem?_set_ne z]
    rw [es] at k
    exact ⟨v, ev, q v x G H env S (Tr.refl S) r k⟩
  | ol xs =>
    cases hs
    obtain ⟨l, vs, ev, g, hh, ra⟩ := S.ok i _ e
    have gg : Same G (upd G l (.lst vs)) := fun b u z => by
      rw [upd_ne (ne_of_none z g)]
      exact z
    have rx : Rp W (upd G l (.lst vs)) (.ref l) (.lst xs) := .lst upd_same (ra.up gg)
    obtain ⟨S1, T1⟩ := S.fz e rfl rfl ev hh g rx
    exact ⟨_, ev, q _ _ _ H _ S1 T1 rx k⟩
  | od kvs =>
    cases hs
    obtain ⟨l, vs, ev, g, hh, ke, ra⟩ := S.ok i _ e
    have gg : Same G (upd G l (.dK vs)) := fun b u z => by
      rw [upd_ne (ne_of_none z g)]
      exact z
    have rx : Rp W (upd G l (.dK vs)) (.ref l) (.dct kvs) := .dct (.inl upd_same) ke (ra.up gg)
    obtain ⟨S1, T1⟩ := S.fz e rfl rfl ev hh g rx
    exact ⟨_, ev, q _ _ _ H _ S1 T1 rx k⟩
end
end Nv

set_option Elab.async false
set_option linter.all false
set_option maxRecDepth 100000
set_option maxHeartbeats 4000000
/-! NvM: mirrors. A mirror is a function over the slots' data; a term of rules is told by its mirror. -/
namespace Nv
open PySem L2 PyProof.Rows PySem.Spec

abbrev Env := List Sl
abbrev M (α : Type) := Env → Option (α × Env)
inductive Out where
  | nx | rt (d : D) | bk | ct
abbrev MS := M Out
def Post.hit (P : Post) : Out → Env → Prop
  | .nx, e => P.nx e
  | .rt d, e => P.rt d e
  | .bk, e => P.bk e
  | .ct, e => P.ct e
def SimE (W : Wd) (te : TE) (m : M D) : Prop := ∀ env R d e1, m env = some (d, e1) → R d e1 → Ev W te env R
def SimF (W : Wd) (te : TE) (m : M (List D)) : Prop := ∀ env R d e1, m env = some (d, e1) → R d e1 → EvF W te env R
def SimT (W : Wd) (tt : TT) (m : M Bool) : Prop := ∀ env R b e1, m env = some (b, e1) → R b e1 → EvT W tt env R
def SimA (W : Wd) (ta : TA) (m : M (List D)) : Prop := ∀ env R ds e1, m env = some (ds, e1) → R ds e1 → EvA W ta env R
def SimI (W : Wd) (wi : TI) (m : M (List D)) : Prop := ∀ env R ds e1, m env = some (ds, e1) → R ds e1 → EvI W wi env R
def SimO (W : Wd) (to : TO) (m : M (Option Int)) : Prop := ∀ env R o e1, m env = some (o, e1) → R o e1 → EvO W to env R
def SimS (W : Wd) (ts : TS) (m : MS) : Prop := ∀ env P o e1, m env = some (o, e1) → Post.hit P o e1 → Run W ts env P
def SimG (W : Wd) (g : TG) (m : D → Env → Option Env) : Prop := ∀ d env R e1, m d env = some e1 → R e1 → Tg W g d env R

/-! ### expressions -/
def mC (d : D) : M D := fun e => some (d, e)
def mVar (i : Nat) : M D := fun e => (e[i]?).bind fun s => s.data.bind fun x => some (x, e.set i (.d x))
def mOp (o : D → D → Option D) (a b : M D) : M D := fun e => (a e).bind fun p => (b p.2).bind fun q => (o p.1 q.1).bind fun z => some (z, q.2)
def mUn (o : D → Option D) (a : M D) : M D := fun e => (a e).bind fun p => (o p.1).bind fun z => some (z, p.2)
def mNil : M (List D) := fun e => some ([], e)
def mCons (a : M D) (r : M (List D)) : M (List D) := fun e => (a e).bind fun p => (r p.2).bind fun q => some (p.1 :: q.1, q.2)
def mCb (o : List D → Option D) (r : M (List D)) : M D := fun e => (r e).bind fun p => (o p.1).bind fun z => some (z, p.2)
def isBl : D → Option Bool
  | .bl b => some b
  | _ => none
def isInt : D → Option Int
  | .int b => some b
  | _ => none
def isLst : D → Option (List D)
  | .lst b => some b
  | _ => none
def isTup : D → Option (List D)
  | .tup b => some b
  | _ => none
def isStr : D → Option Str
  | .str b => some b
  | _ => none
def mBl (a : M D) : M Bool := fun e => (a e).bind fun p => (isBl p.1).bind fun b => some (b, p.2)
def mTru (a : M D) : M Bool := fun e => (a e).bind fun p => (truD p.1).bind fun b => some (b, p.2)
def mNot (a : M Bool) : M Bool := fun e => (a e).bind fun p => some (!p.1, p.2)
def mAnd (a b : M Bool) : M Bool := fun e => (a e).bind fun p => if p.1 = true then b p.2 else some (false, p.2)
def mOr (a b : M Bool) : M Bool := fun e => (a e).bind fun p => if p.1 = true then some (true, p.2) else b p.2
def mIf {α : Type} (t : M Bool) (a b : M α) : M α := fun e => (t e).bind fun p => if p.1 = true then a p.2 else b p.2
def mAndV (a b : M D) : M D := fun e => (a e).bind fun p => (isBl p.1).bind fun x => if x = true then b p.2 else some (.bl false, p.2)
def mOrV (a b : M D) : M D := fun e => (a e).bind fun p => (isBl p.1).bind fun x => if x = true then some (.bl true, p.2) else b p.2
def mNotV (a : M D) : M D := fun e => (a e).bind fun p => (isBl p.1).bind fun x => some (.bl (!x), p.2)
def mChain (o o' : D → D → Option D) (a b c : M D) : M D := fun e => (a e).bind fun p => (b p.2).bind fun q => (o p.1 q.1).bind fun z => (isBl z).bind fun x =>
  if x = true then (c q.2).bind fun r => (o' q.1 r.1).bind fun y => some (y, r.2) else some (.bl false, q.2)
def mSz (r : M (List D)) : M (List D) := fun e => (r e).bind fun p => if p.1.length ≤ sizeLine then some p else none
def mLst (r : M (List D)) : M D := fun e => (r e).bind fun p => some (.lst p.1, p.2)
def mTup (r : M (List D)) : M D := fun e => (mSz r e).bind fun p => some (.tup p.1, p.2)
def kindOk (d : D) : Bool := match d with
  | .ins _ _ => false
  | .ty _ => false
  | .frl _ => false
  | _ => true
def mIs (p : D → Bool) (a : M D) : M D := fun e => (a e).bind fun q => if kindOk q.1 = true then some (.bl (p q.1), q.2) else none
def mONone : M (Option Int) := fun e => some (none, e)
def mOSome (a : M D) : M (Option Int) := fun e => (a e).bind fun p => (isInt p.1).bind fun i => some (some i, p.2)
def mSl (a : M D) (lo hi : M (Option Int)) : M D := fun e => (a e).bind fun p => (lo p.2).bind fun q => (hi q.2).bind fun r => (slD p.1 q.1 r.1).bind fun z => some (z, r.2)
def mM1 (o : D → D → Option D) (a b : M D) : M D := fun e => (a e).bind fun p => (isStr p.1).bind fun _ => (b p.2).bind fun q => (o p.1 q.1).bind fun z => some (z, q.2)

section
variable {W : Wd} {ta tb tc te : TE} {ma mb mc me : M D} {t u : TT} {mt mu : M Bool} {tr : TA} {mr : M (List D)}
/-- the inversion of a row of binds -/
theorem bind_of {α β : Type} {o : Option (α × Env)} {f : α × Env → Option β} {z : β} (h : o.bind f = some z) : ∃ x e, o = some (x, e) ∧ f (x, e) = some z := by
  cases o with
  | none => cases h
  | some p => exact ⟨p.1, p.2, rfl, h⟩
theorem bind_of' {α β : Type} {o : Option α} {f : α → Option β} {z : β} (h : o.bind f = some z) : ∃ x, o = some x ∧ f x = some z := by
  cases o with
  | none => cases h
  | some p => exact ⟨p, rfl, h⟩
theorem isBl_of {d : D} {b : Bool} (h : isBl d = some b) : d = .bl b := by cases d <;> cases h; rfl
theorem isInt_of {d : D} {b : Int} (h : isInt d = some b) : d = .int b := by cases d <;> cases h; rfl
theorem isStr_of {d : D} {b : Str} (h : isStr d = some b) : d = .str b := by cases d <;> cases h; rfl
theorem isLst_of {d : D} {b : List D} (h : isLst d = some b) : d = .lst b := by cases d <;> cases h; rfl
theorem isTup_of {d : D} {b : List D} (h : isTup d = some b) : d = .tup b := by cases d <;> cases h; rfl
theorem se_c {v : V} {d : D} (h : ∀ G, Rp W G v d) : SimE W (tC v) (mC d) := fun env R x e1 hm hr => by cases hm; exact ev_c h hr
theorem se_int {i : Int} : SimE W (tC (.int i)) (mC (.int i)) := se_c fun _ => .int i
theorem se_str {x : Str} : SimE W (tC (.str x)) (mC (.str x)) := se_c fun _ => .str x
theorem se_bl {b : Bool} : SimE W (tC (.bl b)) (mC (.bl b)) := se_c fun _ => .bl b
theorem se_non : SimE W (tC .non) (mC .non) := se_c fun _ => .non
theorem se_ty {n : String} : SimE W (tC (.ty n)) (mC (.ty n)) := se_c fun _ => .ty n
theorem se_var {i : Nat} : SimE W (tVar i) (mVar i) := fun env R x e1 hm hr => by
  obtain ⟨s, hs, hm⟩ := bind_of' hm
  obtain ⟨y, hy, hm⟩ := bind_of' hm
  cases hm
  exact ev_varD hs hy hr
theorem se_op {r : R2} {o : D → D → Option D} (ho : OpD W r o) (ha : SimE W ta ma) (hb : SimE W tb mb) : SimE W (tOp r ta tb) (mOp o ma mb) := fun env R d e1 hm hr => by
  obtain ⟨x, e2, h1, hm⟩ := bind_of hm
  obtain ⟨y, e3, h2, hm⟩ := bind_of hm
  obtain ⟨z, h3, hm⟩ := bind_of' hm
  cases hm
  exact ev_op ho (ha _ _ _ _ h1 (hb _ _ _ _ h2 ⟨_, h3, hr⟩))
theorem se_un {r : V → Hp → VK → Prop} {o : D → Option D} (ho : UnD W r o) (ha : SimE W ta ma) : SimE W (tUn r ta) (mUn o ma) := fun env R d e1 hm hr => by
  obtain ⟨x, e2, h1, hm⟩ := bind_of hm
  obtain ⟨z, h3, hm⟩ := bind_of' hm
  cases hm
  exact ev_un ho (ha _ _ _ _ h1 ⟨_, h3, hr⟩)
theorem sa_nil : SimA W tNil mNil := fun env R x e1 hm hr => by cases hm; exact ea_nil hr
theorem sa_cons (ha : SimE W ta ma) (h : SimA W tr mr) : SimA W (tCons ta tr) (mCons ma mr) := fun env R d e1 hm hr => by
  obtain ⟨x, e2, h1, hm⟩ := bind_of hm
  obtain ⟨y, e3, h2, hm⟩ := bind_of hm
  cases hm
  exact ea_cons (ha _ _ _ _ h1 (h _ _ _ _ h2 hr))
theorem se_cb {r : List V → Hp → VK → Prop} {o : List D → Option D} (ho : CallD W r o) (h : SimA W tr mr) : SimE W (tCB r tr) (mCb o mr) := fun env R d e1 hm hr => by
  obtain ⟨x, e2, h1, hm⟩ := bind_of hm
  obtain ⟨z, h3, hm⟩ := bind_of' hm
  cases hm
  exact ev_cb ho (h _ _ _ _ h1 ⟨_, h3, hr⟩)
theorem sf_lst (h : SimA W tr mr) : SimF W (tLst tr) (mSz mr) := fun env R d e1 hm hr => by
  obtain ⟨x, e2, h1, hm⟩ := bind_of hm
  split at hm
  · rename_i hz
    cases hm
    exact evf_lst (h _ _ _ _ h1 ⟨hz, hr⟩)
  · cases hm
theorem se_f {m : M (List D)} (h : SimF W te m) : SimE W te (mLst m) := fun env R d e1 hm hr => by
  obtain ⟨x, e2, h1, hm⟩ := bind_of hm
  cases hm
  exact ev_f (h _ _ _ _ h1 hr)
theorem se_tup (h : SimA W tr mr) : SimE W (tTup tr) (mTup mr) := fun env R d e1 hm hr => by
  obtain ⟨x, e2, h1, hm⟩ := bind_of hm
  obtain ⟨x', e2', h1, hm'⟩ := bind_of h1
  cases hm
  split at hm'
  · rename_i hz
    cases hm'
    exact ev_tup (h _ _ _ _ h1 ⟨hz, hr⟩)
  · cases hm'
theorem kindOk_of {d : D} (h : kindOk d = true) : kindD d ≠ "" := by
  cases d <;> first | (cases h; done) | (intro z; exact absurd (show (_ : String) = "" from z) (by simp [kindD]))
theorem se_is {T : String} {p : D → Bool} (k : IsK T p) (ha : SimE W te ma) : SimE W (tCB (rIsi W.K) (tCons te (tCons (tC (.ty T)) tNil))) (mIs p ma) := fun env R d e1 hm hr => by
  obtain ⟨x, e2, h1, hm⟩ := bind_of hm
  split at hm
  · rename_i hz
    cases hm
    exact ev_isT k (ha _ _ _ _ h1 ⟨kindOk_of hz, hr⟩)
  · cases hm
/-! tests -/
theorem st_test (ha : SimE W te ma) : SimT W (tTest te) (mBl ma) := fun env R d e1 hm hr => by
  obtain ⟨x, e2, h1, hm⟩ := bind_of hm
  obtain ⟨z, h3, hm⟩ := bind_of' hm
  cases hm
  exact et_test (ha _ _ _ _ h1 ⟨_, isBl_of h3, hr⟩)
theorem st_B (ha : SimE W te ma) : SimT W (tB te) (mBl ma) := fun env R d e1 hm hr => by
  obtain ⟨x, e2, h1, hm⟩ := bind_of hm
  obtain ⟨z, h3, hm⟩ := bind_of' hm
  cases hm
  exact et_B (ha _ _ _ _ h1 ⟨_, isBl_of h3, hr⟩)
theorem st_tru (ha : SimE W te ma) : SimT W (tTru W.K te) (mTru ma) := fun env R d e1 hm hr => by
  obtain ⟨x, e2, h1, hm⟩ := bind_of hm
  obtain ⟨z, h3, hm⟩ := bind_of' hm
  cases hm
  exact et_tru (ha _ _ _ _ h1 ⟨_, h3, hr⟩)
theorem st_not (ha : SimT W t mt) : SimT W (tNot t) (mNot mt) := fun env R d e1 hm hr => by
  obtain ⟨x, e2, h1, hm⟩ := bind_of hm
  cases hm
  exact et_not (ha _ _ _ _ h1 hr)
theorem st_and (ha : SimT W t mt) (hb : SimT W u mu) : SimT W (tAnd t u) (mAnd mt mu) := fun env R d e1 hm hr => by
  obtain ⟨x, e2, h1, hm⟩ := bind_of hm
  refine et_and (ha _ _ _ _ h1 ?_)
  cases x with
  | true => exact hb _ _ _ _ hm hr
  | false => cases hm; exact hr
theorem st_or (ha : SimT W t mt) (hb : SimT W u mu) : SimT W (tOr t u) (mOr mt mu) := fun env R d e1 hm hr => by
  obtain ⟨x, e2, h1, hm⟩ := bind_of hm
  refine et_or (ha _ _ _ _ h1 ?_)
  cases x with
  | false => exact hb _ _ _ _ hm hr
  | true => cases hm; exact hr
theorem se_if (ht : SimT W t mt) (ha : SimE W ta ma) (hb : SimE W tb mb) : SimE W (tIf t ta tb) (mIf mt ma mb) := fun env R d e1 hm hr => by
  obtain ⟨x, e2, h1, hm⟩ := bind_of hm
  refine ev_if (ht _ _ _ _ h1 ?_)
  cases x with
  | false => exact hb _ _ _ _ hm hr
  | true => exact ha _ _ _ _ hm hr
theorem se_andV (ha : SimE W ta ma) (hb : SimE W tb mb) : SimE W (tAndV ta tb) (mAndV ma mb) := fun env R d e1 hm hr => by
  obtain ⟨x, e2, h1, hm⟩ := bind_of hm
  obtain ⟨z, h3, hm⟩ := bind_of' hm
  refine ev_andV (ha _ _ _ _ h1 ⟨z, isBl_of h3, ?_⟩)
  cases z with
  | true => exact hb _ _ _ _ hm hr
  | false => cases hm; exact hr
theorem se_orV (ha : SimE W ta ma) (hb : SimE W tb mb) : SimE W (tOrV ta tb) (mOrV ma mb) := fun env R d e1 hm hr => by
  obtain ⟨x, e2, h1, hm⟩ := bind_of hm
  obtain ⟨z, h3, hm⟩ := bind_of' hm
  refine ev_orV (ha _ _ _ _ h1 ⟨z, isBl_of h3, ?_⟩)
  cases z with
  | false => exact hb _ _ _ _ hm hr
  | true => cases hm; exact hr
theorem se_notV (ha : SimE W ta ma) : SimE W (tNotV ta) (mNotV ma) := fun env R d e1 hm hr => by
  obtain ⟨x, e2, h1, hm⟩ := bind_of hm
  obtain ⟨z, h3, hm⟩ := bind_of' hm
  cases hm
  exact ev_notV (ha _ _ _ _ h1 ⟨z, isBl_of h3, hr⟩)
theorem se_chain {r r' : R2} {o o' : D → D → Option D} (ho : OpD W r o) (ho' : OpD W r' o') (ha : SimE W ta ma) (hb : SimE W tb mb) (hc : SimE W tc mc) : SimE W (tChain r r' ta tb tc) (mChain o o' ma mb mc) := fun env R d e1 hm hr => by
  obtain ⟨x, e2, h1, hm⟩ := bind_of hm
  obtain ⟨y, e3, h2, hm⟩ := bind_of hm
  obtain ⟨z, h3, hm⟩ := bind_of' hm
  obtain ⟨b, h4, hm⟩ := bind_of' hm
  refine ev_chain ho ho' (ha _ _ _ _ h1 (hb _ _ _ _ h2 ⟨b, by rw [h3, isBl_of h4], ?_⟩))
  cases b with
  | false => cases hm; exact hr
  | true =>
    obtain ⟨w, e4, h5, hm⟩ := bind_of (show ((mc e3).bind fun r => (o' y r.1).bind fun y => some (y, r.2)) = some (d, e1) from hm)
    obtain ⟨q, h6, hm⟩ := bind_of' hm
    cases hm
    exact hc _ _ _ _ h5 ⟨_, h6, hr⟩
/-! slices, methods of texts -/
theorem so_none : SimO W tNoPart mONone := fun env R x e1 hm hr => by cases hm; exact eo_none hr
theorem so_some (ha : SimE W te ma) : SimO W (tPart te) (mOSome ma) := fun env R d e1 hm hr => by
  obtain ⟨x, e2, h1, hm⟩ := bind_of hm
  obtain ⟨z, h3, hm⟩ := bind_of' hm
  cases hm
  exact eo_some (ha _ _ _ _ h1 ⟨z, isInt_of h3, hr⟩)
theorem se_sl {tl th : TO} {ml mh : M (Option Int)} (ha : SimE W ta ma) (hl : SimO W tl ml) (hh : SimO W th mh) : SimE W (tSl (rSlU W.K) ta tl th) (mSl ma ml mh) := fun env R d e1 hm hr => by
  obtain ⟨x, e2, h1, hm⟩ := bind_of hm
  obtain ⟨y, e3, h2, hm⟩ := bind_of hm
  obtain ⟨w, e4, h3, hm⟩ := bind_of hm
  obtain ⟨z, h4, hm⟩ := bind_of' hm
  cases hm
  exact ev_sl (ha _ _ _ _ h1 (hl _ _ _ _ h2 (hh _ _ _ _ h3 ⟨_, h4, hr⟩)))
theorem se_m1 {r : V → List V → Hp → VK → Prop} {o : D → D → Option D} (ho : MetD W r o) (ha : SimE W ta ma) (hb : SimE W tb mb) : SimE W (tM1 r ta tb) (mM1 o ma mb) := fun env R d e1 hm hr => by
  obtain ⟨x, e2, h1, hm⟩ := bind_of hm
  obtain ⟨a, h2, hm⟩ := bind_of' hm
  obtain ⟨y, e3, h3, hm⟩ := bind_of hm
  obtain ⟨z, h4, hm⟩ := bind_of' hm
  cases hm
  exact ev_m1 ho (ha _ _ _ _ h1 ⟨⟨a, isStr_of h2⟩, hb _ _ _ _ h3 ⟨_, h4, hr⟩⟩)

/-! ### what is walked -/
def mIList (a : M D) : M (List D) := fun e => (a e).bind fun p => (isLst p.1).bind fun xs => some (xs, p.2)
def mITup (a : M D) : M (List D) := fun e => (a e).bind fun p => (isTup p.1).bind fun xs => some (xs, p.2)
def mIStr (a : M D) : M (List D) := fun e => (a e).bind fun p => (isStr p.1).bind fun z => some (signs z, p.2)
def rngD : List D → Option (List D)
  | [.int n] => if -(2 ^ 62) ≤ n ∧ n < 2 ^ 62 then some (upto n.toNat) else none
  | _ => none
def mIRng (a : M (List D)) : M (List D) := fun e => (a e).bind fun p => (rngD p.1).bind fun z => some (z, p.2)
theorem rng_of {x z : List D} (h : rngD x = some z) : ∃ n : Int, x = [.int n] ∧ -(2 ^ 62) ≤ n ∧ n < 2 ^ 62 ∧ z = upto n.toNat := by
  unfold rngD at h
  split at h
  · split at h
    · rename_i hz
      cases h
      exact ⟨_, rfl, hz.1, hz.2, rfl⟩
    · cases h
  · cases h
theorem si_list (ha : SimE W te ma) : SimI W (iList W.K te) (mIList ma) := fun env R d e1 hm hr => by
  obtain ⟨x, e2, h1, hm⟩ := bind_of hm
  obtain ⟨z, h3, hm⟩ := bind_of' hm
  cases hm
  exact ei_list (ha _ _ _ _ h1 ⟨_, isLst_of h3, hr⟩)
theorem si_tup (ha : SimE W te ma) : SimI W (iTup W.K te) (mITup ma) := fun env R d e1 hm hr => by
  obtain ⟨x, e2, h1, hm⟩ := bind_of hm
  obtain ⟨z, h3, hm⟩ := bind_of' hm
  cases hm
  exact ei_tup (ha _ _ _ _ h1 ⟨_, isTup_of h3, hr⟩)
theorem si_str (ha : SimE W te ma) : SimI W (iStr te) (mIStr ma) := fun env R d e1 hm hr => by
  obtain ⟨x, e2, h1, hm⟩ := bind_of hm
  obtain ⟨z, h3, hm⟩ := bind_of' hm
  cases hm
  exact ei_str (ha _ _ _ _ h1 ⟨_, isStr_of h3, hr⟩)
theorem si_rng (ha : SimA W tr mr) : SimI W (iRng1 tr) (mIRng mr) := fun env R d e1 hm hr => by
  obtain ⟨x, e2, h1, hm⟩ := bind_of hm
  obtain ⟨z, h3, hm⟩ := bind_of' hm
  cases hm
  refine ei_rng (ha _ _ _ _ h1 ?_)
  obtain ⟨n, rfl, h4, h5, rfl⟩ := rng_of h3
  exact ⟨_, rfl, h4, h5, hr⟩
/-! ### a comprehension -/
def lcGo (j : Nat) (t : M Bool) (m : M D) : List D → List D → M (List D)
  | [], acc, e => some (acc, e)
  | d :: ds, acc, e => (t (e.set j (.d d))).bind fun p => if p.1 = true then (m p.2).bind fun q => if acc.length < sizeLine then lcGo j t m ds (acc ++ [q.1]) (q.2.set j .no) else none else lcGo j t m ds acc (p.2.set j .no)
def isNo : Sl → Bool
  | .no => true
  | _ => false
def mLc (it : M (List D)) (t : M Bool) (m : M D) (j : Nat) : M (List D) := fun e => (it e).bind fun p => if (p.2[j]?).any isNo = true then lcGo j t m p.1 [] p.2 else none
theorem cmpR_of {tt : TT} {mt : M Bool} (ht : SimT W tt mt) (hm : SimE W te me) {j : Nat} {R : List D → Env → Prop} : ∀ (ds acc : List D) (env : Env) (r : List D) (e1 : Env), lcGo j mt me ds acc env = some (r, e1) → R r e1 → CmpR W j tt te R ds acc env
  | [], acc, env, r, e1, h, k => by cases h; exact k
  | d :: ds, acc, env, r, e1, h, k => by
    obtain ⟨x, e2, h1, h⟩ := bind_of h
    refine ht _ _ _ _ h1 ?_
    cases x with
    | false => exact cmpR_of ht hm ds acc _ r e1 h k
    | true =>
      obtain ⟨y, e3, h2, h⟩ := bind_of (show ((me e2).bind fun q => if acc.length < sizeLine then lcGo j mt me ds (acc ++ [q.1]) (q.2.set j .no) else none) = some (r, e1) from h)
      refine hm _ _ _ _ h2 ?_
      split at h
      · rename_i hz
        exact ⟨hz, cmpR_of ht hm ds _ _ r e1 h k⟩
      · cases h
theorem sf_lc {wi : TI} {mi : M (List D)} {tt : TT} {mt : M Bool} {j : Nat} (hi : SimI W wi mi) (ht : SimT W tt mt) (hm : SimE W te me) : SimF W (tLc wi (gName j) tt te [j]) (mLc mi mt me j) := fun env R d e1 h hr => by
  obtain ⟨x, e2, h1, h⟩ := bind_of h
  split at h
  · rename_i hz
    refine evf_lc (hi _ _ _ _ h1 ⟨?_, cmpR_of ht hm _ _ _ _ _ h hr⟩)
    cases q : e2[j]? with
    | none => simp only [q] at hz; cases hz
    | some s =>
      simp only [q] at hz
      cases s <;> first | rfl | cases hz
  · cases h
theorem st_yes : SimT W tYes (fun e => some (true, e)) := fun env R d e1 h hr => by
  cases h
  exact fun G H σ S Q q => q true G H env S (Tr.refl S) hr
end
end Nv

set_option Elab.async false
set_option linter.all false
set_option maxRecDepth 100000
set_option maxHeartbeats 4000000
/-! NvL2: comprehensions with two for. -/
namespace Nv
open PySem L2 PyProof.Rows PySem.Spec

def del (A : Addr) (H : Hp) : Hp := fun b => if b = A then none else H b
section
variable {W : Wd} {G H G1 H1 G2 H2 : Hp} {σ σ1 σ2 : L2.St} {env env1 env2 : List Sl} {A : Addr}
theorem del_ne {b : Addr} (h : b ≠ A) : del A H b = H b := if_neg h
theorem del_at : del A H A = none := if_pos rfl
theorem del_some {b : Addr} {o : HO} (h : del A H b = some o) : b ≠ A ∧ H b = some o := by
  by_cases z : b = A
  · rw [z, del_at] at h
    cases h
  · rw [del_ne z] at h
    exact ⟨z, h⟩
theorem del_not {b : Addr} (h : del A H b ≠ none) : b ≠ A ∧ H b ≠ none := by
  by_cases z : b = A
  · rw [z, del_at] at h
    exact absurd rfl h
  · rw [del_ne z] at h
    exact ⟨z, h⟩
theorem del_upd {o : HO} : del A (upd H A o) = del A H := by
  funext b
  by_cases z : b = A
  · subst z
    rw [del_at, del_at]
  · rw [del_ne z, del_ne z, upd_ne z]
theorem del_off (h : H A = none) : del A H = H := by
  funext b
  by_cases z : b = A
  · subst z
    rw [del_at, h]
  · rw [del_ne z]
theorem upd_del {o : HO} (h : H A = some o) : upd (del A H) A o = H := by
  funext b
  by_cases z : b = A
  · subst z
    rw [upd_same, h]
  · rw [upd_ne z, del_ne z]
theorem Tr.del (T : Tr σ env G H σ1 env1 G1 H1) : Tr σ env G (Nv.del A H) σ1 env1 G1 (Nv.del A H1) where
  gg := T.gg
  fr := fun b o n h => by
    obtain ⟨z, h⟩ := del_some h
    rw [del_ne z]
    exact T.fr b o n h
  nw := fun b m h => T.nw b m (del_not h).2
  ow := fun b h => (T.ow b h).imp id fun z => by
    by_cases y : b = A
    · rw [y, del_at]
    · rw [del_ne y, z]
  kp := fun b h => by
    obtain ⟨z, h⟩ := del_not h
    rw [del_ne z]
    exact T.kp b h
  pn := T.pn
/-- what matters of the state alone is that known things are there -/
theorem Tr.trans' (a : Tr σ env G H σ1 env1 G1 H1) (b : Tr σ1 env1 G1 H1 σ2 env2 G2 H2) : Tr σ env G H σ2 env2 G2 H2 where
  gg := a.gg.trans b.gg
  fr := fun c o n h => b.fr c o (fun z => by
    rcases a.ow c z with z | z
    · exact n z
    · rw [h] at z
      cases z) (a.fr c o n h)
  nw := fun c m n h => b.nw c (fun z => (a.ow c z).elim m fun y => n y) (a.kp c n) (a.nw c m n h)
  ow := fun c h => by
    rcases b.ow c h with h | h
    · exact a.ow c h
    · refine .inr ?_
      cases q : H c with
      | none => rfl
      | some o => exact absurd h (a.kp c (by rw [q]; exact fun z => nomatch z))
  kp := fun c n => b.kp c (a.kp c n)
  pn := fun i s e h => by
    obtain ⟨e1, s1, f1, h1⟩ := a.pn i s e h
    obtain ⟨e2, s2, f2, h2⟩ := b.pn i s1 f1 h1
    exact ⟨e2.trans e1, s2, f2, h2⟩

/-- the list at A, which is nobody's, is worth acc -/
structure AtA (W : Wd) (G H : Hp) (σ : L2.St) (env : List Sl) (A : Addr) (acc : List D) : Prop where
  ex : ∃ av, H A = some (.lst av) ∧ RpAll W G av acc
  g : G A = none
  o : ¬ own σ env A
/-- what a turn does (with its name set) to the list at A: by data -/
def BodyS (W : Wd) (A : Addr) (tb : L2.St → Hp → (Hp → Prop) → Prop) (B : List D → List Sl → (List D → List Sl → Prop) → Prop) : Prop :=
  ∀ (σ : L2.St) (G H : Hp) (e : List Sl) (acc : List D) (K : List D → List Sl → Prop) (Nx : Hp → Prop), St W G H σ e → AtA W G H σ e A acc → B acc e K →
    (∀ G' H' e' acc', St W G' H' σ e' → Tr σ e G (Nv.del A H) σ e' G' (Nv.del A H') → AtA W G' H' σ e' A acc' → K acc' e' → Nx H') → tb σ H Nx
def LoopR (B : List D → List Sl → (List D → List Sl → Prop) → Prop) (j : Nat) (vs : List Nat) (R : List D → List Sl → Prop) : List D → List D → List Sl → Prop
  | [], acc, env => R acc env
  | d :: ds, acc, env => B acc (env.set j (.d d)) fun acc' e' => (∀ i ∈ vs, (e'.set j .no)[i]? = some .no) ∧ LoopR B j vs R ds acc' (e'.set j .no)
theorem wipe_len (σ : L2.St) (vs : List Nat) : (wipe σ vs).length = σ.length := wipe_length σ vs
theorem St.free {vs : List Nat} (hv : ∀ i ∈ vs, env[i]? = some Sl.no) (hl : σ1.length = σ.length) (hs : ∀ i, i ∉ vs → σ1[i]? = σ[i]?) (S : St W G H σ env) : St W G H σ1 env := S.reslot hl fun i s e => by
  by_cases z : i ∈ vs
  · rw [hv i z] at e
    cases e
    exact .inl rfl
  · exact .inr (hs i z)
theorem own_free {vs : List Nat} (hv : ∀ i ∈ vs, env[i]? = some Sl.no) (hs : ∀ i, i ∉ vs → σ1[i]? = σ[i]?) {b : Addr} (h : own σ1 env b) : own σ env b := own_reslot (fun i s e => by
  by_cases z : i ∈ vs
  · rw [hv i z] at e
    cases e
    exact .inl rfl
  · exact .inr (hs i z)) h
theorem wipe_in {i : Nat} : ∀ {vs : List Nat}, i ∈ vs → (wipe σ vs)[i]? = if i < σ.length then some none else none
  | v :: vs, h => by
    show ((wipe σ vs).set v none)[i]? = _
    by_cases z : v = i
    · subst z
      split
      · rename_i l
        rw [List.getElem?_set_self (by rw [wipe_length]; exact l)]
      · rename_i l
        rw [List.getElem?_eq_none (by rw [List.length_set, wipe_length]; omega)]
    · rw [List.getElem?_set_ne z]
      rcases List.mem_cons.mp h with y | y
      · exact absurd y.symm z
      · exact wipe_in y
theorem wipe_set {j : Nat} {vs : List Nat} (hj : j ∈ vs) (x : Option V) : wipe ((wipe σ vs).set j x) vs = wipe σ vs := by
  apply List.ext_getElem?
  intro i
  by_cases h : i ∈ vs
  · rw [wipe_in h, wipe_in h, List.length_set, wipe_length]
  · rw [wipe_out h, List.getElem?_set_ne (fun z : j = i => h (by rw [← z]; exact hj))]
theorem St.drop (S : St W G H σ env) (j : Nat) : St W G H σ (env.set j .no) := by
  have was : ∀ {k : Nat} {t : Sl}, (env.set j .no)[k]? = some t → t = .no ∨ env[k]? = some t := fun {k t} f => by
    by_cases z : j = k
    · subst z
      by_cases hl : j < env.length
      · rw [List.getElem?_set_self hl] at f
        cases f
        exact .inl rfl
      · rw [List.getElem?_eq_none (by rw [List.length_set]; omega)] at f
        cases f
    · rw [List.getElem?_set_ne z] at f
      exact .inr f
  refine ⟨S.gh, by rw [List.length_set]; exact S.len, fun i s e => ?_, fun i k s t l e1 o1 v1 e2 o2 v2 => ?_⟩
  · rcases was e with z | z
    · subst z
      exact trivial
    · exact S.ok i s z
  · rcases was e1 with z | z
    · subst z
      cases o1
    · rcases was e2 with y | y
      · subst y
        cases o2
      · exact S.ds i k s t l z o1 v1 y o2 v2
theorem own_drop {j : Nat} {b : Addr} (h : own σ (env.set j .no) b) : own σ env b := by
  obtain ⟨k, t, f, q, v⟩ := h
  by_cases z : j = k
  · subst z
    by_cases hl : j < env.length
    · rw [List.getElem?_set_self hl] at f
      cases f
      cases q
    · rw [List.getElem?_eq_none (by rw [List.length_set]; omega)] at f
      cases f
  · rw [List.getElem?_set_ne z] at f
    exact ⟨k, t, f, q, v⟩
theorem lc_loop {J : It} {ds acc : List D} {tb : L2.St → Hp → (Hp → Prop) → Prop} {B : List D → List Sl → (List D → List Sl → Prop) → Prop} {j : Nat} {vs : List Nat} {R : List D → List Sl → Prop} {F : Hp → Prop}
    (hw : IsW W J G1 ds) (hj : j ∈ vs) (hb : BodyS W A tb B) (S1 : St W G1 H1 σ env) (hv : ∀ i ∈ vs, env[i]? = some Sl.no) (hA : AtA W G1 H1 σ env A acc) (k : LoopR B j vs R ds acc env)
    (fin : ∀ G2 H2 e2 acc', St W G2 H2 σ e2 → Tr σ env G1 (Nv.del A H1) σ e2 G2 (Nv.del A H2) → (∀ i ∈ vs, e2[i]? = some Sl.no) → AtA W G2 H2 σ e2 A acc' → R acc' e2 → F H2) :
    ∃ Wd : Nat → Nat → Hp → Prop, (∃ m, Wd 0 m H1) ∧ ∀ i m H, Wd i m H → (J.stop i H ∧ F H) ∨ (J.go i H ∧ ∃ Nx : Hp → Prop, (∀ H', Nx H' → ∃ m', m' < m ∧ Wd (i + 1) m' H') ∧ ∀ x H', J.yld i H x H' →
      (wipe ((wipe σ vs).set j (some x)) vs = wipe σ vs ∧ tb ((wipe σ vs).set j (some x)) H' Nx)) := by
  let I : Nat → Hp → Prop := fun i H2 => i ≤ ds.length ∧ ∃ G2 e2 acc', St W G2 H2 σ e2 ∧ Tr σ env G1 (Nv.del A H1) σ e2 G2 (Nv.del A H2) ∧ (∀ i ∈ vs, e2[i]? = some Sl.no) ∧ AtA W G2 H2 σ e2 A acc' ∧ LoopR B j vs R (ds.drop i) acc' e2
  refine ⟨fun i m H2 => m = ds.length - i ∧ I i H2, ⟨ds.length, by simp, Nat.zero_le _, G1, env, acc, S1, (Tr.refl S1).del, hv, hA, k⟩, ?_⟩
  rintro i m H2 ⟨rfl, hi, G2, e2, acc2, S2, T2, hv2, hA2, k2⟩
  by_cases hlt : i < ds.length
  · refine .inr ⟨hw.go i G2 H2 T2.gg S2.gh hlt, I (i + 1), fun H3 z => ⟨ds.length - (i + 1), by omega, rfl, z⟩, fun x H3 y => ⟨wipe_set hj _, ?_⟩⟩
    obtain ⟨G3, g3, r3⟩ := hw.yld i G2 H2 x H3 ds[i] T2.gg S2.gh (by simp [hlt]) y
    have e : ds.drop i = ds[i] :: ds.drop (i + 1) := by simp [hlt]
    rw [e] at k2
    have k2 : B acc2 (e2.set j (.d ds[i])) fun acc' e' => (∀ i ∈ vs, (e'.set j .no)[i]? = some Sl.no) ∧ LoopR B j vs R (ds.drop (i + 1)) acc' (e'.set j .no) := k2
    have out : ∀ i, i ∉ vs → (wipe σ vs)[i]? = σ[i]? := fun i h => wipe_out h
    have outx : ∀ i, i ∉ vs → ((wipe σ vs).set j (some x))[i]? = σ[i]? := fun i h => by rw [List.getElem?_set_ne (fun z : j = i => h (by rw [← z]; exact hj)), wipe_out h]
    have S3 : St W G3 H3 σ e2 := S2.up g3
    have S4 : St W G3 H3 ((wipe σ vs).set j (some x)) (e2.set j (.d ds[i])) := (St.free hv2 (wipe_length σ vs) out S3).set r3
    have down : ∀ b, own ((wipe σ vs).set j (some x)) (e2.set j (.d ds[i])) b → own σ e2 b := fun b z => own_free hv2 out (own_set z)
    obtain ⟨⟨av, a1, a2⟩, a3, a4⟩ := hA2
    have hA4 : AtA W G3 H3 ((wipe σ vs).set j (some x)) (e2.set j (.d ds[i])) A acc2 := ⟨⟨av, g3.hh _ _ a1, a2.up g3.gg⟩, g3.nw A (by rw [a1]; exact fun z => nomatch z) a3, fun z => a4 (down A z)⟩
    refine hb _ G3 H3 _ acc2 _ _ S4 hA4 k2 fun G5 H5 e5 acc5 S5 T5 hA5 ⟨hv5, k5⟩ => ?_
    have lower : ∀ b, own σ (e5.set j .no) b → own ((wipe σ vs).set j (some x)) e5 b := fun b z => own_drop (own_free (σ1 := σ) (σ := (wipe σ vs).set j (some x)) hv5 (fun i h => (outx i h).symm) z)
    refine ⟨hlt, G5, e5.set j .no, acc5, St.free hv5 (by rw [List.length_set, wipe_length]) (fun i h => (outx i h).symm) (S5.drop j), (T2.trans' (Tr.up S2 g3).del).trans' ⟨T5.gg, fun b o n h => T5.fr b o (fun z => n (down b z)) h, fun b m => T5.nw b fun z => m (down b z), fun b z => (T5.ow b (lower b z)).imp (down b) id, T5.kp, fun i s es h => ?_⟩, hv5, ⟨hA5.ex, hA5.g, fun z => hA5.o (lower A z)⟩, k5⟩
    have ni : i ∉ vs := fun z => by
      rw [hv2 i z] at es
      cases es
      cases h
    have ne : j ≠ i := fun z => ni (z ▸ hj)
    obtain ⟨_, s', e', h'⟩ := T5.pn i s (by rw [List.getElem?_set_ne ne]; exact es) h
    exact ⟨rfl, s', by rw [List.getElem?_set_ne ne]; exact e', h'⟩
  · have e : i = ds.length := by omega
    subst e
    rw [List.drop_length] at k2
    exact .inl ⟨hw.stop G2 H2 T2.gg S2.gh, fin G2 H2 e2 acc2 S2 T2 hv2 hA2 k2⟩

/-! ### a turn that appends -/
def tbS (tt : TT) (te : TE) (A : Addr) : L2.St → Hp → (Hp → Prop) → Prop := fun σ2 H2 Nx => tt σ2 H2 fun b H3 => if b = true then te σ2 H3 fun y H4 => ∃ acc, H4 A = some (.lst acc) ∧ acc.length < sizeLine ∧ Nx (upd H4 A (.lst (acc ++ [y]))) else Nx H3
def BS (W : Wd) (tt : TT) (te : TE) : List D → List Sl → (List D → List Sl → Prop) → Prop := fun acc e K => EvT W tt e fun b e1 => if b = true then Ev W te e1 fun y e2 => acc.length < sizeLine ∧ K (acc ++ [y]) e2 else K acc e1
theorem AtA.step {acc : List D} (h : AtA W G H σ env A acc) (T : Tr σ env G H σ env1 G1 H1) : AtA W G1 H1 σ env1 A acc := by
  obtain ⟨⟨av, a1, a2⟩, a3, a4⟩ := h
  refine ⟨⟨av, T.fr A _ a4 a1, a2.up T.gg⟩, T.nw A a4 (by rw [a1]; exact fun z => nomatch z) a3, fun z => ?_⟩
  rcases T.ow A z with y | y
  · exact a4 y
  · rw [a1] at y
    cases y
theorem body_s {tt : TT} {te : TE} : BodyS W A (tbS tt te A) (BS W tt te) := by
  intro σ G H e acc K Nx S hA hB q
  refine hB G H σ S _ fun b G1 H1 e1 S1 T1 k => ?_
  cases b with
  | false => exact q G1 H1 e1 acc S1 T1.del (hA.step T1) k
  | true =>
    have k : Ev W te e1 _ := k
    show te σ H1 _
    refine k G1 H1 σ S1 _ fun y d G2 H2 e2 S2 T2 r ⟨hz, k2⟩ => ?_
    have hA2 := hA.step (T1.trans' T2)
    obtain ⟨⟨av, a1, a2⟩, a3, a4⟩ := hA2
    refine ⟨av, a1, by rw [a2.length]; exact hz, q G2 _ e2 (acc ++ [d]) (S2.mut a3 a4) ?_ ⟨⟨_, upd_same, a2.append (.cons r .nil)⟩, a3, a4⟩ k2⟩
    rw [del_upd]
    exact (T1.trans' T2).del
/-! ### a turn that goes through another thing -/
def tbO (tt : TT) (wi1 : TI) (k : Nat) (tt1 : TT) (te : TE) (A : Addr) : L2.St → Hp → (Hp → Prop) → Prop := fun σ2 H2 Nx => tt σ2 H2 fun b H3 => if b = true then wi1 σ2 H3 fun J1 H4 => ∃ W1 : Nat → Nat → Hp → Prop, (∃ m, W1 0 m H4) ∧ ∀ j m H, W1 j m H →
  (J1.stop j H ∧ Nx H) ∨ (J1.go j H ∧ ∃ Nx1 : Hp → Prop, (∀ H', Nx1 H' → ∃ m', m' < m ∧ W1 (j + 1) m' H') ∧ ∀ x H', J1.yld j H x H' → (wipe ((wipe σ2 [k]).set k (some x)) [k] = wipe σ2 [k] ∧ tbS tt1 te A ((wipe σ2 [k]).set k (some x)) H' Nx1)) else Nx H3
def BO (W : Wd) (tt : TT) (wi1 : TI) (k : Nat) (tt1 : TT) (te : TE) : List D → List Sl → (List D → List Sl → Prop) → Prop := fun acc e K => EvT W tt e fun b e1 =>
  if b = true then EvI W wi1 e1 fun es e2 => (∀ i ∈ [k], e2[i]? = some Sl.no) ∧ LoopR (BS W tt1 te) k [k] K es acc e2 else K acc e1
theorem body_o {tt tt1 : TT} {te : TE} {wi1 : TI} {k : Nat} : BodyS W A (tbO tt wi1 k tt1 te A) (BO W tt wi1 k tt1 te) := by
  intro σ G H e acc K Nx S hA hB q
  refine hB G H σ S _ fun b G1 H1 e1 S1 T1 kk => ?_
  cases b with
  | false => exact q G1 H1 e1 acc S1 T1.del (hA.step T1) kk
  | true =>
    have kk : EvI W wi1 e1 _ := kk
    show wi1 σ H1 _
    refine kk G1 H1 σ S1 _ fun J es G2 H2 e2 S2 T2 hw ⟨hv, k2⟩ => ?_
    exact lc_loop hw (List.mem_singleton.mpr rfl) body_s S2 hv (hA.step (T1.trans' T2)) k2 fun G3 H3 e3 acc3 S3 T3 hv3 hA3 k3 => q G3 H3 e3 acc3 S3 ((T1.trans' T2).del.trans' T3) hA3 k3
/-- a comprehension with two for -/
theorem evf_lc2 {wi wi1 : TI} {tt tt1 : TT} {te : TE} {j k : Nat} {R : List D → List Sl → Prop} (h : EvI W wi env fun ds e1 => (∀ i ∈ [j, k], e1[i]? = some Sl.no) ∧ LoopR (BO W tt wi1 k tt1 te) j [j, k] R ds [] e1) :
    EvF W (tLc2 wi (gName j) tt wi1 (gName k) tt1 te [j, k] [k]) env R := fun G H σ S Q q => by
  refine h G H σ S _ fun J ds G1 H1 e1 S1 T1 hw ⟨hv, kk⟩ => fun A hA => ?_
  have nA : ¬ own σ e1 A := fun z => by
    obtain ⟨_, o, ho⟩ := S1.own_at z
    rw [hA] at ho
    cases ho
  have gA : G1 A = none := S1.gh.free hA
  have h0 : H A = none := by
    cases z : H A with
    | none => rfl
    | some o => exact absurd hA (T1.kp A (by rw [z]; exact fun y => nomatch y))
  have S2 : St W G1 (upd H1 A (.lst [])) σ e1 := S1.mut gA nA
  refine lc_loop (A := A) (tb := tbO tt wi1 k tt1 te A) (F := fun H2 => Q (.ref A) H2) hw List.mem_cons_self body_o S2 hv ⟨⟨[], upd_same, .nil⟩, gA, nA⟩ kk fun G3 H3 e3 acc3 S3 T3 hv3 hA3 k3 => ?_
  obtain ⟨⟨av, a1, a2⟩, a3, a4⟩ := hA3
  rw [del_upd, del_off hA] at T3
  have T4 : Tr σ e1 G1 H1 σ e3 G3 H3 := by
    have := T3.late (o := .lst av) hA
    rw [upd_del a1] at this
    exact this
  exact q A av acc3 G3 H3 e3 S3 (T1.trans S T4) h0 a1 a3 a4 a2 k3
end
end Nv

set_option Elab.async false
set_option linter.all false
set_option maxRecDepth 100000
set_option maxHeartbeats 4000000
/-! NvS: mirrors of comprehensions with two for, of dicts of one's own, of calls, of statements, of defs. -/
namespace Nv
open PySem L2 PyProof.Rows PySem.Spec

section
variable {W : Wd} {ta tb tc te : TE} {ma mb mc me : M D} {t u : TT} {mt mu : M Bool} {tr : TA} {mr : M (List D)}
/-! ### two for -/
def allNo (vs : List Nat) (e : Env) : Bool := vs.all fun i => (e[i]?).any isNo
def loopGo (b : List D → M (List D)) (j : Nat) (vs : List Nat) : List D → List D → M (List D)
  | [], acc, e => some (acc, e)
  | d :: ds, acc, e => (b acc (e.set j (.d d))).bind fun p => if allNo vs (p.2.set j .no) = true then loopGo b j vs ds p.1 (p.2.set j .no) else none
def mBS (t : M Bool) (m : M D) : List D → M (List D) := fun acc e => (t e).bind fun p => if p.1 = true then (m p.2).bind fun q => if acc.length < sizeLine then some (acc ++ [q.1], q.2) else none else some (acc, p.2)
def mBO (t : M Bool) (it : M (List D)) (k : Nat) (t1 : M Bool) (m : M D) : List D → M (List D) := fun acc e => (t e).bind fun p => if p.1 = true then (it p.2).bind fun q => if allNo [k] q.2 = true then loopGo (mBS t1 m) k [k] q.1 acc q.2 else none else some (acc, p.2)
def mLc2 (it : M (List D)) (t : M Bool) (it1 : M (List D)) (t1 : M Bool) (m : M D) (j k : Nat) : M (List D) := fun e => (it e).bind fun p => if allNo [j, k] p.2 = true then loopGo (mBO t it1 k t1 m) j [j, k] p.1 [] p.2 else none
theorem allNo_of {vs : List Nat} {e : Env} (h : allNo vs e = true) : ∀ i ∈ vs, e[i]? = some Sl.no := fun i hi => by
  have := List.all_eq_true.mp h i hi
  cases q : e[i]? with
  | none => simp only [q] at this; cases this
  | some s =>
    simp only [q] at this
    cases s <;> first | rfl | cases this
def SimB (B : List D → List Sl → (List D → List Sl → Prop) → Prop) (b : List D → M (List D)) : Prop := ∀ acc e K acc' e', b acc e = some (acc', e') → K acc' e' → B acc e K
theorem loop_of {B : List D → List Sl → (List D → List Sl → Prop) → Prop} {b : List D → M (List D)} (hb : SimB B b) {j : Nat} {vs : List Nat} {R : List D → List Sl → Prop} : ∀ (ds acc : List D) (env : Env) (r : List D) (e1 : Env), loopGo b j vs ds acc env = some (r, e1) → R r e1 → LoopR B j vs R ds acc env
  | [], acc, env, r, e1, h, k => by cases h; exact k
  | d :: ds, acc, env, r, e1, h, k => by
    obtain ⟨x, e2, h1, h⟩ := bind_of h
    split at h
    · rename_i hz
      exact hb _ _ _ _ _ h1 ⟨allNo_of hz, loop_of hb ds _ _ r e1 h k⟩
    · cases h
theorem sb_s {tt : TT} (ht : SimT W tt mt) (hm : SimE W te me) : SimB (BS W tt te) (mBS mt me) := fun acc env K acc' e' h k => by
  obtain ⟨x, e2, h1, h⟩ := bind_of h
  refine ht _ _ _ _ h1 ?_
  cases x with
  | false => cases h; exact k
  | true =>
    obtain ⟨y, e3, h2, h⟩ := bind_of (show ((me e2).bind fun q => if acc.length < sizeLine then some (acc ++ [q.1], q.2) else none) = some (acc', e') from h)
    refine hm _ _ _ _ h2 ?_
    split at h
    · rename_i hz
      cases h
      exact ⟨hz, k⟩
    · cases h
theorem sb_o {tt tt1 : TT} {mt1 : M Bool} {wi1 : TI} {mi1 : M (List D)} {k : Nat} (ht : SimT W tt mt) (hi : SimI W wi1 mi1) (ht1 : SimT W tt1 mt1) (hm : SimE W te me) : SimB (BO W tt wi1 k tt1 te) (mBO mt mi1 k mt1 me) := fun acc env K acc' e' h kk => by
  obtain ⟨x, e2, h1, h⟩ := bind_of h
  refine ht _ _ _ _ h1 ?_
  cases x with
  | false => cases h; exact kk
  | true =>
    obtain ⟨y, e3, h2, h⟩ := bind_of (show ((mi1 e2).bind fun q => if allNo [k] q.2 = true then loopGo (mBS mt1 me) k [k] q.1 acc q.2 else none) = some (acc', e') from h)
    refine hi _ _ _ _ h2 ?_
    split at h
    · rename_i hz
      exact ⟨allNo_of hz, loop_of (sb_s ht1 hm) _ _ _ _ _ h kk⟩
    · cases h
theorem sf_lc2 {wi wi1 : TI} {mi mi1 : M (List D)} {tt tt1 : TT} {mt1 : M Bool} {j k : Nat} (hi : SimI W wi mi) (ht : SimT W tt mt) (hi1 : SimI W wi1 mi1) (ht1 : SimT W tt1 mt1) (hm : SimE W te me) :
    SimF W (tLc2 wi (gName j) tt wi1 (gName k) tt1 te [j, k] [k]) (mLc2 mi mt mi1 mt1 me j k) := fun env R d e1 h hr => by
  obtain ⟨x, e2, h1, h⟩ := bind_of h
  split at h
  · rename_i hz
    exact evf_lc2 (hi _ _ _ _ h1 ⟨allNo_of hz, loop_of (sb_o ht hi1 ht1 hm) _ _ _ _ _ h hr⟩)
  · cases h

/-! ### list(x), all(..), repr -/
def seqOf : List D → Option (List D)
  | [.lst xs] => some xs
  | [.tup xs] => some xs
  | _ => none
def mList (r : M (List D)) : M (List D) := fun e => (r e).bind fun p => (seqOf p.1).bind fun xs => some (xs, p.2)
theorem seqOf_of {ds xs : List D} (h : seqOf ds = some xs) : ds = [.lst xs] ∨ ds = [.tup xs] := by
  unfold seqOf at h
  split at h
  · cases h; exact .inl rfl
  · cases h; exact .inr rfl
  · cases h
theorem sf_list (h : SimA W tr mr) : SimF W (tCB (fun xs H Q => ∃ p ys, xs = [.ref p] ∧ (SqL W.K H p ys ∨ SqT W.K H p ys) ∧ ∀ l, H l = none → Q (.ref l) (upd H l (.lst ys))) tr) (mList mr) := fun env R d e1 hm hr => by
  obtain ⟨x, e2, h1, hm⟩ := bind_of hm
  obtain ⟨z, h3, hm⟩ := bind_of' hm
  cases hm
  exact evf_list (h _ _ _ _ h1 ⟨_, seqOf_of h3, hr⟩)
def blsOf : List D → Option (List Bool)
  | [] => some []
  | .bl b :: r => (blsOf r).map (b :: ·)
  | _ => none
theorem blsOf_of : ∀ {ds : List D} {bs : List Bool}, blsOf ds = some bs → ds = bs.map D.bl
  | [], _, h => by cases h; rfl
  | d :: ds, bs, h => by
    cases d <;> first | (cases h; done) | skip
    rename_i b
    have h : (blsOf ds).map (b :: ·) = some bs := h
    cases q : blsOf ds with
    | none => rw [q] at h; cases h
    | some cs =>
      rw [q] at h
      cases h
      rw [blsOf_of q]
      rfl
def all1 : List D → Option (List Bool)
  | [.lst xs] => blsOf xs
  | _ => none
def mAll (r : M (List D)) : M D := fun e => (r e).bind fun p => (all1 p.1).bind fun bs => some (.bl (bs.all id), p.2)
theorem se_all (h : SimA W tr mr) : SimE W (tCB (rAll W.K) tr) (mAll mr) := fun env R d e1 hm hr => by
  obtain ⟨x, e2, h1, hm⟩ := bind_of hm
  obtain ⟨z, h3, hm⟩ := bind_of' hm
  cases hm
  refine ev_all (h _ _ _ _ h1 ⟨z, ?_, hr⟩)
  have z1 : ∀ {x : List D}, all1 x = some z → x = [.lst (z.map D.bl)] := fun {x} h => by
    unfold all1 at h
    split at h
    · rw [blsOf_of h]
    · cases h
  exact z1 h3
def rokB (d : D) : Bool := d.plain && tells d.py && d.py.showable && decide (d.py.depth ≤ 60) && decide (d.py.shown.length ≤ sizeLine)
theorem rokB_of {d : D} (h : rokB d = true) : Rok d := by
  unfold rokB at h
  simp only [Bool.and_eq_true, decide_eq_true_eq] at h
  exact ⟨h.1.1.1.1, h.1.1.1.2, h.1.1.2, h.1.2, h.2⟩
theorem rokB_iff {d : D} (h : Rok d) : rokB d = true := by
  unfold rokB
  simp only [Bool.and_eq_true, decide_eq_true_eq]
  exact ⟨⟨⟨⟨h.plain, h.tells⟩, h.show_⟩, h.depth⟩, h.len⟩
def repr1 : List D → Option D
  | [d] => if rokB d = true then some (.str d.py.shown) else none
  | _ => none
def mRepr (r : M (List D)) : M D := fun e => (r e).bind fun p => (repr1 p.1).bind fun z => some (z, p.2)
theorem repr1_of {ds : List D} {z : D} (h : repr1 ds = some z) : ∃ d, ds = [d] ∧ Rok d ∧ z = .str d.py.shown := by
  unfold repr1 at h
  split at h
  · split at h
    · rename_i hz
      cases h
      exact ⟨_, rfl, rokB_of hz, rfl⟩
    · cases h
  · cases h
theorem se_repr (h : SimA W tr mr) : SimE W (tCB (rRepr W.K) tr) (mRepr mr) := fun env R d e1 hm hr => by
  obtain ⟨x, e2, h1, hm⟩ := bind_of hm
  obtain ⟨z, h3, hm⟩ := bind_of' hm
  cases hm
  obtain ⟨d, h4, h5, h6⟩ := repr1_of h3
  subst h6
  exact ev_repr (h _ _ _ _ h1 ⟨d, h4, h5, hr⟩)

/-! ### dicts of one's own -/
def isOD (i : Nat) (e : Env) : Option (List (Key × D)) := (e[i]?).bind Sl.dict
theorem isOD_of {i : Nat} {e : Env} {kvs : List (Key × D)} (h : isOD i e = some kvs) : ∃ s, e[i]? = some s ∧ s.dict = some kvs := by
  obtain ⟨s, h1, h2⟩ := bind_of' h
  exact ⟨s, h1, h2⟩
def mDGet (i : Nat) (a : M D) : M D := fun e => (isOD i e).bind fun _ => (a e).bind fun p => (isOD i p.2).bind fun kvs => (keyD p.1).bind fun k => (valD kvs k).bind fun d => some (d, p.2)
theorem se_dget {i : Nat} (ha : SimE W ta ma) : SimE W (tDGet (tVar i) ta) (mDGet i ma) := fun env R d e1 hm hr => by
  obtain ⟨k0, h0, hm⟩ := bind_of' hm
  obtain ⟨y, e2, h1, hm⟩ := bind_of hm
  obtain ⟨kvs, h2, hm⟩ := bind_of' hm
  obtain ⟨k, h3, hm⟩ := bind_of' hm
  obtain ⟨z, h4, hm⟩ := bind_of' hm
  cases hm
  obtain ⟨s0, a1, a2⟩ := isOD_of h0
  obtain ⟨s, b1, b2⟩ := isOD_of h2
  exact ev_dget ⟨s0, k0, a1, a2⟩ (ha _ _ _ _ h1 ⟨s, kvs, k, _, b1, b2, h3, h4, hr⟩)
end

/-! ### statements -/
section
variable {W : Wd} {ta tb tc te : TE} {ma mb mc me : M D} {t u : TT} {mt mu : M Bool} {tr : TA} {mr : M (List D)} {t1 t2 : TS} {m1 m2 : MS}
def mSeq (a b : MS) : MS := fun e => (a e).bind fun p => match p.1 with
  | .nx => b p.2
  | o => some (o, p.2)
def mRet (a : M D) : MS := fun e => (a e).bind fun p => some (.rt p.1, p.2)
def mRetN : MS := fun e => some (.rt .non, e)
def mNext : MS := fun e => some (.nx, e)
def mBrk : MS := fun e => some (.bk, e)
def mCont : MS := fun e => some (.ct, e)
def mDrop (a : M D) : MS := fun e => (a e).bind fun p => some (.nx, p.2)
def freeB (e : Env) (j : Nat) : Bool := match e[j]? with
  | some s => !s.pinned
  | none => true
theorem freeB_of {e : Env} {j : Nat} (h : freeB e j = true) : Free e j := fun s hs => by
  unfold freeB at h
  rw [hs] at h
  simpa using h
def mSet (j : Nat) (a : M D) : MS := fun e => (a e).bind fun p => if freeB p.2 j = true then some (.nx, p.2.set j (.d p.1)) else none
def mOwn (j : Nat) (a : M (List D)) : MS := fun e => (a e).bind fun p => if freeB p.2 j = true then some (.nx, p.2.set j (.ol p.1)) else none
def olOf : Sl → Option (List D)
  | .ol xs => some xs
  | _ => none
def isOL (i : Nat) (e : Env) : Option (List D) := (e[i]?).bind olOf
theorem isOL_of {i : Nat} {e : Env} {xs : List D} (h : isOL i e = some xs) : e[i]? = some (.ol xs) := by
  obtain ⟨s, h1, h2⟩ := bind_of' h
  cases s <;> first | (cases h2; done) | skip
  cases h2
  exact h1
def mApp (i : Nat) (a : M D) : MS := fun e => (isOL i e).bind fun _ => (a e).bind fun p => (isOL i p.2).bind fun xs => if xs.length < sizeLine then some (.nx, p.2.set i (.ol (xs ++ [p.1]))) else none
def dOf : Sl → Option D
  | .d x => some x
  | _ => none
def isD1 (j : Nat) (e : Env) : Option D := (e[j]?).bind dOf
theorem isD1_of {j : Nat} {e : Env} {x : D} (h : isD1 j e = some x) : e[j]? = some (.d x) := by
  obtain ⟨s, h1, h2⟩ := bind_of' h
  cases s <;> first | (cases h2; done) | skip
  cases h2
  exact h1
def mAug (j : Nat) (o : D → D → Option D) (a : M D) : MS := fun e => (isD1 j e).bind fun _ => (a e).bind fun p => (isD1 j p.2).bind fun x => (o x p.1).bind fun z => some (.nx, p.2.set j (.d z))
def mDPut (i : Nat) (k : Key) (a : M D) : MS := fun e => (a e).bind fun p => (p.2[i]?).bind fun s => s.dict.bind fun kvs => if kvs.length < sizeLine then some (.nx, p.2.set i (s.dictTo (putD kvs k p.1))) else none
theorem ss_seq (h1 : SimS W t1 m1) (h2 : SimS W t2 m2) : SimS W (tSeq t1 t2) (mSeq m1 m2) := fun env P o e1 hm hr => by
  obtain ⟨x, e2, k1, hm⟩ := bind_of hm
  refine run_seq (h1 _ _ _ _ k1 ?_)
  cases x with
  | nx => exact h2 _ _ _ _ hm hr
  | rt d => cases hm; exact hr
  | bk => cases hm; exact hr
  | ct => cases hm; exact hr
theorem ss_ret (ha : SimE W te me) : SimS W (tRet te) (mRet me) := fun env P o e1 hm hr => by
  obtain ⟨x, e2, h1, hm⟩ := bind_of hm
  cases hm
  exact run_ret (ha _ _ _ _ h1 hr)
theorem ss_retN : SimS W tRetN mRetN := fun env P o e1 hm hr => by cases hm; exact run_retN hr
theorem ss_next : SimS W tNext mNext := fun env P o e1 hm hr => by cases hm; exact run_next hr
theorem ss_brk : SimS W tBreak mBrk := fun env P o e1 hm hr => by cases hm; exact run_brk hr
theorem ss_cont : SimS W tCont mCont := fun env P o e1 hm hr => by cases hm; exact run_cont hr
theorem ss_drop (ha : SimE W te me) : SimS W (tDrop te) (mDrop me) := fun env P o e1 hm hr => by
  obtain ⟨x, e2, h1, hm⟩ := bind_of hm
  cases hm
  exact run_drop (ha _ _ _ _ h1 hr)
theorem ss_if (ht : SimT W t mt) (h1 : SimS W t1 m1) (h2 : SimS W t2 m2) : SimS W (tIfS t t1 t2) (mIf mt m1 m2) := fun env P o e1 hm hr => by
  obtain ⟨x, e2, k1, hm⟩ := bind_of hm
  refine run_if (ht _ _ _ _ k1 ?_)
  cases x with
  | false => exact h2 _ _ _ _ hm hr
  | true => exact h1 _ _ _ _ hm hr
theorem ss_set {j : Nat} (ha : SimE W te me) : SimS W (tAsg te (gName j)) (mSet j me) := fun env P o e1 hm hr => by
  obtain ⟨x, e2, h1, hm⟩ := bind_of hm
  split at hm
  · rename_i hz
    cases hm
    exact run_set (ha _ _ _ _ h1 ⟨freeB_of hz, hr⟩)
  · cases hm
theorem ss_own {j : Nat} {m : M (List D)} (ha : SimF W te m) : SimS W (tAsg te (gName j)) (mOwn j m) := fun env P o e1 hm hr => by
  obtain ⟨x, e2, h1, hm⟩ := bind_of hm
  split at hm
  · rename_i hz
    cases hm
    exact run_own (ha _ _ _ _ h1 ⟨freeB_of hz, hr⟩)
  · cases hm
theorem ss_app {i : Nat} (ha : SimE W te me) : SimS W (tDrop (tBM W.K "list" rAppend (tVar i) (tCons te tNil))) (mApp i me) := fun env P o e1 hm hr => by
  obtain ⟨ys, h0, hm⟩ := bind_of' hm
  obtain ⟨x, e2, h1, hm⟩ := bind_of hm
  obtain ⟨xs, h2, hm⟩ := bind_of' hm
  split at hm
  · rename_i hz
    cases hm
    exact run_app (ha _ _ _ _ h1 ⟨xs, isOL_of h2, hz, hr⟩) ⟨ys, isOL_of h0⟩
  · cases hm
theorem ss_dput {i : Nat} {ty : TE} {kd : D} {k : Key} (hy : SimE W ty (mC kd)) (hk : keyD kd = some k) (ha : SimE W te me) : SimS W (sDPut (tVar i) ty te) (mDPut i k me) := fun env P o e1 hm hr => by
  obtain ⟨x, e2, h1, hm⟩ := bind_of hm
  obtain ⟨s, h2, hm⟩ := bind_of' hm
  obtain ⟨kvs, h3, hm⟩ := bind_of' hm
  split at hm
  · rename_i hz
    cases hm
    exact run_dput (ha _ _ _ _ h1 ⟨⟨s, kvs, h2, h3⟩, hy _ _ _ _ rfl ⟨rfl, s, kvs, k, h2, h3, hk, hz, hr⟩⟩)
  · cases hm

/-! loops -/
def forGo (j : Nat) (b : MS) : List D → MS
  | [], e => some (.nx, e)
  | d :: ds, e => if freeB e j = true then (b (e.set j (.d d))).bind fun p => match p.1 with
    | .nx => forGo j b ds p.2
    | .ct => forGo j b ds p.2
    | .bk => some (.nx, p.2)
    | .rt d => some (.rt d, p.2) else none
def mFor (it : M (List D)) (j : Nat) (b : MS) : MS := fun e => (it e).bind fun p => forGo j b p.1 p.2
theorem forR_of {j : Nat} (hb : SimS W t1 m1) {P : Post} : ∀ (ds : List D) (env : Env) (o : Out) (e1 : Env), forGo j m1 ds env = some (o, e1) → Post.hit P o e1 → ForR W (gName j) t1 P ds env
  | [], env, o, e1, h, k => by cases h; exact k
  | d :: ds, env, o, e1, h, k => by
    have h : (if freeB env j = true then (m1 (env.set j (.d d))).bind fun p => match p.1 with
      | .nx => forGo j m1 ds p.2
      | .ct => forGo j m1 ds p.2
      | .bk => some (.nx, p.2)
      | .rt d => some (.rt d, p.2) else none) = some (o, e1) := h
    split at h
    · rename_i hz
      obtain ⟨x, e2, h1, h⟩ := bind_of h
      refine tg_name (freeB_of hz) (hb _ _ _ _ h1 ?_)
      cases x with
      | nx => exact forR_of hb ds _ o e1 h k
      | ct => exact forR_of hb ds _ o e1 h k
      | bk => cases h; exact k
      | rt d => cases h; exact k
    · cases h
theorem ss_for {wi : TI} {mi : M (List D)} {j : Nat} (hi : SimI W wi mi) (hb : SimS W t1 m1) : SimS W (tFor wi (gName j) t1) (mFor mi j m1) := fun env P o e1 hm hr => by
  obtain ⟨x, e2, h1, hm⟩ := bind_of hm
  exact run_for (hi _ _ _ _ h1 (forR_of hb _ _ _ _ hm hr))
def whGo (t : M Bool) (b : MS) : Nat → MS
  | 0, _ => none
  | n + 1, e => (t e).bind fun p => if p.1 = true then (b p.2).bind fun q => match q.1 with
    | .nx => whGo t b n q.2
    | .ct => whGo t b n q.2
    | .bk => some (.nx, q.2)
    | .rt d => some (.rt d, q.2) else some (.nx, p.2)
def mWhile (n : Nat) (t : M Bool) (b : MS) : MS := whGo t b n
theorem ss_while {n : Nat} (ht : SimT W t mt) (hb : SimS W t1 m1) : SimS W (tWhile t t1) (mWhile n mt m1) := fun env P o e1 hm hr => by
  refine run_while (fun m e => ∃ o e1, whGo mt m1 m e = some (o, e1) ∧ Post.hit P o e1) n ⟨o, e1, hm, hr⟩ ?_
  rintro m e ⟨o, e1, hm, hr⟩
  cases m with
  | zero => cases hm
  | succ m =>
    obtain ⟨x, e2, h1, hm⟩ := bind_of hm
    refine ht _ _ _ _ h1 ?_
    cases x with
    | false => cases hm; exact hr
    | true =>
      obtain ⟨y, e3, h2, hm⟩ := bind_of (show ((m1 e2).bind fun q => match q.1 with
        | .nx => whGo mt m1 m q.2
        | .ct => whGo mt m1 m q.2
        | .bk => some (.nx, q.2)
        | .rt d => some (.rt d, q.2)) = some (o, e1) from hm)
      refine hb _ _ _ _ h2 ?_
      cases y with
      | nx => exact ⟨m, Nat.lt_succ_self m, o, e1, hm, hr⟩
      | ct => exact ⟨m, Nat.lt_succ_self m, o, e1, hm, hr⟩
      | bk => cases hm; exact hr
      | rt d => cases hm; exact hr
theorem ss_aug {j : Nat} {r : R2} {o : D → D → Option D} (ho : OpD W r o) (ha : SimE W te me) : SimS W (tAug j te (fun x y H Q => r x y H Q)) (mAug j o me) := fun env P o e1 hm hr => by
  obtain ⟨x0, h0, hm⟩ := bind_of' hm
  obtain ⟨x, e2, h1, hm⟩ := bind_of hm
  obtain ⟨y, h2, hm⟩ := bind_of' hm
  obtain ⟨z, h3, hm⟩ := bind_of' hm
  cases hm
  exact run_aug ho (ha _ _ _ _ h1 ⟨y, z, isD1_of h2, h3, hr⟩) ⟨x0, isD1_of h0⟩

/-! ### calls, defs -/
abbrev Fm := List Sl → Option (D × List Sl)
def PhiF (c : Fm) : Fs := fun as R => ∃ d as', c as = some (d, as') ∧ R d as'
def mCall (n : Nat) (c : Fm) (a : M (List D)) : M D := fun e => (a e).bind fun p => if p.1.length = n then (c (p.1.map .d)).bind fun q => some (q.1, p.2) else none
theorem se_g {n : Nat} {c : Fm} (h : SimA W tr mr) : SimE W (tG (SpD W n (PhiF c)) tr) (mCall n c mr) := fun env R d e1 hm hr => by
  obtain ⟨x, e2, h1, hm⟩ := bind_of hm
  split at hm
  · rename_i hz
    obtain ⟨y, e3, h2, hm⟩ := bind_of hm
    cases hm
    exact ev_g (h _ _ _ _ h1 ⟨hz, _, _, h2, hr⟩)
  · cases hm
def mCallK (n m : Nat) (pm : List Nat) (c : Fm) (a : M (List D)) : M D := fun e => (a e).bind fun p => if p.1.length = m ∧ (permD pm p.1).length = n then (c ((permD pm p.1).map .d)).bind fun q => some (q.1, p.2) else none
theorem se_gK {n m : Nat} {pm : List Nat} {c : Fm} (h : SimA W tr mr) : SimE W (tGK m pm (SpD W n (PhiF c)) tr) (mCallK n m pm c mr) := fun env R d e1 hm hr => by
  obtain ⟨x, e2, h1, hm⟩ := bind_of hm
  split at hm
  · rename_i hz
    obtain ⟨y, e3, h2, hm⟩ := bind_of hm
    cases hm
    exact ev_gK (h _ _ _ _ h1 ⟨hz.1, hz.2, _, _, h2, hr⟩)
  · cases hm
def isOwn (i : Nat) (e : Env) : Option Sl := (e[i]?).bind fun s => if s.owned = true then some s else none
theorem isOwn_of {i : Nat} {e : Env} {s : Sl} (h : isOwn i e = some s) : e[i]? = some s ∧ s.owned = true := by
  obtain ⟨x, h1, h2⟩ := bind_of' h
  split at h2
  · rename_i hz
    cases h2
    exact ⟨h1, hz⟩
  · cases h2
def mCallP (n i : Nat) (c : Fm) (a : M (List D)) : M D := fun e => (isOwn i e).bind fun _ => (a e).bind fun p => (isOwn i p.2).bind fun s => if p.1.length + 1 = n then (c (s.lend :: p.1.map .d)).bind fun q => (q.2[0]?).bind fun s' => some (q.1, p.2.set i (s.back s')) else none
theorem se_gp {n i : Nat} {c : Fm} (h : SimA W tr mr) : SimE W (tG (SpD W n (PhiF c)) (tCons (tVar i) tr)) (mCallP n i c mr) := fun env R d e1 hm hr => by
  obtain ⟨s0, h0, hm⟩ := bind_of' hm
  obtain ⟨x, e2, h1, hm⟩ := bind_of hm
  obtain ⟨s, h2, hm⟩ := bind_of' hm
  split at hm
  · rename_i hz
    obtain ⟨y, e3, h3, hm⟩ := bind_of hm
    obtain ⟨s', h4, hm⟩ := bind_of' hm
    cases hm
    obtain ⟨a1, a2⟩ := isOwn_of h0
    obtain ⟨b1, b2⟩ := isOwn_of h2
    exact ev_gp ⟨s0, a1, a2⟩ (h _ _ _ _ h1 ⟨hz, s, b1, b2, _, _, h3, s', h4, hr⟩)
  · cases hm
/-- a def's mirror by its body's -/
def defM (n N : Nat) (b : MS) : Fm := fun as => if as.length = n then (b (as ++ List.replicate (N - n) .no)).bind fun p => match p.1 with
  | .rt d => some (d, mergeS as p.2)
  | .nx => some (.non, mergeS as p.2)
  | _ => none else none
end
section
variable {P : Program} {w : World} {mg : Str → Option Value} {base : Heap} {k : Nat} {f : Addr} {fd : FuncData} {ps : List Str} {W : Wd}
theorem fn_m {x qual : Str} {st : Stmt} {N : List Str} {n nN : Nat} {m : MS} (F : Fun W.K x qual st f fd) (S : FnScope N ps (defScope st)) (hn : ps.length = n) (hN : N.length = nN)
    (hbody : ∀ (cdv : Value) (A : Around) (outer : List PySem.Env) (s : Shared) (H : Hp) (E : XK), (Bx P w W.K mg base N qual st f cdv A outer s H E).A.guards = some [] → Room k (Bx P w W.K mg base N qual st f cdv A outer s H E).A →
      ∃ t, PSs (Bx P w W.K mg base N qual st f cdv A outer s H E) (defBody st) t ∧ SimS W t m) :
    FnG P w W.K mg base (k + 1) f fd ps (SpD W n (PhiF (defM n nN m))) := by
  subst hn
  subst hN
  refine fn_d F S fun cdv A outer s H E hg hr => ?_
  obtain ⟨t, h1, h2⟩ := hbody cdv A outer s H E hg hr
  refine ⟨t, h1, fun as R hl ⟨d, as', hc, hR⟩ => ?_⟩
  unfold defM at hc
  rw [if_pos hl] at hc
  obtain ⟨o, e1, h3, hc⟩ := bind_of hc
  refine h2 _ _ _ _ h3 ?_
  cases o with
  | nx => cases hc; exact hR
  | rt d => cases hc; exact hR
  | bk => cases hc
  | ct => cases hc
end
end Nv

set_option Elab.async false
set_option linter.all false
set_option maxRecDepth 100000
set_option maxHeartbeats 4000000
/-! NvW: the pen of a law (a dict of one's own, made by a def from the script). -/
namespace Nv
open PySem L2 PyProof.Rows PySem.Spec

section
variable {W : Wd} {G H : Hp} {σ : L2.St} {env : List Sl}
theorem St.takeS (S : St W G H σ env) {j : Nat} {p : Addr} {s : Sl} (ok : OkS W G H (some (some (.ref p))) s) (no : ¬ own σ env p) : St W G H (σ.set j (some (.ref p))) (env.set j s) := by
  by_cases jl : j < env.length
  · refine ⟨S.gh, by rw [List.length_set, List.length_set]; exact S.len, fun k t f => ?_, fun a b s1 t1 m e1 o1 v1 e2 o2 v2 => ?_⟩
    · by_cases z : j = k
      · subst z
        rw [List.getElem?_set_self jl] at f
        cases f
        rw [List.getElem?_set_self (by rw [S.len]; exact jl)]
        exact ok
      · rw [List.getElem?_set_ne z] at f
        rw [List.getElem?_set_ne z]
        exact S.ok k t f
    · have at_j : ∀ {m : Addr}, (σ.set j (some (V.ref p)))[j]? = some (some (.ref m)) → m = p := fun {m} v => by
        rw [List.getElem?_set_self (by rw [S.len]; exact jl)] at v
        cases v
        rfl
      by_cases za : j = a
      · subst za
        by_cases zb : j = b
        · exact zb
        · rw [List.getElem?_set_ne zb] at e2 v2
          rw [at_j v1] at v2
          exact absurd ⟨b, t1, e2, o2, v2⟩ no
      · rw [List.getElem?_set_ne za] at e1 v1
        by_cases zb : j = b
        · subst zb
          rw [at_j v2] at v1
          exact absurd ⟨a, s1, e1, o1, v1⟩ no
        · rw [List.getElem?_set_ne zb] at e2 v2
          exact S.ds a b s1 t1 m e1 o1 v1 e2 o2 v2
  · rw [List.set_eq_of_length_le (by rw [S.len]; omega), List.set_eq_of_length_le (by omega)]
    exact S
theorem Tr.takeS {j : Nat} {p : Addr} {s : Sl} (hf : Free env j) {G0 H0 : Hp} {σ0 : L2.St} {env0 : List Sl} (T : Tr σ0 env0 G0 H0 σ env G H) (h0 : H0 p = none) : Tr σ0 env0 G0 H0 (σ.set j (some (.ref p))) (env.set j s) G H := by
  refine ⟨T.gg, T.fr, T.nw, fun b ⟨k, t, f, q, v⟩ => ?_, T.kp, fun i s e h => ?_⟩
  · by_cases z : j = k
    · subst z
      by_cases jl : j < σ.length
      · rw [List.getElem?_set_self jl] at v
        cases v
        exact .inr h0
      · rw [List.getElem?_eq_none (by rw [List.length_set]; omega)] at v
        cases v
    · rw [List.getElem?_set_ne z] at f v
      exact T.ow b ⟨k, t, f, q, v⟩
  · obtain ⟨e1, s', e2, h2⟩ := T.pn i s e h
    have ne : j ≠ i := fun z => by
      subst z
      rw [hf s' e2] at h2
      cases h2
    rw [List.getElem?_set_ne ne, List.getElem?_set_ne ne]
    exact ⟨e1, s', e2, h2⟩
end
def pen0 (xs : List D) : List (Key × D) := [(.inr "cells", .lst (xs.take 63)), (.inr "at", .int 0), (.inr "left", .int 0)]
def SpPen (W : Wd) : Sp := fun vs H Q _ => ∃ (G : Hp) (x : V) (xs : List D), vs = [x] ∧ Same G H ∧ Rp W G x (.frl xs) ∧
  ∀ (p : Addr) (kvs : List (Key × V)) (G' H' : Hp), Gr G H G' H' → H p = none → H' p = some (.dK kvs) → G' p = none → kvs.map (·.1) = (pen0 xs).map (·.1) → RpAll W G' (kvs.map (·.2)) ((pen0 xs).map (·.2)) → Q (.ref p) H'
def tPen (K : PySem.W.Frag) : TE := tDisp [(tC (.str "cells"), tCB (fun xs H Q => ∃ p ys, xs = [.ref p] ∧ (SqL K H p ys ∨ SqT K H p ys) ∧ ∀ l, H l = none → Q (.ref l) (upd H l (.lst ys))) (tCons (tSl (rSlU K) (tVar 0) tNoPart (tPart (tC (.int 63)))) tNil)), (tC (.str "at"), tC (.int 0)), (tC (.str "left"), tC (.int 0))]
theorem cut63 (xs : List D) : cut xs none (some 63) = xs.take 63 := by
  unfold cut
  have h0 : HT.sIx xs.length 0 none = 0 := rfl
  rw [h0, List.drop_zero, Nat.sub_zero]
  have h1 : HT.sIx xs.length xs.length (some 63) = min 63 xs.length := by
    unfold HT.sIx
    simp
    try omega
  rw [h1]
  by_cases h : xs.length ≤ 63
  · rw [Nat.min_eq_right h, List.take_of_length_le h, List.take_of_length_le (Nat.le_refl _)]
  · rw [Nat.min_eq_left (by omega)]
section
variable {P : Program} {w : World} {mg : Str → Option Value} {base : Heap} {k : Nat} {f : Addr} {fd : FuncData} {ps : List Str} {W : Wd}
theorem tPairs_c {kv : V} {tv : TE} {r : List (TE × TE)} {σ : L2.St} {H : Hp} {Q : List (V × V) → Hp → Prop} (h : tv σ H fun y H2 => tPairs r σ H2 fun ps H3 => Q ((kv, y) :: ps) H3) : tPairs ((tC kv, tv) :: r) σ H Q := h
theorem tPairs_cc {kv lv : V} {r : List (TE × TE)} {σ : L2.St} {H : Hp} {Q : List (V × V) → Hp → Prop} (h : tPairs r σ H fun ps H3 => Q ((kv, lv) :: ps) H3) : tPairs ((tC kv, tC lv) :: r) σ H Q := h
theorem pen_ok {G H : Hp} {x : V} {xs : List D} {Q : VK} (e : Same G H) (r : Rp W G x (.frl xs))
    (q : ∀ (p : Addr) (kvs : List (Key × V)) (G' H' : Hp), Gr G H G' H' → H p = none → H' p = some (.dK kvs) → G' p = none → kvs.map (·.1) = (pen0 xs).map (·.1) → RpAll W G' (kvs.map (·.2)) ((pen0 xs).map (·.2)) → Q (.ref p) H') :
    tPen W.K [some x] H Q := by
  have S0 : St W G H [some x] [.d (.frl xs)] := St.data (vs := [x]) (ds := [.frl xs]) e (.cons r .nil)
  intro p hp
  have gp : G p = none := e.free hp
  have no : ¬ own [some x] [Sl.d (.frl xs)] p := not_own_data (vs := [x]) (ds := [.frl xs])
  have S1 : St W G (upd H p (.dK [])) [some x] [.d (.frl xs)] := S0.mut gp no
  have hm : mLst (mList (mCons (mSl (mVar 0) mONone (mOSome (mC (.int 63)))) mNil)) [Sl.d (.frl xs)] = some (.lst (xs.take 63), [Sl.d (.frl xs)]) := by
    have : mLst (mList (mCons (mSl (mVar 0) mONone (mOSome (mC (.int 63)))) mNil)) [Sl.d (.frl xs)] = some (.lst (cut xs none (some 63)), [Sl.d (.frl xs)]) := rfl
    rw [this, cut63]
  refine tPairs_c ?_
  refine (se_f (sf_list (sa_cons (se_sl se_var so_none (so_some se_int)) sa_nil))) _ (fun d e1 => d = .lst (xs.take 63) ∧ e1 = [Sl.d (.frl xs)]) _ _ hm ⟨rfl, rfl⟩ G _ _ S1 _ fun v d G2 H2 e2 S2 T2 rv ⟨hd, he⟩ => ?_
  subst hd he
  have hp2 : H2 p = some (.dK []) := T2.fr p _ no upd_same
  have gp2 : G2 p = none := T2.nw p no (by rw [upd_same]; exact fun z => nomatch z) gp
  refine tPairs_cc (tPairs_cc ?_)
  refine ⟨hp2, [(.inr "cells", v), (.inr "at", .int 0), (.inr "left", .int 0)], rfl, (by show 3 ≤ 15; omega), ?_⟩
  refine q p [(.inr "cells", v), (.inr "at", .int 0), (.inr "left", .int 0)] G2 _ ⟨T2.gg, fun b u hb => ?_, fun b u hb => ?_, fun b hb hg => ?_⟩ hp ?_ gp2 rfl (.cons rv (.cons (.int 0) (.cons (.int 0) .nil)))
  · rw [upd_ne (ne_of_none hb gp2)]
    exact S2.gh b u hb
  · have ne : b ≠ p := ne_of_none hb hp
    rw [upd_ne ne]
    exact T2.fr b u (not_own_data (vs := [x]) (ds := [.frl xs])) (by rw [upd_ne ne]; exact hb)
  · have ne : b ≠ p := fun z => hb (by rw [z]; exact hp)
    exact T2.nw b (not_own_data (vs := [x]) (ds := [.frl xs])) (by rw [upd_ne ne]; exact hb) hg
  · rw [upd_same]
    rfl
theorem fn_pen {x qual : Str} {st : Stmt} {y : Str} (F : Fun W.K x qual st f fd) (S : FnScope [y] [y] (defScope st))
    (hbody : ∀ (cdv : Value) (A : Around) (outer : List PySem.Env) (s : Shared) (H : Hp) (E : XK), (Bx P w W.K mg base [y] qual st f cdv A outer s H E).A.guards = some [] → Room k (Bx P w W.K mg base [y] qual st f cdv A outer s H E).A →
      PSs (Bx P w W.K mg base [y] qual st f cdv A outer s H E) (defBody st) (tRet (tPen W.K))) : FnG P w W.K mg base (k + 1) f fd [y] (SpPen W) := by
  refine fn_g F S (fun vs H Q E h => ?_) fun cdv A outer s H vs Q E hg hr h => ?_
  · obtain ⟨_, _, _, l, _⟩ := h
    rw [l]
    rfl
  · obtain ⟨G, x, xs, hl, e, r, q⟩ := h
    subst hl
    exact ⟨_, (hbody cdv A outer s H E hg hr).nox, pen_ok e r q⟩
end
def frlOf : Sl → Option (List D)
  | .d (.frl xs) => some xs
  | _ => none
def mPen (i j : Nat) : MS := fun e => ((e[i]?).bind frlOf).bind fun xs => if freeB e j = true then some (.nx, e.set j (.od (pen0 xs))) else none
theorem ss_pen {W : Wd} {i j : Nat} : SimS W (tAsg (tG (SpPen W) (tCons (tVar i) tNil)) (gName j)) (mPen i j) := fun env P o e1 hm hr => by
  obtain ⟨xs, h1, hm⟩ := bind_of' hm
  obtain ⟨s, h2, h3⟩ := bind_of' h1
  split at hm
  · rename_i hz
    cases hm
    have hs : s = .d (.frl xs) := by
      unfold frlOf at h3
      split at h3
      · cases h3; rfl
      · cases h3
    subst hs
    intro G H σ E S n r b c
    obtain ⟨v, ev, rv⟩ := S.ok i _ h2
    refine ⟨v, ev, G, v, xs, rfl, S.gh, rv, fun p kvs G' H' g hp hp' gp' ke ra => ?_⟩
    have S1 := S.up g
    have no : ¬ own σ env p := fun z => by
      obtain ⟨_, o, ho⟩ := S.own_at z
      rw [hp] at ho
      cases ho
    exact n G' H' _ _ (S1.takeS (s := .od (pen0 xs)) ⟨p, kvs, rfl, gp', hp', ke, ra⟩ no) (Tr.takeS (freeB_of hz) (Tr.up S g) hp) hr
  · cases hm
end Nv

set_option Elab.async false
set_option linter.all false
set_option maxRecDepth 100000
set_option maxHeartbeats 4000000
/-! NvQ: == of data. -/
namespace Nv
open PySem L2 PyProof.Rows PySem.Spec
mutual
def D.deep : D → Bool
  | .lst xs => deepAll xs
  | .tup xs => deepAll xs
  | .dct _ => false
  | .ins _ _ => false
  | .ty _ => false
  | .frl _ => false
  | _ => true
def deepAll : List D → Bool
  | [] => true
  | d :: ds => d.deep && deepAll ds
end
mutual
theorem dp_of {W : Wd} {G : Hp} : ∀ (d : D) (v : V), Rp W G v d → d.deep = true → Dp W.K G v d.py
  | .non, _, r, _ => by rw [r.non_inv]; exact .non
  | .bl b, _, r, _ => by rw [r.bl_inv]; exact .bl b
  | .int i, _, r, _ => by rw [r.int_inv]; exact .int i
  | .str x, _, r, _ => by rw [r.str_inv]; exact .str x
  | .lst xs, _, r, h => by
    obtain ⟨a, vs, rfl, hs, ra⟩ := r.lst_inv
    exact .lst (.inl (.inl hs)) (dp_all xs vs ra h)
  | .tup xs, _, r, h => by
    obtain ⟨a, vs, rfl, hs, ra⟩ := r.tup_inv
    exact .tup hs (dp_all xs vs ra h)
  | .dct _, _, _, h => nomatch h
  | .ins _ _, _, _, h => nomatch h
  | .ty _, _, _, h => nomatch h
  | .frl _, _, _, h => nomatch h
theorem dp_all {W : Wd} {G : Hp} : ∀ (ds : List D) (vs : List V), RpAll W G vs ds → deepAll ds = true → DpAll W.K G vs (pyAll ds)
  | [], _, r, _ => by cases r; exact .nil
  | d :: ds, _, r, h => by
    have h : (d.deep && deepAll ds) = true := h
    rw [Bool.and_eq_true] at h
    cases r with
    | cons r1 r2 => exact .cons (dp_of d _ r1 h.1) (dp_all ds _ r2 h.2)
end
mutual
theorem dp_up {K : PySem.W.Frag} {G H : Hp} (e : Same G H) : ∀ (d : PyData) (v : V), Dp K G v d → Dp K H v d
  | .none, _, h => by cases h; exact .non
  | .bool b, _, h => by cases h; exact .bl b
  | .int i, _, h => by cases h; exact .int i
  | .str x, _, h => by cases h; exact .str x
  | .list ds, _, h => by
    cases h with
    | lst hs ha => exact .lst (Same.lst e hs) (dp_upAll e ds _ ha)
  | .tuple ds, _, h => by
    cases h with
    | tup hs ha => exact .tup (Same.tup e hs) (dp_upAll e ds _ ha)
  | .dict _, _, h => by cases h
theorem dp_upAll {K : PySem.W.Frag} {G H : Hp} (e : Same G H) : ∀ (ds : List PyData) (vs : List V), DpAll K G vs ds → DpAll K H vs ds
  | [], _, h => by cases h; exact .nil
  | d :: ds, _, h => by
    cases h with
    | cons h1 h2 => exact .cons (dp_up e d _ h1) (dp_upAll e ds _ h2)
end
def rEqX (K : PySem.W.Frag) : R2 := fun x y H Q => rEq x y H Q ∨ rEqD K x y H Q
def rNeX (K : PySem.W.Frag) : R2 := fun x y H Q => rNe x y H Q ∨ rNeD K x y H Q
theorem ka_eq {X : Cx} {K : PySem.W.Frag} (hu : X.A.units + 64 < cLine) (h : X.K = K) : OpR X (compareOp .Eq) (rEqX K) := h ▸ opr_or op_eq (op_eqD hu)
theorem ka_ne {X : Cx} {K : PySem.W.Frag} (hu : X.A.units + 64 < cLine) (h : X.K = K) : OpR X (compareOp .NotEq) (rNeX K) := h ▸ opr_or op_ne (op_neD hu)
def shp (d : D) : Bool := d.deep && SeqAt.shaped d.py
def eqX (x y : D) : Option Bool := match eqS x y with
  | some b => some b
  | none => if (shp x && shp y) = true then some (PyData.eqv x.py y.py) else none
def eqXD (x y : D) : Option D := (eqX x y).map .bl
def neXD (x y : D) : Option D := (eqX x y).map fun b => .bl (!b)
theorem opd_eqX {W : Wd} : OpD W (rEqX W.K) eqXD := by
  intro G H x y dx dy dz e rx ry ho Q q
  unfold eqXD at ho
  cases h : eqX dx dy with
  | none => rw [h] at ho; cases ho
  | some b =>
    rw [h] at ho
    cases ho
    unfold eqX at h
    cases h2 : eqS dx dy with
    | some c =>
      rw [h2] at h
      cases h
      exact .inl (opd_eq G H x y dx dy (.bl b) e rx ry (by unfold eqD; rw [h2]; rfl) Q q)
    | none =>
      rw [h2] at h
      have h : (if (shp dx && shp dy) = true then some (PyData.eqv dx.py dy.py) else none) = some b := h
      split at h
      · rename_i hz
        cases h
        unfold shp at hz
        simp only [Bool.and_eq_true] at hz
        exact .inr ⟨_, _, dp_up e _ _ (dp_of dx x rx hz.1.1), dp_up e _ _ (dp_of dy y ry hz.2.1), hz.1.2, hz.2.2, q _ G H (Gr.refl e) (.bl _)⟩
      · cases h
theorem opd_neX {W : Wd} : OpD W (rNeX W.K) neXD := by
  intro G H x y dx dy dz e rx ry ho Q q
  unfold neXD at ho
  cases h : eqX dx dy with
  | none => rw [h] at ho; cases ho
  | some b =>
    rw [h] at ho
    cases ho
    unfold eqX at h
    cases h2 : eqS dx dy with
    | some c =>
      rw [h2] at h
      cases h
      exact .inl (opd_ne G H x y dx dy (.bl (!b)) e rx ry (by unfold neD; rw [h2]; rfl) Q q)
    | none =>
      rw [h2] at h
      have h : (if (shp dx && shp dy) = true then some (PyData.eqv dx.py dy.py) else none) = some b := h
      split at h
      · rename_i hz
        cases h
        unfold shp at hz
        simp only [Bool.and_eq_true] at hz
        exact .inr ⟨_, _, dp_up e _ _ (dp_of dx x rx hz.1.1), dp_up e _ _ (dp_of dy y ry hz.2.1), hz.1.2, hz.2.2, q _ G H (Gr.refl e) (.bl _)⟩
      · cases h
/-! ### what no def is promised at the depth 0 -/
theorem fn_none {P : Program} {w : World} {W : Wd} {mg : Str → Option Value} {base : Heap} {f : Addr} {fd : FuncData} {ps : List Str} {n : Nat} (hn : ps.length = n) : FnG P w W.K mg base 0 f fd ps (SpD W n (PhiF fun _ => none)) := by
  subst hn
  refine ⟨fun vs H Q E h => ?_, fun A outer s H args us vs Q E hg hr he hb hv hs => ?_⟩
  · obtain ⟨_, _, _, l, _⟩ := h
    exact l
  · obtain ⟨_, _, _, _, _, _, ⟨_, _, z, _⟩, _⟩ := hs
    cases z
end Nv
namespace Nv
open PySem L2 PyProof.Rows PySem.Spec
def ltD : D → D → Option D := intD fun i j => some (.bl (decide (i < j)))
def leD : D → D → Option D := intD fun i j => some (.bl (decide (i ≤ j)))
def gtD : D → D → Option D := intD fun i j => some (.bl (decide (j < i)))
def geD : D → D → Option D := intD fun i j => some (.bl (decide (j ≤ i)))
def iaddD : D → D → Option D := intD fun i j => some (.int (i + j))
def mYes : M Bool := fun e => some (true, e)
/-! ### a dict display, as data -/
def mergeD (kvs more : List (Key × D)) : List (Key × D) := more.foldl (fun acc kv => putD acc kv.1 kv.2) kvs
def mPNil : M (List (Key × D)) := fun e => some ([], e)
def mPCons (k : Key) (a : M D) (r : M (List (Key × D))) : M (List (Key × D)) := fun e => (a e).bind fun p => (r p.2).bind fun q => some ((k, p.1) :: q.1, q.2)
def mDisp (r : M (List (Key × D))) : M D := fun e => (r e).bind fun p => if p.1.length ≤ 15 then some (.dct (mergeD [] p.1), p.2) else none
section
variable {W : Wd} {env : List Sl}
def KvR (W : Wd) (G : Hp) (kvs : List (Key × V)) (kds : List (Key × D)) : Prop := kvs.map (·.1) = kds.map (·.1) ∧ RpAll W G (kvs.map (·.2)) (kds.map (·.2))
theorem KvR.merge {G : Hp} : ∀ {more : List (Key × V)} {mds : List (Key × D)} {kvs : List (Key × V)} {kds : List (Key × D)}, KvR W G more mds → KvR W G kvs kds → KvR W G (mergeK kvs more) (mergeD kds mds)
  | [], [], _, _, _, h => h
  | [], _ :: _, _, _, h, _ => by cases h.1
  | _ :: _, [], _, _, h, _ => by cases h.1
  | (a, v) :: more, (b, x) :: mds, kvs, kds, h, k => by
    have e1 : a = b := (List.cons.inj h.1).1
    subst e1
    obtain ⟨h1, h2⟩ := h
    cases h2 with
    | cons r0 r1 => exact KvR.merge (more := more) (mds := mds) ⟨(List.cons.inj h1).2, r1⟩ (put_of (k := a) r0 k.1 k.2)
def EvP (W : Wd) (trs : List (TE × TE)) (env : List Sl) (R : List (Key × D) → List Sl → Prop) : Prop :=
  ∀ (G H : Hp) (σ : L2.St), St W G H σ env → ∀ Q : List (V × V) → Hp → Prop, (∀ kvs kds G' H' env', St W G' H' σ env' → Tr σ env G H σ env' G' H' → KvR W G' kvs kds → R kds env' → Q (kvs.map fun kv => (kV kv.1, kv.2)) H') → tPairs trs σ H Q
def SimP (W : Wd) (trs : List (TE × TE)) (m : M (List (Key × D))) : Prop := ∀ env R ds e1, m env = some (ds, e1) → R ds e1 → EvP W trs env R
theorem sp_nil : SimP W [] mPNil := fun env R x e1 hm hr => by
  cases hm
  exact fun G H σ S Q q => q [] [] G H env S (Tr.refl S) ⟨rfl, .nil⟩ hr
theorem sp_key {k : Key} {tv : TE} {mv : M D} {trs : List (TE × TE)} {mr : M (List (Key × D))} (ha : SimE W tv mv) (h : SimP W trs mr) : SimP W ((tC (kV k), tv) :: trs) (mPCons k mv mr) := fun env R d e1 hm hr => by
  obtain ⟨x, e2, h1, hm⟩ := bind_of hm
  obtain ⟨y, e3, h2, hm⟩ := bind_of hm
  cases hm
  intro G H σ S Q q
  refine tPairs_c ?_
  refine ha _ (fun d e => d = x ∧ e = e2) _ _ h1 ⟨rfl, rfl⟩ G H σ S _ fun v d G1 H1 e4 S1 T1 r1 ⟨z1, z2⟩ => ?_
  subst z1 z2
  refine h _ (fun kds e => kds = y ∧ e = e3) _ _ h2 ⟨rfl, rfl⟩ G1 H1 σ S1 _ fun kvs kds G2 H2 e5 S2 T2 r2 ⟨z3, z4⟩ => ?_
  subst z3 z4
  exact q ((k, v) :: kvs) ((k, d) :: kds) G2 H2 _ S2 (T1.trans' T2) ⟨by rw [List.map_cons, List.map_cons, r2.1], .cons (r1.up T2.gg) r2.2⟩ hr
theorem sp_str {x : Str} {tv : TE} {mv : M D} {trs : List (TE × TE)} {mr : M (List (Key × D))} (ha : SimE W tv mv) (h : SimP W trs mr) : SimP W ((tC (.str x), tv) :: trs) (mPCons (.inr x) mv mr) := sp_key (k := .inr x) ha h
theorem sp_int {x : Int} {tv : TE} {mv : M D} {trs : List (TE × TE)} {mr : M (List (Key × D))} (ha : SimE W tv mv) (h : SimP W trs mr) : SimP W ((tC (.int x), tv) :: trs) (mPCons (.inl x) mv mr) := sp_key (k := .inl x) ha h
theorem se_disp {trs : List (TE × TE)} {mr : M (List (Key × D))} (h : SimP W trs mr) : SimE W (tDisp trs) (mDisp mr) := fun env R d e1 hm hr => by
  obtain ⟨x, e2, h1, hm⟩ := bind_of hm
  split at hm
  · rename_i hz
    cases hm
    intro G H σ S Q q p hp
    have no : ¬ own σ env p := fun z => by
      obtain ⟨_, o, ho⟩ := S.own_at z
      rw [hp] at ho
      cases ho
    have S1 : St W G (upd H p (.dK [])) σ env := S.mut (S.gh.free hp) no
    refine h _ (fun kds e => kds = x ∧ e = e2) _ _ h1 ⟨rfl, rfl⟩ G _ σ S1 _ fun kvs kds G2 H2 e3 S2 T2 r2 ⟨z1, z2⟩ => ?_
    subst z1 z2
    have hp2 : H2 p = some (.dK []) := T2.fr p _ no upd_same
    have gp2 : G2 p = none := T2.nw p no (by rw [upd_same]; exact fun z => nomatch z) (S.gh.free hp)
    have no2 : ¬ own σ e3 p := fun z => by
      rcases T2.ow p z with y | y
      · exact no y
      · rw [upd_same] at y
        cases y
    have lk : kvs.length = kds.length := by
      have := congrArg List.length r2.1
      simpa using this
    obtain ⟨m1, m2⟩ := KvR.merge (kvs := []) (kds := []) r2 ⟨rfl, .nil⟩
    refine ⟨hp2, kvs, rfl, by rw [lk]; exact hz, ?_⟩
    have S3 : St W G2 (upd H2 p (.dK (mergeK [] kvs))) σ e3 := S2.mut gp2 no2
    have S4 := S3.freeze (p := p) (o := .dK (mergeK [] kvs)) upd_same gp2 no2
    have gg : Same G2 (upd G2 p (.dK (mergeK [] kvs))) := fun b u z => by
      rw [upd_ne (ne_of_none z gp2)]
      exact z
    have T3 : Tr σ env G H σ e3 G2 (upd H2 p (.dK (mergeK [] kvs))) := by
      have z := T2.del (A := p)
      rw [del_upd, del_off hp] at z
      have y := z.late (o := .dK (mergeK [] kvs)) hp
      have w : upd (Nv.del p H2) p (.dK (mergeK [] kvs)) = upd H2 p (.dK (mergeK [] kvs)) := by
        funext b
        by_cases hb : b = p
        · subst hb
          rw [upd_same, upd_same]
        · rw [upd_ne hb, upd_ne hb, del_ne hb]
      rw [w] at y
      exact y
    exact q _ _ _ _ e3 S4 (Tr.told S T3 hp) (.dct (.inl upd_same) m1 (m2.up gg)) hr
  · cases hm
end
end Nv
namespace Nv
open PySem L2 PyProof.Rows PySem.Spec
theorem u64 {k : Nat} {A : Around} (r : Room k A) : A.units + 64 < cLine := by have := r.un; omega
theorem u1 {k : Nat} {A : Around} (r : Room k A) : A.units + 1 < cLine := by have := r.un; omega
end Nv

set_option Elab.async false
set_option linter.all false
set_option maxRecDepth 100000
set_option maxHeartbeats 4000000
namespace Nv
open PySem L2 PyProof.Rows PySem.Spec
def top (i : Nat) : Stmt := PySem.Challenge.pw_nevermet_k18_member_expressions.main.body.getD i (.Pass ⟨0, 0, 0, 0⟩)
abbrev s_is_name : Stmt := top 7
abbrev N_is_name : List Str := ["thing", "sign"]
theorem sc_is_name : FnScope N_is_name ["thing"] (defScope s_is_name) := ⟨rfl, rfl, rfl, by decide +kernel, rfl, by decide +kernel, by decide +kernel⟩
abbrev s_is_dotted : Stmt := top 8
abbrev N_is_dotted : List Str := ["thing", "many", "names", "name"]
theorem sc_is_dotted : FnScope N_is_dotted ["thing", "many"] (defScope s_is_dotted) := ⟨rfl, rfl, rfl, by decide +kernel, rfl, by decide +kernel, by decide +kernel⟩
abbrev s_is_word : Stmt := top 9
abbrev N_is_word : List Str := ["thing"]
theorem sc_is_word : FnScope N_is_word ["thing"] (defScope s_is_word) := ⟨rfl, rfl, rfl, by decide +kernel, rfl, by decide +kernel, by decide +kernel⟩
abbrev s_is_member_word : Stmt := top 10
abbrev N_is_member_word : List Str := ["thing"]
theorem sc_is_member_word : FnScope N_is_member_word ["thing"] (defScope s_is_member_word) := ⟨rfl, rfl, rfl, by decide +kernel, rfl, by decide +kernel, by decide +kernel⟩
abbrev s_is_variable : Stmt := top 11
abbrev N_is_variable : List Str := ["thing", "sign"]
theorem sc_is_variable : FnScope N_is_variable ["thing"] (defScope s_is_variable) := ⟨rfl, rfl, rfl, by decide +kernel, rfl, by decide +kernel, by decide +kernel⟩
abbrev s_is_piece : Stmt := top 16
abbrev N_is_piece : List Str := ["thing", "members"]
theorem sc_is_piece : FnScope N_is_piece ["thing", "members"] (defScope s_is_piece) := ⟨rfl, rfl, rfl, by decide +kernel, rfl, by decide +kernel, by decide +kernel⟩
abbrev s_is_within : Stmt := top 17
abbrev N_is_within : List Str := ["thing", "members", "level", "symbols", "deep", "one", "part"]
theorem sc_is_within : FnScope N_is_within ["thing", "members"] (defScope s_is_within) := ⟨rfl, rfl, rfl, by decide +kernel, rfl, by decide +kernel, by decide +kernel⟩
abbrev s_is_expression : Stmt := top 19
abbrev N_is_expression : List Str := ["thing"]
theorem sc_is_expression : FnScope N_is_expression ["thing"] (defScope s_is_expression) := ⟨rfl, rfl, rfl, by decide +kernel, rfl, by decide +kernel, by decide +kernel⟩
abbrev s__law_pen : Stmt := top 21
abbrev N__law_pen : List Str := ["_law_script"]
theorem sc__law_pen : FnScope N__law_pen ["_law_script"] (defScope s__law_pen) := ⟨rfl, rfl, rfl, by decide +kernel, rfl, by decide +kernel, by decide +kernel⟩
abbrev s__law_draw : Stmt := top 22
abbrev N__law_draw : List Str := ["_law_pen_here", "_law_many", "_law_digit", "_law_at", "_law_cell", "_law_great", "_law_mixed"]
theorem sc__law_draw : FnScope N__law_draw ["_law_pen_here", "_law_many"] (defScope s__law_draw) := ⟨rfl, rfl, rfl, by decide +kernel, rfl, by decide +kernel, by decide +kernel⟩
abbrev s__law_is_name : Stmt := top 23
abbrev N__law_is_name : List Str := ["_law_item", "_law_sign"]
theorem sc__law_is_name : FnScope N__law_is_name ["_law_item"] (defScope s__law_is_name) := ⟨rfl, rfl, rfl, by decide +kernel, rfl, by decide +kernel, by decide +kernel⟩
abbrev s__law_is_word : Stmt := top 24
abbrev N__law_is_word : List Str := ["_law_item", "_law_parts"]
theorem sc__law_is_word : FnScope N__law_is_word ["_law_item"] (defScope s__law_is_word) := ⟨rfl, rfl, rfl, by decide +kernel, rfl, by decide +kernel, by decide +kernel⟩
abbrev s__law_is_variable : Stmt := top 25
abbrev N__law_is_variable : List Str := ["_law_item", "_law_sign"]
theorem sc__law_is_variable : FnScope N__law_is_variable ["_law_item"] (defScope s__law_is_variable) := ⟨rfl, rfl, rfl, by decide +kernel, rfl, by decide +kernel, by decide +kernel⟩
abbrev s__law_is_member_word : Stmt := top 26
abbrev N__law_is_member_word : List Str := ["_law_item", "_law_parts", "_law_part"]
theorem sc__law_is_member_word : FnScope N__law_is_member_word ["_law_item"] (defScope s__law_is_member_word) := ⟨rfl, rfl, rfl, by decide +kernel, rfl, by decide +kernel, by decide +kernel⟩
abbrev s__law_symbols : Stmt := top 27
abbrev N__law_symbols : List Str := ["_law_item", "_law_deep", "_law_is_more", "_law_total", "_law_part", "_law_many"]
theorem sc__law_symbols : FnScope N__law_symbols ["_law_item", "_law_deep", "_law_is_more"] (defScope s__law_symbols) := ⟨rfl, rfl, rfl, by decide +kernel, rfl, by decide +kernel, by decide +kernel⟩
abbrev s__law_odd : Stmt := top 28
abbrev N__law_odd : List Str := ["_law_pen_here", "_law_some"]
theorem sc__law_odd : FnScope N__law_odd ["_law_pen_here"] (defScope s__law_odd) := ⟨rfl, rfl, rfl, by decide +kernel, rfl, by decide +kernel, by decide +kernel⟩
abbrev s__law_tower : Stmt := top 29
abbrev N__law_tower : List Str := ["_law_many", "_law_found", "_law_k"]
theorem sc__law_tower : FnScope N__law_tower ["_law_many"] (defScope s__law_tower) := ⟨rfl, rfl, rfl, by decide +kernel, rfl, by decide +kernel, by decide +kernel⟩
abbrev s__law_bush : Stmt := top 30
abbrev N__law_bush : List Str := ["_law_many", "_law_deep", "_law_most", "_law_parts", "_law_left"]
theorem sc__law_bush : FnScope N__law_bush ["_law_many", "_law_deep"] (defScope s__law_bush) := ⟨rfl, rfl, rfl, by decide +kernel, rfl, by decide +kernel, by decide +kernel⟩
abbrev s__law_expression : Stmt := top 31
abbrev N__law_expression : List Str := ["_law_pen_here", "_law_deep", "_law_menu", "_law_word", "_law_k"]
theorem sc__law_expression : FnScope N__law_expression ["_law_pen_here", "_law_deep"] (defScope s__law_expression) := ⟨rfl, rfl, rfl, by decide +kernel, rfl, by decide +kernel, by decide +kernel⟩
abbrev s__law_bent : Stmt := top 32
abbrev N__law_bent : List Str := ["_law_pen_here", "_law_item", "_law_way", "_law_odd_here", "_law_at"]
theorem sc__law_bent : FnScope N__law_bent ["_law_pen_here", "_law_item"] (defScope s__law_bent) := ⟨rfl, rfl, rfl, by decide +kernel, rfl, by decide +kernel, by decide +kernel⟩
abbrev s__law_right : Stmt := top 33
abbrev N__law_right : List Str := ["_law_item", "_law_shown", "_law_due", "_law_told"]
theorem sc__law_right : FnScope N__law_right ["_law_item"] (defScope s__law_right) := ⟨rfl, rfl, rfl, by decide +kernel, rfl, by decide +kernel, by decide +kernel⟩
abbrev s_law : Stmt := top 34
abbrev N_law : List Str := ["_law_script", "_law_pen_here", "_law_turn", "_law_item", "_law_many", "_law_told"]
theorem sc_law : FnScope N_law ["_law_script"] (defScope s_law) := ⟨rfl, rfl, rfl, by decide +kernel, rfl, by decide +kernel, by decide +kernel⟩
/-! mirrors -/
def m_is_name (c : Nat → Fm) : MS := (mSeq (mIf (mOr (mNot (mTru (mIs isStrD (mVar 0)))) (mNot (mBl (mChain leD leD (mC (.int 1)) (mCb lenD (mCons (mVar 0) mNil)) (mC (.int 8)))))) (mRet (mC (.bl false))) mNext)
    (mRet (mAndV (mOp (inD true) (mVar 0) (mC (.tup [(.str "self"), (.str "head")]))) (mAll (mCons (mLst (mLc (mIStr (mVar 0)) mYes (mOp (inD false) (mVar 1) (mC (.str "abcdefghijklmnopqrstuvwxyz"))) 1)) mNil)))))
def m_is_dotted (c : Nat → Fm) : MS := (mSeq (mIf (mNot (mTru (mIs isStrD (mVar 0)))) (mRet (mC (.bl false))) mNext)
    (mSeq (mSet 2 (mM1 splitD (mVar 0) (mC (.str "."))))
    (mRet (mAndV (mOp eqXD (mCb lenD (mCons (mVar 2) mNil)) (mVar 1)) (mAll (mCons (mLst (mLc (mIList (mVar 2)) mYes (mCall 1 (c 0) (mCons (mVar 3) mNil)) 3)) mNil))))))
def m_is_word (c : Nat → Fm) : MS := (mRet (mCall 2 (c 1) (mCons (mVar 0) (mCons (mC (.int 2)) mNil))))
def m_is_member_word (c : Nat → Fm) : MS := (mRet (mCall 2 (c 1) (mCons (mVar 0) (mCons (mC (.int 3)) mNil))))
def m_is_variable (c : Nat → Fm) : MS := (mSeq (mIf (mOr (mNot (mTru (mIs isStrD (mVar 0)))) (mNot (mBl (mChain leD leD (mC (.int 1)) (mCb lenD (mCons (mVar 0) mNil)) (mC (.int 4)))))) (mRet (mC (.bl false))) mNext)
    (mRet (mAndV (mOp (inD false) (mOp ixD (mVar 0) (mC (.int 0))) (mC (.str "ABCDEFGHIJKLMNOPQRSTUVWXYZ"))) (mAll (mCons (mLst (mLc (mIStr (mSl (mVar 0) (mOSome (mC (.int 1))) mONone)) mYes (mOp (inD false) (mVar 1) (mC (.str "0123456789"))) 1)) mNil)))))
def m_is_piece (c : Nat → Fm) : MS := (mSeq (mIf (mTru (mCall 1 (c 4) (mCons (mVar 0) mNil))) (mRet (mC (.bl true))) mNext)
    (mSeq (mIf (mOr (mNot (mTru (mIs isTupD (mVar 0)))) (mNot (mBl (mChain leD leD (mC (.int 1)) (mCb lenD (mCons (mVar 0) mNil)) (mOp addD (mC (.int 1)) (mC (.int 3))))))) (mRet (mC (.bl false))) mNext)
    (mRet (mOrV (mCall 1 (c 2) (mCons (mOp ixD (mVar 0) (mC (.int 0))) mNil)) (mAndV (mVar 1) (mAndV (mOp gtD (mCb lenD (mCons (mVar 0) mNil)) (mC (.int 1))) (mCall 1 (c 3) (mCons (mOp ixD (mVar 0) (mC (.int 0))) mNil))))))))
def m_is_within (c : Nat → Fm) : MS := (mSeq (mSet 2 (mLst (mSz (mCons (mVar 0) mNil))))
    (mSeq (mSet 3 (mC (.int 0)))
    (mSeq (mSet 4 (mC (.int 0)))
    (mSeq (mWhile 1000 (mTru (mVar 2)) (mSeq (mAug 3 iaddD (mCb lenD (mCons (mVar 2) mNil)))
    (mSeq (mAug 4 iaddD (mC (.int 1)))
    (mSeq (mIf (mOr (mBl (mOp gtD (mVar 3) (mC (.int 40)))) (mOr (mBl (mOp gtD (mVar 4) (mC (.int 6)))) (mNot (mTru (mAll (mCons (mLst (mLc (mIList (mVar 2)) mYes (mCall 2 (c 5) (mCons (mVar 5) (mCons (mVar 1) mNil))) 5)) mNil)))))) (mRet (mC (.bl false))) mNext)
    (mSet 2 (mLst (mLc2 (mIList (mVar 2)) (mTru (mIs isTupD (mVar 5))) (mITup (mSl (mVar 5) (mOSome (mC (.int 1))) mONone)) mYes (mVar 6) 5 6)))))))
    (mRet (mC (.bl true)))))))
def m_is_expression (c : Nat → Fm) : MS := (mRet (mCall 2 (c 6) (mCons (mVar 0) (mCons (mC (.bl true)) mNil))))
def m__law_draw (c : Nat → Fm) : MS := (mSeq (mIf (mBl (mOp gtD (mDGet 0 (mC (.str "left"))) (mC (.int 0)))) (mSeq (mSet 2 (mOp (intD fun i j => if 0 < j then some (.int (i % j)) else none) (mCb intOfD (mCons (mDGet 0 (mC (.str "left"))) mNil)) (mVar 1)))
    (mSeq (mDPut 0 (.inr "left") (mOp (intD fun i j => if CDiv i j then some (.int (i / j)) else none) (mCb intOfD (mCons (mDGet 0 (mC (.str "left"))) mNil)) (mVar 1)))
    (mRet (mVar 2)))) mNext)
    (mSeq (mSet 3 (mDGet 0 (mC (.str "at"))))
    (mSeq (mDPut 0 (.inr "at") (mOp addD (mVar 3) (mC (.int 1))))
    (mSeq (mSet 4 (mOp addD (mOp (intD fun i j => if CMul i j then some (.int (i * j)) else none) (mC (.int 7411)) (mVar 3)) (mC (.int 389))))
    (mSeq (mIf (mBl (mOp neXD (mDGet 0 (mC (.str "cells"))) (mLst (mSz mNil)))) (mSet 4 (mOp ixD (mDGet 0 (mC (.str "cells"))) (mOp (intD fun i j => if 0 < j then some (.int (i % j)) else none) (mCb intOfD (mCons (mVar 3) mNil)) (mCb lenD (mCons (mDGet 0 (mC (.str "cells"))) mNil))))) mNext)
    (mSeq (mIf (mAnd (mBl (mOp ltD (mVar 3) (mCb lenD (mCons (mDGet 0 (mC (.str "cells"))) mNil)))) (mBl (mOp geD (mCb absD (mCons (mVar 4) mNil)) (mOp (intD fun i j => if CPow i j then some (.int (i ^ j.toNat)) else none) (mC (.int 10)) (mC (.int 18)))))) (mSeq (mSet 5 (mOp addD (mOp (intD fun i j => if CMul i j then some (.int (i * j)) else none) (mC (.int 2)) (mCb absD (mCons (mVar 4) mNil))) (mCb intOfD (mCons (mOp ltD (mVar 4) (mC (.int 0))) mNil))))
    (mSeq (mDPut 0 (.inr "left") (mOp (intD fun i j => if CDiv i j then some (.int (i / j)) else none) (mCb intOfD (mCons (mVar 5) mNil)) (mVar 1)))
    (mRet (mOp (intD fun i j => if 0 < j then some (.int (i % j)) else none) (mCb intOfD (mCons (mVar 5) mNil)) (mVar 1))))) mNext)
    (mSeq (mSet 6 (mOp (intD fun i j => if 0 < j then some (.int (i % j)) else none) (mCb intOfD (mCons (mOp (intD fun i j => if CPow i j then some (.int (i ^ j.toNat)) else none) (mOp addD (mOp addD (mOp (intD fun i j => if 0 < j then some (.int (i % j)) else none) (mCb intOfD (mCons (mVar 4) mNil)) (mC (.int 2147483563))) (mOp (intD fun i j => if CMul i j then some (.int (i * j)) else none) (mC (.int 52361)) (mVar 3))) (mC (.int 41))) (mC (.int 3))) mNil)) (mC (.int 2147483647))))
    (mSeq (mSet 6 (mOp (intD fun i j => if 0 < j then some (.int (i % j)) else none) (mCb intOfD (mCons (mOp (intD fun i j => if CPow i j then some (.int (i ^ j.toNat)) else none) (mOp addD (mOp addD (mOp (intD fun i j => if CMul i j then some (.int (i * j)) else none) (mVar 6) (mOp addD (mOp (intD fun i j => if CMul i j then some (.int (i * j)) else none) (mC (.int 2)) (mVar 3)) (mC (.int 9)))) (mOp (intD fun i j => if CMul i j then some (.int (i * j)) else none) (mOp (intD fun i j => if CMul i j then some (.int (i * j)) else none) (mC (.int 70001)) (mVar 3)) (mVar 3))) (mC (.int 17))) (mC (.int 3))) mNil)) (mC (.int 2147483587))))
    (mRet (mOp (intD fun i j => if 0 < j then some (.int (i % j)) else none) (mCb intOfD (mCons (mOp (intD fun i j => if CDiv i j then some (.int (i / j)) else none) (mVar 6) (mC (.int 32))) mNil)) (mVar 1)))))))))))
def m__law_is_name (c : Nat → Fm) : MS := (mSeq (mIf (mOr (mNot (mTru (mIs isStrD (mVar 0)))) (mOr (mNot (mBl (mChain ltD ltD (mC (.int 0)) (mCb lenD (mCons (mVar 0) mNil)) (mC (.int 9))))) (mBl (mOp (inD false) (mVar 0) (mTup (mCons (mC (.str "self")) (mCons (mC (.str "head")) mNil))))))) (mRet (mC (.bl false))) mNext)
    (mRet (mOp eqXD (mLst (mLc (mIStr (mVar 0)) (mBl (mOp (inD true) (mVar 1) (mC (.str "abcdefghijklmnopqrstuvwxyz")))) (mVar 1) 1)) (mLst (mSz mNil)))))
def m__law_is_word (c : Nat → Fm) : MS := (mSeq (mIf (mNot (mTru (mIs isStrD (mVar 0)))) (mRet (mC (.bl false))) mNext)
    (mSeq (mSet 1 (mM1 splitD (mVar 0) (mC (.str "."))))
    (mRet (mAndV (mOp eqXD (mCb lenD (mCons (mVar 1) mNil)) (mC (.int 2))) (mAndV (mCall 1 (c 9) (mCons (mOp ixD (mVar 1) (mC (.int 0))) mNil)) (mCall 1 (c 9) (mCons (mOp ixD (mVar 1) (mC (.int 1))) mNil)))))))
def m__law_is_variable (c : Nat → Fm) : MS := (mSeq (mIf (mOr (mNot (mTru (mIs isStrD (mVar 0)))) (mOr (mNot (mBl (mChain ltD ltD (mC (.int 0)) (mCb lenD (mCons (mVar 0) mNil)) (mC (.int 5))))) (mBl (mOp (inD true) (mOp ixD (mVar 0) (mC (.int 0))) (mC (.str "ABCDEFGHIJKLMNOPQRSTUVWXYZ")))))) (mRet (mC (.bl false))) mNext)
    (mRet (mOp eqXD (mLst (mLc (mIStr (mSl (mVar 0) (mOSome (mC (.int 1))) mONone)) (mBl (mOp (inD true) (mVar 1) (mC (.str "0123456789")))) (mVar 1) 1)) (mLst (mSz mNil)))))
def m__law_is_member_word (c : Nat → Fm) : MS := (mSeq (mIf (mNot (mTru (mIs isStrD (mVar 0)))) (mRet (mC (.bl false))) mNext)
    (mSeq (mSet 1 (mM1 splitD (mVar 0) (mC (.str "."))))
    (mRet (mAndV (mOp eqXD (mCb lenD (mCons (mVar 1) mNil)) (mC (.int 3))) (mOp eqXD (mLst (mLc (mIList (mVar 1)) (mNot (mTru (mCall 1 (c 9) (mCons (mVar 2) mNil)))) (mVar 2) 2)) (mLst (mSz mNil)))))))
def m__law_symbols (c : Nat → Fm) : MS := (mSeq (mIf (mBl (mOp eqXD (mVar 1) (mC (.int 0)))) (mRet (mC (.int 0))) mNext)
    (mSeq (mIf (mTru (mCall 1 (c 11) (mCons (mVar 0) mNil))) (mRet (mC (.int 1))) mNext)
    (mSeq (mIf (mOr (mNot (mTru (mIs isTupD (mVar 0)))) (mNot (mBl (mChain ltD ltD (mC (.int 0)) (mCb lenD (mCons (mVar 0) mNil)) (mC (.int 5)))))) (mRet (mC (.int 0))) mNext)
    (mSeq (mIf (mAnd (mNot (mTru (mCall 1 (c 10) (mCons (mOp ixD (mVar 0) (mC (.int 0))) mNil)))) (mNot (mAnd (mTru (mVar 2)) (mAnd (mBl (mOp gtD (mCb lenD (mCons (mVar 0) mNil)) (mC (.int 1)))) (mTru (mCall 1 (c 12) (mCons (mOp ixD (mVar 0) (mC (.int 0))) mNil))))))) (mRet (mC (.int 0))) mNext)
    (mSeq (mSet 3 (mC (.int 1)))
    (mSeq (mFor (mITup (mSl (mVar 0) (mOSome (mC (.int 1))) mONone)) 4 (mSeq (mSet 5 (mCall 3 (c 13) (mCons (mVar 4) (mCons (mOp (intD fun i j => some (.int (i - j))) (mVar 1) (mC (.int 1))) (mCons (mVar 2) mNil)))))
    (mSeq (mIf (mBl (mOp eqXD (mVar 5) (mC (.int 0)))) (mRet (mC (.int 0))) mNext)
    (mSet 3 (mOp addD (mVar 3) (mVar 5))))))
    (mRet (mVar 3))))))))
def m__law_odd (c : Nat → Fm) : MS := (mSeq (mSet 1 (mLst (mSz (mCons (mC .non) (mCons (mC (.bl true)) (mCons (mC (.int 0)) (mCons (mUn negD (mC (.int 1))) (mCons (mOp (intD fun i j => if CPow i j then some (.int (i ^ j.toNat)) else none) (mC (.int 10)) (mC (.int 40))) (mCons (mC (.str "")) (mCons (mC (.str "T")) (mCons (mC (.str "t")) (mCons (mC (.str "base.int")) (mCons (mC (.str "base")) (mCons (mTup mNil) (mCons (mTup (mCons (mC (.str "base.int")) mNil)) (mCons (mLst (mSz (mCons (mC (.str "base.int")) mNil))) (mCons (mDisp (mPCons (.inr "T") (mC (.str "U")) mPNil)) mNil)))))))))))))))))
    (mSeq (mSet 1 (mOp addD (mVar 1) (mLst (mSz (mCons (mTup (mCons (mC (.str "T")) mNil)) (mCons (mTup (mCons (mC (.str "base.int")) (mCons (mC .non) mNil))) (mCons (mTup (mCons (mC (.str "base.list")) (mCons (mLst (mSz (mCons (mC (.str "T")) mNil))) mNil))) (mCons (mTup (mCons (mC (.str "base.list")) (mCons (mTup mNil) mNil))) (mCons (mTup (mCons (mC (.str "base.pair")) (mCons (mC (.str "T")) (mCons (mC (.str "U1234")) mNil)))) mNil)))))))))
    (mSeq (mSet 1 (mOp addD (mVar 1) (mLst (mSz (mCons (mTup (mCons (mC (.str "base.show")) (mCons (mC (.str "T")) (mCons (mC (.str "T")) (mCons (mC (.str "T")) (mCons (mC (.str "T")) mNil)))))) (mCons (mTup (mCons (mC (.str "base.show")) mNil)) (mCons (mTup (mCons (mC (.str "self.show")) (mCons (mC (.str "T")) mNil))) (mCons (mTup (mCons (mC (.str "base.head")) (mCons (mC (.str "T")) mNil))) (mCons (mC (.str "TT")) mNil)))))))))
    (mSeq (mSet 1 (mOp addD (mVar 1) (mLst (mSz (mCons (mTup (mCons (mC (.str "base.show")) (mCons (mTup (mCons (mC (.str "base.list")) (mCons (mC (.str "t")) mNil))) mNil))) (mCons (mTup (mCons (mC (.str "base.show")) (mCons (mC (.str "T\n")) mNil))) (mCons (mTup (mCons (mC (.str "Base.show")) (mCons (mC (.str "T")) mNil))) (mCons (mTup (mCons (mC (.str "base.show")) (mCons (mC (.str "T ")) mNil))) mNil))))))))
    (mSeq (mSet 1 (mOp addD (mVar 1) (mLst (mSz (mCons (mTup (mCons (mTup (mCons (mC (.str "base.show")) mNil)) (mCons (mC (.str "T")) mNil))) (mCons (mTup (mCons (mC (.str "base.showshows")) (mCons (mC (.str "T")) mNil))) (mCons (mLst (mSz (mCons (mTup (mCons (mC (.str "base.show")) (mCons (mC (.str "T")) mNil))) mNil))) (mCons (mTup (mCons (mC (.str "base show")) (mCons (mC (.str "T")) mNil))) mNil))))))))
    (mSeq (mSet 1 (mOp addD (mVar 1) (mLst (mSz (mCons (mTup (mCons (mC (.str "base.show")) (mCons (mC (.int 1)) mNil))) (mCons (mTup (mCons (mC (.str "a.b.c")) (mCons (mC (.str "T")) mNil))) mNil))))))
    (mRet (mOp ixD (mVar 1) (mCallP 2 0 (c 8) (mCons (mC (.int 34)) mNil))))))))))
def m__law_tower (c : Nat → Fm) : MS := (mSeq (mSet 1 (mTup (mCons (mC (.str "base.int")) mNil)))
    (mSeq (mFor (mIRng (mCons (mOp (intD fun i j => some (.int (i - j))) (mVar 0) (mC (.int 1))) mNil)) 2 (mSet 1 (mTup (mCons (mC (.str "base.list")) (mCons (mVar 1) mNil)))))
    (mRet (mVar 1))))
def m__law_bush (c : Nat → Fm) : MS := (mSeq (mSet 2 (mOp ixD (mLst (mSz (mCons (mC (.int 0)) (mCons (mC (.int 0)) (mCons (mC (.int 1)) (mCons (mC (.int 4)) (mCons (mC (.int 13)) (mCons (mC (.int 40)) mNil)))))))) (mVar 1)))
    (mSeq (mOwn 3 (mSz mNil))
    (mSeq (mSet 4 (mOp (intD fun i j => some (.int (i - j))) (mVar 0) (mC (.int 1))))
    (mSeq (mWhile 1000 (mBl (mOp gtD (mVar 4) (mC (.int 0)))) (mSeq (mApp 3 (mCall 2 (c 16) (mCons (mCb min2D (mCons (mVar 2) (mCons (mVar 4) mNil))) (mCons (mOp (intD fun i j => some (.int (i - j))) (mVar 1) (mC (.int 1))) mNil))))
    (mSet 4 (mOp (intD fun i j => some (.int (i - j))) (mVar 4) (mCb min2D (mCons (mVar 2) (mCons (mVar 4) mNil)))))))
    (mRet (mOp addD (mTup (mCons (mC (.str "a.b")) mNil)) (mCb tupOfD (mCons (mVar 3) mNil))))))))
def m__law_expression (c : Nat → Fm) : MS := (mSeq (mIf (mOr (mBl (mOp eqXD (mVar 1) (mC (.int 0)))) (mBl (mOp eqXD (mCallP 2 0 (c 8) (mCons (mC (.int 4)) mNil)) (mC (.int 0))))) (mRet (mOp ixD (mLst (mSz (mCons (mC (.str "T")) (mCons (mC (.str "Z999")) (mCons (mTup (mCons (mC (.str "base.int")) mNil)) mNil))))) (mCallP 2 0 (c 8) (mCons (mC (.int 3)) mNil)))) mNext)
    (mSeq (mSet 2 (mLst (mSz (mCons (mC (.str "base.list")) (mCons (mC (.str "base.seq.item")) (mCons (mC (.str "a.b.c")) (mCons (mC (.str "zzzzzzzz.zzzzzzzz.zzzzzzzz")) (mCons (mC (.str "base.pair")) mNil))))))))
    (mSeq (mSet 3 (mOp ixD (mVar 2) (mCallP 2 0 (c 8) (mCons (mC (.int 5)) mNil))))
    (mRet (mOp addD (mTup (mCons (mVar 3) mNil)) (mCb tupOfD (mCons (mLst (mLc (mIRng (mCons (mOp addD (mC (.int 1)) (mCallP 2 0 (c 8) (mCons (mC (.int 3)) mNil))) mNil)) mYes (mCallP 2 0 (c 17) (mCons (mOp (intD fun i j => some (.int (i - j))) (mVar 1) (mC (.int 1))) mNil)) 4)) mNil)))))))
def m__law_bent (c : Nat → Fm) : MS := (mSeq (mIf (mOr (mTru (mIs isStrD (mVar 1))) (mOr (mBl (mOp eqXD (mCb lenD (mCons (mVar 1) mNil)) (mC (.int 1)))) (mBl (mOp eqXD (mCallP 2 0 (c 8) (mCons (mC (.int 3)) mNil)) (mC (.int 0)))))) (mSeq (mSet 2 (mCallP 2 0 (c 8) (mCons (mC (.int 6)) mNil)))
    (mSeq (mSet 3 (mLst (mSz (mCons (mC (.str "base.seq.item")) (mCons (mTup (mCons (mC (.str "base.seq.item")) mNil)) (mCons (mTup (mCons (mC (.str "base.seq.self")) (mCons (mC (.str "T")) mNil))) (mCons (mTup (mCons (mC (.str "base..item")) (mCons (mC (.str "T")) mNil))) (mCons (mTup (mCons (mC (.str "base.a.b.c")) (mCons (mC (.str "T")) mNil))) mNil))))))))
    (mRet (mOp ixD (mOp addD (mVar 3) (mLst (mSz (mCons (mCallP 1 0 (c 14) mNil) mNil)))) (mVar 2))))) mNext)
    (mSeq (mSet 4 (mOp addD (mC (.int 1)) (mCallP 2 0 (c 8) (mCons (mOp (intD fun i j => some (.int (i - j))) (mCb lenD (mCons (mVar 1) mNil)) (mC (.int 1))) mNil))))
    (mRet (mOp addD (mOp addD (mSl (mVar 1) mONone (mOSome (mVar 4))) (mTup (mCons (mCallP 2 0 (c 18) (mCons (mOp ixD (mVar 1) (mVar 4)) mNil)) mNil))) (mSl (mVar 1) (mOSome (mOp addD (mVar 4) (mC (.int 1)))) mONone)))))
def m__law_right (c : Nat → Fm) : MS := (mSeq (mSet 1 (mRepr (mCons (mVar 0) mNil)))
    (mSeq (mSet 2 (mChain ltD ltD (mC (.int 0)) (mCall 3 (c 13) (mCons (mVar 0) (mCons (mC (.int 6)) (mCons (mC (.bl true)) mNil)))) (mC (.int 41))))
    (mSeq (mSet 3 (mLst (mSz (mCons (mCall 1 (c 7) (mCons (mVar 0) mNil)) (mCons (mCallK 1 1 [0] (c 7) (mCons (mVar 0) mNil)) mNil)))))
    (mRet (mAndV (mOp eqXD (mRepr (mCons (mVar 3) mNil)) (mRepr (mCons (mLst (mSz (mCons (mVar 2) (mCons (mVar 2) mNil)))) mNil))) (mOp eqXD (mRepr (mCons (mVar 0) mNil)) (mVar 1)))))))
def m_law (c : Nat → Fm) : MS := (mSeq (mPen 0 1)
    (mSeq (mFor (mIRng (mCons (mC (.int 8)) mNil)) 2 (mSeq (mSet 3 (mCallP 2 1 (c 17) (mCons (mOp addD (mC (.int 1)) (mCallP 2 1 (c 8) (mCons (mC (.int 5)) mNil))) mNil)))
    (mSeq (mIf (mOr (mNot (mTru (mCall 1 (c 19) (mCons (mVar 3) mNil)))) (mOr (mNot (mTru (mCall 1 (c 19) (mCons (mCallP 2 1 (c 18) (mCons (mVar 3) mNil)) mNil)))) (mNot (mTru (mCall 1 (c 19) (mCons (mCallP 1 1 (c 14) mNil) mNil)))))) (mRet (mC (.bl false))) mNext)
    (mIf (mOr (mNot (mTru (mCall 1 (c 19) (mCons (mTup (mCons (mC (.str "base.seq.item")) (mCons (mVar 3) mNil))) mNil)))) (mOr (mNot (mTru (mCall 1 (c 19) (mCons (mTup (mCons (mVar 3) mNil)) mNil)))) (mNot (mTru (mCall 1 (c 19) (mCons (mLst (mSz (mCons (mVar 3) mNil))) mNil)))))) (mRet (mC (.bl false))) mNext))))
    (mSeq (mFor (mITup (mTup (mCons (mC (.int 1)) (mCons (mC (.int 39)) (mCons (mC (.int 40)) (mCons (mC (.int 41)) mNil)))))) 4 (mSeq (mSet 3 (mCall 2 (c 16) (mCons (mVar 4) (mCons (mC (.int 5)) mNil))))
    (mSeq (mSet 5 (mLst (mSz (mCons (mCall 1 (c 7) (mCons (mVar 3) mNil)) (mCons (mCall 1 (c 7) (mCons (mTup (mCons (mC (.str "a.b.c")) (mCons (mVar 3) mNil))) mNil)) mNil)))))
    (mIf (mBl (mOp neXD (mRepr (mCons (mVar 5) mNil)) (mRepr (mCons (mLst (mSz (mCons (mOp ltD (mVar 4) (mC (.int 41))) (mCons (mOp ltD (mVar 4) (mC (.int 40))) mNil)))) mNil)))) (mRet (mC (.bl false))) mNext))))
    (mSeq (mFor (mITup (mTup (mCons (mC (.int 5)) (mCons (mC (.int 6)) (mCons (mC (.int 7)) mNil))))) 4 (mSeq (mSet 5 (mLst (mSz (mCons (mCall 1 (c 7) (mCons (mCall 1 (c 15) (mCons (mVar 4) mNil)) mNil)) (mCons (mCall 1 (c 7) (mCons (mTup (mCons (mC (.str "a.b.c")) (mCons (mCall 1 (c 15) (mCons (mVar 4) mNil)) mNil))) mNil)) mNil)))))
    (mIf (mBl (mOp neXD (mRepr (mCons (mVar 5) mNil)) (mRepr (mCons (mLst (mSz (mCons (mOp ltD (mVar 4) (mC (.int 7))) (mCons (mOp ltD (mVar 4) (mC (.int 6))) mNil)))) mNil)))) (mRet (mC (.bl false))) mNext)))
    (mRet (mAndV (mOp isD (mCall 1 (c 7) (mCons (mC (.str "T")) mNil)) (mC (.bl true))) (mAndV (mOp isD (mCall 1 (c 7) (mCons (mTup (mCons (mC (.str "a.b.c")) mNil)) mNil)) (mC (.bl false))) (mOp isD (mCall 1 (c 7) (mCons (mTup (mCons (mC (.str "a.b")) mNil)) mNil)) (mC (.bl true))))))))))
def bd (c : Nat → Fm) : Nat → Fm
  | 0 => defM 1 2 (m_is_name c)
  | 1 => defM 2 4 (m_is_dotted c)
  | 2 => defM 1 1 (m_is_word c)
  | 3 => defM 1 1 (m_is_member_word c)
  | 4 => defM 1 2 (m_is_variable c)
  | 5 => defM 2 2 (m_is_piece c)
  | 6 => defM 2 7 (m_is_within c)
  | 7 => defM 1 1 (m_is_expression c)
  | 8 => defM 2 7 (m__law_draw c)
  | 9 => defM 1 2 (m__law_is_name c)
  | 10 => defM 1 2 (m__law_is_word c)
  | 11 => defM 1 2 (m__law_is_variable c)
  | 12 => defM 1 3 (m__law_is_member_word c)
  | 13 => defM 3 6 (m__law_symbols c)
  | 14 => defM 1 2 (m__law_odd c)
  | 15 => defM 1 3 (m__law_tower c)
  | 16 => defM 2 5 (m__law_bush c)
  | 17 => defM 2 5 (m__law_expression c)
  | 18 => defM 2 5 (m__law_bent c)
  | 19 => defM 1 4 (m__law_right c)
  | _ => fun _ => none
def cs : Nat → Nat → Fm
  | 0 => fun _ _ => none
  | k + 1 => bd (cs k)
structure Tx (W : Wd) (mg : Str → Option Value) where
  is_name : DefAt W.K mg "is_name" s_is_name ["thing"]
  is_dotted : DefAt W.K mg "is_dotted" s_is_dotted ["thing", "many"]
  is_word : DefAt W.K mg "is_word" s_is_word ["thing"]
  is_member_word : DefAt W.K mg "is_member_word" s_is_member_word ["thing"]
  is_variable : DefAt W.K mg "is_variable" s_is_variable ["thing"]
  is_piece : DefAt W.K mg "is_piece" s_is_piece ["thing", "members"]
  is_within : DefAt W.K mg "is_within" s_is_within ["thing", "members"]
  is_expression : DefAt W.K mg "is_expression" s_is_expression ["thing"]
  _law_pen : DefAt W.K mg "_law_pen" s__law_pen ["_law_script"]
  _law_draw : DefAt W.K mg "_law_draw" s__law_draw ["_law_pen_here", "_law_many"]
  _law_is_name : DefAt W.K mg "_law_is_name" s__law_is_name ["_law_item"]
  _law_is_word : DefAt W.K mg "_law_is_word" s__law_is_word ["_law_item"]
  _law_is_variable : DefAt W.K mg "_law_is_variable" s__law_is_variable ["_law_item"]
  _law_is_member_word : DefAt W.K mg "_law_is_member_word" s__law_is_member_word ["_law_item"]
  _law_symbols : DefAt W.K mg "_law_symbols" s__law_symbols ["_law_item", "_law_deep", "_law_is_more"]
  _law_odd : DefAt W.K mg "_law_odd" s__law_odd ["_law_pen_here"]
  _law_tower : DefAt W.K mg "_law_tower" s__law_tower ["_law_many"]
  _law_bush : DefAt W.K mg "_law_bush" s__law_bush ["_law_many", "_law_deep"]
  _law_expression : DefAt W.K mg "_law_expression" s__law_expression ["_law_pen_here", "_law_deep"]
  _law_bent : DefAt W.K mg "_law_bent" s__law_bent ["_law_pen_here", "_law_item"]
  _law_right : DefAt W.K mg "_law_right" s__law_right ["_law_item"]
  law : DefAt W.K mg "law" s_law ["_law_script"]
  k_is_expression_thing : KwB W.K is_expression.fd ["thing"] ["thing"] [0]
  m_range : mg "range" = none
  m_repr : mg "repr" = none
  m_all : mg "all" = none
  m_isinstance : mg "isinstance" = none
  m_str : mg "str" = none
  m_len : mg "len" = none
  m_list : mg "list" = none
  m_int : mg "int" = none
  m_tuple : mg "tuple" = none
  m_abs : mg "abs" = none
  m_min : mg "min" = none
  c_LONGEST_NAME : Const mg "LONGEST_NAME" (.int 8)
  c_LONGEST_VARIABLE : Const mg "LONGEST_VARIABLE" (.int 4)
  c_SMALL : Const mg "SMALL" (.str "abcdefghijklmnopqrstuvwxyz")
  c_LARGE : Const mg "LARGE" (.str "ABCDEFGHIJKLMNOPQRSTUVWXYZ")
  c_DIGITS : Const mg "DIGITS" (.str "0123456789")
  t_TAKEN : Addr
  c_TAKEN : Const mg "TAKEN" (.ref t_TAKEN)
  x_TAKEN : ∀ G, Rp W G (.ref t_TAKEN) (.tup [(.str "self"), (.str "head")])
  c_MOST_SYMBOLS : Const mg "MOST_SYMBOLS" (.int 40)
  c_MOST_DEEP : Const mg "MOST_DEEP" (.int 6)
  c_MOST_PARTS : Const mg "MOST_PARTS" (.int 3)
variable {P : Program} {w : World} {base : Heap} {W : Wd} {mg : Str → Option Value}
structure All (P : Program) (w : World) (base : Heap) {W : Wd} {mg : Str → Option Value} (T : Tx W mg) (k : Nat) : Prop where
  is_name : FnG P w W.K mg base k T.is_name.f T.is_name.fd ["thing"] (SpD W 1 (PhiF (cs k 0)))
  is_dotted : FnG P w W.K mg base k T.is_dotted.f T.is_dotted.fd ["thing", "many"] (SpD W 2 (PhiF (cs k 1)))
  is_word : FnG P w W.K mg base k T.is_word.f T.is_word.fd ["thing"] (SpD W 1 (PhiF (cs k 2)))
  is_member_word : FnG P w W.K mg base k T.is_member_word.f T.is_member_word.fd ["thing"] (SpD W 1 (PhiF (cs k 3)))
  is_variable : FnG P w W.K mg base k T.is_variable.f T.is_variable.fd ["thing"] (SpD W 1 (PhiF (cs k 4)))
  is_piece : FnG P w W.K mg base k T.is_piece.f T.is_piece.fd ["thing", "members"] (SpD W 2 (PhiF (cs k 5)))
  is_within : FnG P w W.K mg base k T.is_within.f T.is_within.fd ["thing", "members"] (SpD W 2 (PhiF (cs k 6)))
  is_expression : FnG P w W.K mg base k T.is_expression.f T.is_expression.fd ["thing"] (SpD W 1 (PhiF (cs k 7)))
  _law_draw : FnG P w W.K mg base k T._law_draw.f T._law_draw.fd ["_law_pen_here", "_law_many"] (SpD W 2 (PhiF (cs k 8)))
  _law_is_name : FnG P w W.K mg base k T._law_is_name.f T._law_is_name.fd ["_law_item"] (SpD W 1 (PhiF (cs k 9)))
  _law_is_word : FnG P w W.K mg base k T._law_is_word.f T._law_is_word.fd ["_law_item"] (SpD W 1 (PhiF (cs k 10)))
  _law_is_variable : FnG P w W.K mg base k T._law_is_variable.f T._law_is_variable.fd ["_law_item"] (SpD W 1 (PhiF (cs k 11)))
  _law_is_member_word : FnG P w W.K mg base k T._law_is_member_word.f T._law_is_member_word.fd ["_law_item"] (SpD W 1 (PhiF (cs k 12)))
  _law_symbols : FnG P w W.K mg base k T._law_symbols.f T._law_symbols.fd ["_law_item", "_law_deep", "_law_is_more"] (SpD W 3 (PhiF (cs k 13)))
  _law_odd : FnG P w W.K mg base k T._law_odd.f T._law_odd.fd ["_law_pen_here"] (SpD W 1 (PhiF (cs k 14)))
  _law_tower : FnG P w W.K mg base k T._law_tower.f T._law_tower.fd ["_law_many"] (SpD W 1 (PhiF (cs k 15)))
  _law_bush : FnG P w W.K mg base k T._law_bush.f T._law_bush.fd ["_law_many", "_law_deep"] (SpD W 2 (PhiF (cs k 16)))
  _law_expression : FnG P w W.K mg base k T._law_expression.f T._law_expression.fd ["_law_pen_here", "_law_deep"] (SpD W 2 (PhiF (cs k 17)))
  _law_bent : FnG P w W.K mg base k T._law_bent.f T._law_bent.fd ["_law_pen_here", "_law_item"] (SpD W 2 (PhiF (cs k 18)))
  _law_right : FnG P w W.K mg base k T._law_right.f T._law_right.fd ["_law_item"] (SpD W 1 (PhiF (cs k 19)))
theorem ok_is_name (T : Tx W mg) {k : Nat} (I : All P w base T k) : FnG P w W.K mg base (k + 1) T.is_name.f T.is_name.fd ["thing"] (SpD W 1 (PhiF (cs (k + 1) 0))) := by
  refine fn_m (m := m_is_name (cs k)) T.is_name.fn sc_is_name rfl rfl fun cdv A outer s H E hg hr => ?_
  exact ⟨_, (pss_cons (ps_if (PW.pt (pw_or (pt_not (ka_tru (K := W.K) rfl (pe_callB (ka_isi (K := W.K) rfl) rfl T.m_isinstance (by decide +kernel) (pa_cons (pv 0) (pa_cons (pe_bltn (v := .ty "str") (u := .type "str") rfl T.m_str (by decide +kernel) rfl) pa_nil))) (by intro _; rfl))) (pw_or1 (pt_not (pt_chain op_le op_le pe_int (pe_callB (ka_len (K := W.K) rfl) rfl T.m_len (by decide +kernel) (pa_cons (pv 0) pa_nil)) (pe_const rfl T.c_LONGEST_NAME)))))) (pss_one (ps_ret pe_bl)) pss_nil)
    (pss_one (ps_ret (pe_and (pe_cmpR (ka_ni (K := W.K) rfl) (pv 0) (pe_const rfl T.c_TAKEN) rfl) (pe_one (pe_callB (ka_all (K := W.K) rfl rfl) rfl T.m_all (by decide +kernel) (pa_cons (pe_lc (own := [("sign", 1)]) rfl sc_is_name.nd (pi_str (pv 0)) (blkOk_by (own := [("sign", 1)]) (N := N_is_name) (sc := defScope s_is_name) (by decide +kernel)) (fun _ _ _ _ _ => (pg_name (i := 1) sc_is_name.nd rfl (by first | exact Or.inl rfl | exact Or.inr rfl))) (fun _ _ _ _ _ => pts_nil) (fun _ _ _ _ _ => (pe_cmpR (ka_in (K := W.K) rfl) (pv 1) (pe_const rfl T.c_SMALL) rfl))) pa_nil))))))),
    (ss_seq (ss_if (st_or (st_not (st_tru (se_is isk_str se_var))) (st_not (st_test (se_chain opd_le opd_le se_int (se_cb cd_len (sa_cons se_var sa_nil)) se_int)))) (ss_ret se_bl) ss_next)
    (ss_ret (se_andV (se_op opd_ni se_var (se_c T.x_TAKEN)) (se_all (sa_cons (se_f (sf_lc (j := 1) (si_str se_var) st_yes (se_op opd_in se_var se_str))) sa_nil)))))⟩
theorem ok_is_dotted (T : Tx W mg) {k : Nat} (I : All P w base T k) : FnG P w W.K mg base (k + 1) T.is_dotted.f T.is_dotted.fd ["thing", "many"] (SpD W 2 (PhiF (cs (k + 1) 1))) := by
  refine fn_m (m := m_is_dotted (cs k)) T.is_dotted.fn sc_is_dotted rfl rfl fun cdv A outer s H E hg hr => ?_
  exact ⟨_, (pss_cons (ps_if (pt_not (ka_tru (K := W.K) rfl (pe_callB (ka_isi (K := W.K) rfl) rfl T.m_isinstance (by decide +kernel) (pa_cons (pv 0) (pa_cons (pe_bltn (v := .ty "str") (u := .type "str") rfl T.m_str (by decide +kernel) rfl) pa_nil))) (by intro _; rfl))) (pss_one (ps_ret pe_bl)) pss_nil)
    (pss_cons (ps_set (i := 2) sc_is_dotted.nd rfl (by first | exact Or.inl rfl | exact Or.inr rfl) (pe_split (pv 0) pe_str))
    (pss_one (ps_ret (pe_and (pe_cmpR (ka_eq (K := W.K) (u64 hr) rfl) (pe_callB (ka_len (K := W.K) rfl) rfl T.m_len (by decide +kernel) (pa_cons (pv 2) pa_nil)) (pv 1) (nomark _)) (pe_one (pe_callB (ka_all (K := W.K) rfl rfl) rfl T.m_all (by decide +kernel) (pa_cons (pe_lc (own := [("name", 3)]) rfl sc_is_dotted.nd (ka_plist (K := W.K) rfl (pv 2)) (blkOk_by (own := [("name", 3)]) (N := N_is_dotted) (sc := defScope s_is_dotted) (by decide +kernel)) (fun _ _ _ _ _ => (pg_name (i := 3) sc_is_dotted.nd rfl (by first | exact Or.inl rfl | exact Or.inr rfl))) (fun _ _ _ _ _ => pts_nil) (fun _ _ _ _ _ => (pe_g I.is_name hg hr rfl T.is_name.mg T.is_name.fn.kp T.is_name.bd (pa_cons (pv 3) pa_nil)))) pa_nil)))))))),
    (ss_seq (ss_if (st_not (st_tru (se_is isk_str se_var))) (ss_ret se_bl) ss_next)
    (ss_seq (ss_set (se_m1 md_split se_var se_str))
    (ss_ret (se_andV (se_op opd_eqX (se_cb cd_len (sa_cons se_var sa_nil)) se_var) (se_all (sa_cons (se_f (sf_lc (j := 3) (si_list se_var) st_yes (se_g (sa_cons se_var sa_nil)))) sa_nil))))))⟩
theorem ok_is_word (T : Tx W mg) {k : Nat} (I : All P w base T k) : FnG P w W.K mg base (k + 1) T.is_word.f T.is_word.fd ["thing"] (SpD W 1 (PhiF (cs (k + 1) 2))) := by
  refine fn_m (m := m_is_word (cs k)) T.is_word.fn sc_is_word rfl rfl fun cdv A outer s H E hg hr => ?_
  exact ⟨_, (pss_one (ps_ret (pe_g I.is_dotted hg hr rfl T.is_dotted.mg T.is_dotted.fn.kp T.is_dotted.bd (pa_cons (pv 0) (pa_cons pe_int pa_nil))))),
    (ss_ret (se_g (sa_cons se_var (sa_cons se_int sa_nil))))⟩
theorem ok_is_member_word (T : Tx W mg) {k : Nat} (I : All P w base T k) : FnG P w W.K mg base (k + 1) T.is_member_word.f T.is_member_word.fd ["thing"] (SpD W 1 (PhiF (cs (k + 1) 3))) := by
  refine fn_m (m := m_is_member_word (cs k)) T.is_member_word.fn sc_is_member_word rfl rfl fun cdv A outer s H E hg hr => ?_
  exact ⟨_, (pss_one (ps_ret (pe_g I.is_dotted hg hr rfl T.is_dotted.mg T.is_dotted.fn.kp T.is_dotted.bd (pa_cons (pv 0) (pa_cons pe_int pa_nil))))),
    (ss_ret (se_g (sa_cons se_var (sa_cons se_int sa_nil))))⟩
theorem ok_is_variable (T : Tx W mg) {k : Nat} (I : All P w base T k) : FnG P w W.K mg base (k + 1) T.is_variable.f T.is_variable.fd ["thing"] (SpD W 1 (PhiF (cs (k + 1) 4))) := by
  refine fn_m (m := m_is_variable (cs k)) T.is_variable.fn sc_is_variable rfl rfl fun cdv A outer s H E hg hr => ?_
  exact ⟨_, (pss_cons (ps_if (PW.pt (pw_or (pt_not (ka_tru (K := W.K) rfl (pe_callB (ka_isi (K := W.K) rfl) rfl T.m_isinstance (by decide +kernel) (pa_cons (pv 0) (pa_cons (pe_bltn (v := .ty "str") (u := .type "str") rfl T.m_str (by decide +kernel) rfl) pa_nil))) (by intro _; rfl))) (pw_or1 (pt_not (pt_chain op_le op_le pe_int (pe_callB (ka_len (K := W.K) rfl) rfl T.m_len (by decide +kernel) (pa_cons (pv 0) pa_nil)) (pe_const rfl T.c_LONGEST_VARIABLE)))))) (pss_one (ps_ret pe_bl)) pss_nil)
    (pss_one (ps_ret (pe_and (pe_cmpR (ka_in (K := W.K) rfl) (pe_ix (ka_ix (K := W.K) rfl) (pv 0) pe_int (fun _ _ => rfl)) (pe_const rfl T.c_LARGE) rfl) (pe_one (pe_callB (ka_all (K := W.K) rfl rfl) rfl T.m_all (by decide +kernel) (pa_cons (pe_lc (own := [("sign", 1)]) rfl sc_is_variable.nd (pi_str (pe_slice (ka_sl (K := W.K) rfl) (pv 0) (po_some pe_int) po_none)) (blkOk_by (own := [("sign", 1)]) (N := N_is_variable) (sc := defScope s_is_variable) (by decide +kernel)) (fun _ _ _ _ _ => (pg_name (i := 1) sc_is_variable.nd rfl (by first | exact Or.inl rfl | exact Or.inr rfl))) (fun _ _ _ _ _ => pts_nil) (fun _ _ _ _ _ => (pe_cmpR (ka_in (K := W.K) rfl) (pv 1) (pe_const rfl T.c_DIGITS) rfl))) pa_nil))))))),
    (ss_seq (ss_if (st_or (st_not (st_tru (se_is isk_str se_var))) (st_not (st_test (se_chain opd_le opd_le se_int (se_cb cd_len (sa_cons se_var sa_nil)) se_int)))) (ss_ret se_bl) ss_next)
    (ss_ret (se_andV (se_op opd_in (se_op opd_ix se_var se_int) se_str) (se_all (sa_cons (se_f (sf_lc (j := 1) (si_str (se_sl se_var (so_some se_int) so_none)) st_yes (se_op opd_in se_var se_str))) sa_nil)))))⟩
theorem ok_is_piece (T : Tx W mg) {k : Nat} (I : All P w base T k) : FnG P w W.K mg base (k + 1) T.is_piece.f T.is_piece.fd ["thing", "members"] (SpD W 2 (PhiF (cs (k + 1) 5))) := by
  refine fn_m (m := m_is_piece (cs k)) T.is_piece.fn sc_is_piece rfl rfl fun cdv A outer s H E hg hr => ?_
  exact ⟨_, (pss_cons (ps_if (ka_tru (K := W.K) rfl (pe_g I.is_variable hg hr rfl T.is_variable.mg T.is_variable.fn.kp T.is_variable.bd (pa_cons (pv 0) pa_nil)) (by intro _; rfl)) (pss_one (ps_ret pe_bl)) pss_nil)
    (pss_cons (ps_if (PW.pt (pw_or (pt_not (ka_tru (K := W.K) rfl (pe_callB (ka_isi (K := W.K) rfl) rfl T.m_isinstance (by decide +kernel) (pa_cons (pv 0) (pa_cons (pe_bltn (v := .ty "tuple") (u := .type "tuple") rfl T.m_tuple (by decide +kernel) rfl) pa_nil))) (by intro _; rfl))) (pw_or1 (pt_not (pt_chain op_le op_le pe_int (pe_callB (ka_len (K := W.K) rfl) rfl T.m_len (by decide +kernel) (pa_cons (pv 0) pa_nil)) (pe_op (ka_add (K := W.K) rfl) pe_int (pe_const rfl T.c_MOST_PARTS))))))) (pss_one (ps_ret pe_bl)) pss_nil)
    (pss_one (ps_ret (pe_or (pe_g I.is_word hg hr rfl T.is_word.mg T.is_word.fn.kp T.is_word.bd (pa_cons (pe_ix (ka_ix (K := W.K) rfl) (pv 0) pe_int (fun _ _ => rfl)) pa_nil)) (pe_one (pe_and (pv 1) (pe_and (pe_cmpR op_gt (pe_callB (ka_len (K := W.K) rfl) rfl T.m_len (by decide +kernel) (pa_cons (pv 0) pa_nil)) pe_int (nomark _)) (pe_one (pe_g I.is_member_word hg hr rfl T.is_member_word.mg T.is_member_word.fn.kp T.is_member_word.bd (pa_cons (pe_ix (ka_ix (K := W.K) rfl) (pv 0) pe_int (fun _ _ => rfl)) pa_nil))))))))))),
    (ss_seq (ss_if (st_tru (se_g (sa_cons se_var sa_nil))) (ss_ret se_bl) ss_next)
    (ss_seq (ss_if (st_or (st_not (st_tru (se_is isk_tup se_var))) (st_not (st_test (se_chain opd_le opd_le se_int (se_cb cd_len (sa_cons se_var sa_nil)) (se_op opd_add se_int se_int))))) (ss_ret se_bl) ss_next)
    (ss_ret (se_orV (se_g (sa_cons (se_op opd_ix se_var se_int) sa_nil)) (se_andV se_var (se_andV (se_op opd_gt (se_cb cd_len (sa_cons se_var sa_nil)) se_int) (se_g (sa_cons (se_op opd_ix se_var se_int) sa_nil))))))))⟩
theorem ok_is_within (T : Tx W mg) {k : Nat} (I : All P w base T k) : FnG P w W.K mg base (k + 1) T.is_within.f T.is_within.fd ["thing", "members"] (SpD W 2 (PhiF (cs (k + 1) 6))) := by
  refine fn_m (m := m_is_within (cs k)) T.is_within.fn sc_is_within rfl rfl fun cdv A outer s H E hg hr => ?_
  exact ⟨_, (pss_cons (ps_set (i := 2) sc_is_within.nd rfl (by first | exact Or.inl rfl | exact Or.inr rfl) (pe_lst (pa_cons (pv 0) pa_nil)))
    (pss_cons (ps_set (i := 3) sc_is_within.nd rfl (by first | exact Or.inl rfl | exact Or.inr rfl) pe_int)
    (pss_cons (ps_set (i := 4) sc_is_within.nd rfl (by first | exact Or.inl rfl | exact Or.inr rfl) pe_int)
    (pss_cons (ps_while PassesOwn.never (ka_tru (K := W.K) rfl (pv 2) (by intro _; rfl)) (pss_cons (ps_aug (i := 3) sc_is_within.nd rfl (by first | exact Or.inl rfl | exact Or.inr rfl) (pe_callB (ka_len (K := W.K) rfl) rfl T.m_len (by decide +kernel) (pa_cons (pv 2) pa_nil)) (pip_of iop_add))
    (pss_cons (ps_aug (i := 4) sc_is_within.nd rfl (by first | exact Or.inl rfl | exact Or.inr rfl) pe_int (pip_of iop_add))
    (pss_cons (ps_if (PW.pt (pw_or (pt_cmpR op_gt (pv 3) (pe_const rfl T.c_MOST_SYMBOLS) (nomark _)) (pw_or (pt_cmpR op_gt (pv 4) (pe_const rfl T.c_MOST_DEEP) (nomark _)) (pw_or1 (pt_not (ka_tru (K := W.K) rfl (pe_callB (ka_all (K := W.K) rfl rfl) rfl T.m_all (by decide +kernel) (pa_cons (pe_lc (own := [("one", 5)]) rfl sc_is_within.nd (ka_plist (K := W.K) rfl (pv 2)) (blkOk_by (own := [("one", 5)]) (N := N_is_within) (sc := defScope s_is_within) (by decide +kernel)) (fun _ _ _ _ _ => (pg_name (i := 5) sc_is_within.nd rfl (by first | exact Or.inl rfl | exact Or.inr rfl))) (fun _ _ _ _ _ => pts_nil) (fun _ _ _ _ _ => (pe_g I.is_piece hg hr rfl T.is_piece.mg T.is_piece.fn.kp T.is_piece.bd (pa_cons (pv 5) (pa_cons (pv 1) pa_nil))))) pa_nil)) (by intro _; rfl))))))) (pss_one (ps_ret pe_bl)) pss_nil)
    (pss_one (ps_setLc2 (i := 2) (own := [("one", 5), ("part", 6)]) rfl sc_is_within.nd rfl rfl (sw_true rfl rfl rfl (by decide +kernel)) (ka_plist (K := W.K) rfl (pv 2)) (blkOk_by (own := [("one", 5), ("part", 6)]) (N := N_is_within) (sc := defScope s_is_within) (by decide +kernel)) (vs1 := [6]) (by decide) (fun _ _ _ _ _ => (pg_name (i := 5) sc_is_within.nd rfl (by first | exact Or.inl rfl | exact Or.inr rfl))) (fun _ _ _ _ _ => (pts_one (ka_tru (K := W.K) rfl (pe_callB (ka_isi (K := W.K) rfl) rfl T.m_isinstance (by decide +kernel) (pa_cons (pv 5) (pa_cons (pe_bltn (v := .ty "tuple") (u := .type "tuple") rfl T.m_tuple (by decide +kernel) rfl) pa_nil))) (by intro _; rfl)))) (fun _ _ _ _ _ => (ka_ptup (K := W.K) rfl (pe_slice (ka_sl (K := W.K) rfl) (pv 5) (po_some pe_int) po_none))) (fun _ _ _ _ _ => (pg_name (i := 6) sc_is_within.nd rfl (by first | exact Or.inl rfl | exact Or.inr rfl))) (fun _ _ _ _ _ => pts_nil) (fun _ _ _ _ _ => (pv 6))))))))
    (pss_one (ps_ret pe_bl)))))),
    (ss_seq (ss_set (se_f (sf_lst (sa_cons se_var sa_nil))))
    (ss_seq (ss_set se_int)
    (ss_seq (ss_set se_int)
    (ss_seq (ss_while (n := 1000) (st_tru se_var) (ss_seq (ss_aug opd_iadd (se_cb cd_len (sa_cons se_var sa_nil)))
    (ss_seq (ss_aug opd_iadd se_int)
    (ss_seq (ss_if (st_or (st_test (se_op opd_gt se_var se_int)) (st_or (st_test (se_op opd_gt se_var se_int)) (st_not (st_tru (se_all (sa_cons (se_f (sf_lc (j := 5) (si_list se_var) st_yes (se_g (sa_cons se_var (sa_cons se_var sa_nil))))) sa_nil)))))) (ss_ret se_bl) ss_next)
    (ss_set (se_f (sf_lc2 (j := 5) (k := 6) (si_list se_var) (st_tru (se_is isk_tup se_var)) (si_tup (se_sl se_var (so_some se_int) so_none)) st_yes se_var)))))))
    (ss_ret se_bl)))))⟩
theorem ok_is_expression (T : Tx W mg) {k : Nat} (I : All P w base T k) : FnG P w W.K mg base (k + 1) T.is_expression.f T.is_expression.fd ["thing"] (SpD W 1 (PhiF (cs (k + 1) 7))) := by
  refine fn_m (m := m_is_expression (cs k)) T.is_expression.fn sc_is_expression rfl rfl fun cdv A outer s H E hg hr => ?_
  exact ⟨_, (pss_one (ps_ret (pe_g I.is_within hg hr rfl T.is_within.mg T.is_within.fn.kp T.is_within.bd (pa_cons (pv 0) (pa_cons pe_bl pa_nil))))),
    (ss_ret (se_g (sa_cons se_var (sa_cons se_bl sa_nil))))⟩
theorem ok__law_draw (T : Tx W mg) {k : Nat} (I : All P w base T k) : FnG P w W.K mg base (k + 1) T._law_draw.f T._law_draw.fd ["_law_pen_here", "_law_many"] (SpD W 2 (PhiF (cs (k + 1) 8))) := by
  refine fn_m (m := m__law_draw (cs k)) T._law_draw.fn sc__law_draw rfl rfl fun cdv A outer s H E hg hr => ?_
  exact ⟨_, (pss_cons (ps_if (pt_cmpR op_gt (pe_dget (u1 hr) (pv 0) pe_str (fun _ _ => rfl)) pe_int (nomark _)) (pss_cons (ps_set (i := 2) sc__law_draw.nd rfl (by first | exact Or.inl rfl | exact Or.inr rfl) (pe_op op_mod (pe_callTy call_int1 rfl T.m_int (by decide +kernel) (pa_cons (pe_dget (u1 hr) (pv 0) pe_str (fun _ _ => rfl)) pa_nil)) (pv 1)))
    (pss_cons (ps_dput (u1 hr) (pv 0) pe_str (pe_op op_fdiv (pe_callTy call_int1 rfl T.m_int (by decide +kernel) (pa_cons (pe_dget (u1 hr) (pv 0) pe_str (fun _ _ => rfl)) pa_nil)) (pv 1)) (by rfl))
    (pss_one (ps_ret (pv 2))))) pss_nil)
    (pss_cons (ps_set (i := 3) sc__law_draw.nd rfl (by first | exact Or.inl rfl | exact Or.inr rfl) (pe_dget (u1 hr) (pv 0) pe_str (fun _ _ => rfl)))
    (pss_cons (ps_dput (u1 hr) (pv 0) pe_str (pe_op (ka_add (K := W.K) rfl) (pv 3) pe_int) (by rfl))
    (pss_cons (ps_set (i := 4) sc__law_draw.nd rfl (by first | exact Or.inl rfl | exact Or.inr rfl) (pe_op (ka_add (K := W.K) rfl) (pe_op op_mul pe_int (pv 3)) pe_int))
    (pss_cons (ps_if (pt_cmpR (ka_ne (K := W.K) (u64 hr) rfl) (pe_dget (u1 hr) (pv 0) pe_str (fun _ _ => rfl)) (pe_lst pa_nil) (nomark _)) (pss_one (ps_set (i := 4) sc__law_draw.nd rfl (by first | exact Or.inl rfl | exact Or.inr rfl) (pe_ix (ka_ix (K := W.K) rfl) (pe_dget (u1 hr) (pv 0) pe_str (fun _ _ => rfl)) (pe_op op_mod (pe_callTy call_int1 rfl T.m_int (by decide +kernel) (pa_cons (pv 3) pa_nil)) (pe_callB (ka_len (K := W.K) rfl) rfl T.m_len (by decide +kernel) (pa_cons (pe_dget (u1 hr) (pv 0) pe_str (fun _ _ => rfl)) pa_nil))) (fun _ _ => rfl)))) pss_nil)
    (pss_cons (ps_if (PW.pt (pw_and (pt_cmpR op_lt (pv 3) (pe_callB (ka_len (K := W.K) rfl) rfl T.m_len (by decide +kernel) (pa_cons (pe_dget (u1 hr) (pv 0) pe_str (fun _ _ => rfl)) pa_nil)) (nomark _)) (pw_and1 (pt_cmpR op_ge (pe_callB call_abs rfl T.m_abs (by decide +kernel) (pa_cons (pv 4) pa_nil)) (pe_op op_pow pe_int pe_int) (nomark _))))) (pss_cons (ps_set (i := 5) sc__law_draw.nd rfl (by first | exact Or.inl rfl | exact Or.inr rfl) (pe_op (ka_add (K := W.K) rfl) (pe_op op_mul pe_int (pe_callB call_abs rfl T.m_abs (by decide +kernel) (pa_cons (pv 4) pa_nil))) (pe_callTy call_int1 rfl T.m_int (by decide +kernel) (pa_cons (pe_cmpR op_lt (pv 4) pe_int (nomark _)) pa_nil))))
    (pss_cons (ps_dput (u1 hr) (pv 0) pe_str (pe_op op_fdiv (pe_callTy call_int1 rfl T.m_int (by decide +kernel) (pa_cons (pv 5) pa_nil)) (pv 1)) (by rfl))
    (pss_one (ps_ret (pe_op op_mod (pe_callTy call_int1 rfl T.m_int (by decide +kernel) (pa_cons (pv 5) pa_nil)) (pv 1)))))) pss_nil)
    (pss_cons (ps_set (i := 6) sc__law_draw.nd rfl (by first | exact Or.inl rfl | exact Or.inr rfl) (pe_op op_mod (pe_callTy call_int1 rfl T.m_int (by decide +kernel) (pa_cons (pe_op op_pow (pe_op (ka_add (K := W.K) rfl) (pe_op (ka_add (K := W.K) rfl) (pe_op op_mod (pe_callTy call_int1 rfl T.m_int (by decide +kernel) (pa_cons (pv 4) pa_nil)) pe_int) (pe_op op_mul pe_int (pv 3))) pe_int) pe_int) pa_nil)) pe_int))
    (pss_cons (ps_set (i := 6) sc__law_draw.nd rfl (by first | exact Or.inl rfl | exact Or.inr rfl) (pe_op op_mod (pe_callTy call_int1 rfl T.m_int (by decide +kernel) (pa_cons (pe_op op_pow (pe_op (ka_add (K := W.K) rfl) (pe_op (ka_add (K := W.K) rfl) (pe_op op_mul (pv 6) (pe_op (ka_add (K := W.K) rfl) (pe_op op_mul pe_int (pv 3)) pe_int)) (pe_op op_mul (pe_op op_mul pe_int (pv 3)) (pv 3))) pe_int) pe_int) pa_nil)) pe_int))
    (pss_one (ps_ret (pe_op op_mod (pe_callTy call_int1 rfl T.m_int (by decide +kernel) (pa_cons (pe_op op_fdiv (pv 6) pe_int) pa_nil)) (pv 1)))))))))))),
    (ss_seq (ss_if (st_test (se_op opd_gt (se_dget se_str) se_int)) (ss_seq (ss_set (se_op opd_mod (se_cb cd_int (sa_cons (se_dget se_str) sa_nil)) se_var))
    (ss_seq (ss_dput se_str rfl (se_op opd_fdiv (se_cb cd_int (sa_cons (se_dget se_str) sa_nil)) se_var))
    (ss_ret se_var))) ss_next)
    (ss_seq (ss_set (se_dget se_str))
    (ss_seq (ss_dput se_str rfl (se_op opd_add se_var se_int))
    (ss_seq (ss_set (se_op opd_add (se_op opd_mul se_int se_var) se_int))
    (ss_seq (ss_if (st_test (se_op opd_neX (se_dget se_str) (se_f (sf_lst sa_nil)))) (ss_set (se_op opd_ix (se_dget se_str) (se_op opd_mod (se_cb cd_int (sa_cons se_var sa_nil)) (se_cb cd_len (sa_cons (se_dget se_str) sa_nil))))) ss_next)
    (ss_seq (ss_if (st_and (st_test (se_op opd_lt se_var (se_cb cd_len (sa_cons (se_dget se_str) sa_nil)))) (st_test (se_op opd_ge (se_cb cd_abs (sa_cons se_var sa_nil)) (se_op opd_pow se_int se_int)))) (ss_seq (ss_set (se_op opd_add (se_op opd_mul se_int (se_cb cd_abs (sa_cons se_var sa_nil))) (se_cb cd_int (sa_cons (se_op opd_lt se_var se_int) sa_nil))))
    (ss_seq (ss_dput se_str rfl (se_op opd_fdiv (se_cb cd_int (sa_cons se_var sa_nil)) se_var))
    (ss_ret (se_op opd_mod (se_cb cd_int (sa_cons se_var sa_nil)) se_var)))) ss_next)
    (ss_seq (ss_set (se_op opd_mod (se_cb cd_int (sa_cons (se_op opd_pow (se_op opd_add (se_op opd_add (se_op opd_mod (se_cb cd_int (sa_cons se_var sa_nil)) se_int) (se_op opd_mul se_int se_var)) se_int) se_int) sa_nil)) se_int))
    (ss_seq (ss_set (se_op opd_mod (se_cb cd_int (sa_cons (se_op opd_pow (se_op opd_add (se_op opd_add (se_op opd_mul se_var (se_op opd_add (se_op opd_mul se_int se_var) se_int)) (se_op opd_mul (se_op opd_mul se_int se_var) se_var)) se_int) se_int) sa_nil)) se_int))
    (ss_ret (se_op opd_mod (se_cb cd_int (sa_cons (se_op opd_fdiv se_var se_int) sa_nil)) se_var))))))))))⟩
theorem ok__law_is_name (T : Tx W mg) {k : Nat} (I : All P w base T k) : FnG P w W.K mg base (k + 1) T._law_is_name.f T._law_is_name.fd ["_law_item"] (SpD W 1 (PhiF (cs (k + 1) 9))) := by
  refine fn_m (m := m__law_is_name (cs k)) T._law_is_name.fn sc__law_is_name rfl rfl fun cdv A outer s H E hg hr => ?_
  exact ⟨_, (pss_cons (ps_if (PW.pt (pw_or (pt_not (ka_tru (K := W.K) rfl (pe_callB (ka_isi (K := W.K) rfl) rfl T.m_isinstance (by decide +kernel) (pa_cons (pv 0) (pa_cons (pe_bltn (v := .ty "str") (u := .type "str") rfl T.m_str (by decide +kernel) rfl) pa_nil))) (by intro _; rfl))) (pw_or (pt_not (pt_chain op_lt op_lt pe_int (pe_callB (ka_len (K := W.K) rfl) rfl T.m_len (by decide +kernel) (pa_cons (pv 0) pa_nil)) pe_int)) (pw_or1 (pt_cmpR (ka_in (K := W.K) rfl) (pv 0) (pe_tup (pa_cons pe_str (pa_cons pe_str pa_nil))) rfl))))) (pss_one (ps_ret pe_bl)) pss_nil)
    (pss_one (ps_ret (pe_cmpR (ka_eq (K := W.K) (u64 hr) rfl) (pe_lc (own := [("_law_sign", 1)]) rfl sc__law_is_name.nd (pi_str (pv 0)) (blkOk_by (own := [("_law_sign", 1)]) (N := N__law_is_name) (sc := defScope s__law_is_name) (by decide +kernel)) (fun _ _ _ _ _ => (pg_name (i := 1) sc__law_is_name.nd rfl (by first | exact Or.inl rfl | exact Or.inr rfl))) (fun _ _ _ _ _ => (pts_one (pt_cmpR (ka_ni (K := W.K) rfl) (pv 1) pe_str rfl))) (fun _ _ _ _ _ => (pv 1))) (pe_lst pa_nil) (nomark _))))),
    (ss_seq (ss_if (st_or (st_not (st_tru (se_is isk_str se_var))) (st_or (st_not (st_test (se_chain opd_lt opd_lt se_int (se_cb cd_len (sa_cons se_var sa_nil)) se_int))) (st_test (se_op opd_in se_var (se_tup (sa_cons se_str (sa_cons se_str sa_nil))))))) (ss_ret se_bl) ss_next)
    (ss_ret (se_op opd_eqX (se_f (sf_lc (j := 1) (si_str se_var) (st_test (se_op opd_ni se_var se_str)) se_var)) (se_f (sf_lst sa_nil)))))⟩
theorem ok__law_is_word (T : Tx W mg) {k : Nat} (I : All P w base T k) : FnG P w W.K mg base (k + 1) T._law_is_word.f T._law_is_word.fd ["_law_item"] (SpD W 1 (PhiF (cs (k + 1) 10))) := by
  refine fn_m (m := m__law_is_word (cs k)) T._law_is_word.fn sc__law_is_word rfl rfl fun cdv A outer s H E hg hr => ?_
  exact ⟨_, (pss_cons (ps_if (pt_not (ka_tru (K := W.K) rfl (pe_callB (ka_isi (K := W.K) rfl) rfl T.m_isinstance (by decide +kernel) (pa_cons (pv 0) (pa_cons (pe_bltn (v := .ty "str") (u := .type "str") rfl T.m_str (by decide +kernel) rfl) pa_nil))) (by intro _; rfl))) (pss_one (ps_ret pe_bl)) pss_nil)
    (pss_cons (ps_set (i := 1) sc__law_is_word.nd rfl (by first | exact Or.inl rfl | exact Or.inr rfl) (pe_split (pv 0) pe_str))
    (pss_one (ps_ret (pe_and (pe_cmpR (ka_eq (K := W.K) (u64 hr) rfl) (pe_callB (ka_len (K := W.K) rfl) rfl T.m_len (by decide +kernel) (pa_cons (pv 1) pa_nil)) pe_int (nomark _)) (pe_and (pe_g I._law_is_name hg hr rfl T._law_is_name.mg T._law_is_name.fn.kp T._law_is_name.bd (pa_cons (pe_ix (ka_ix (K := W.K) rfl) (pv 1) pe_int (fun _ _ => rfl)) pa_nil)) (pe_one (pe_g I._law_is_name hg hr rfl T._law_is_name.mg T._law_is_name.fn.kp T._law_is_name.bd (pa_cons (pe_ix (ka_ix (K := W.K) rfl) (pv 1) pe_int (fun _ _ => rfl)) pa_nil))))))))),
    (ss_seq (ss_if (st_not (st_tru (se_is isk_str se_var))) (ss_ret se_bl) ss_next)
    (ss_seq (ss_set (se_m1 md_split se_var se_str))
    (ss_ret (se_andV (se_op opd_eqX (se_cb cd_len (sa_cons se_var sa_nil)) se_int) (se_andV (se_g (sa_cons (se_op opd_ix se_var se_int) sa_nil)) (se_g (sa_cons (se_op opd_ix se_var se_int) sa_nil)))))))⟩
theorem ok__law_is_variable (T : Tx W mg) {k : Nat} (I : All P w base T k) : FnG P w W.K mg base (k + 1) T._law_is_variable.f T._law_is_variable.fd ["_law_item"] (SpD W 1 (PhiF (cs (k + 1) 11))) := by
  refine fn_m (m := m__law_is_variable (cs k)) T._law_is_variable.fn sc__law_is_variable rfl rfl fun cdv A outer s H E hg hr => ?_
  exact ⟨_, (pss_cons (ps_if (PW.pt (pw_or (pt_not (ka_tru (K := W.K) rfl (pe_callB (ka_isi (K := W.K) rfl) rfl T.m_isinstance (by decide +kernel) (pa_cons (pv 0) (pa_cons (pe_bltn (v := .ty "str") (u := .type "str") rfl T.m_str (by decide +kernel) rfl) pa_nil))) (by intro _; rfl))) (pw_or (pt_not (pt_chain op_lt op_lt pe_int (pe_callB (ka_len (K := W.K) rfl) rfl T.m_len (by decide +kernel) (pa_cons (pv 0) pa_nil)) pe_int)) (pw_or1 (pt_cmpR (ka_ni (K := W.K) rfl) (pe_ix (ka_ix (K := W.K) rfl) (pv 0) pe_int (fun _ _ => rfl)) pe_str rfl))))) (pss_one (ps_ret pe_bl)) pss_nil)
    (pss_one (ps_ret (pe_cmpR (ka_eq (K := W.K) (u64 hr) rfl) (pe_lc (own := [("_law_sign", 1)]) rfl sc__law_is_variable.nd (pi_str (pe_slice (ka_sl (K := W.K) rfl) (pv 0) (po_some pe_int) po_none)) (blkOk_by (own := [("_law_sign", 1)]) (N := N__law_is_variable) (sc := defScope s__law_is_variable) (by decide +kernel)) (fun _ _ _ _ _ => (pg_name (i := 1) sc__law_is_variable.nd rfl (by first | exact Or.inl rfl | exact Or.inr rfl))) (fun _ _ _ _ _ => (pts_one (pt_cmpR (ka_ni (K := W.K) rfl) (pv 1) pe_str rfl))) (fun _ _ _ _ _ => (pv 1))) (pe_lst pa_nil) (nomark _))))),
    (ss_seq (ss_if (st_or (st_not (st_tru (se_is isk_str se_var))) (st_or (st_not (st_test (se_chain opd_lt opd_lt se_int (se_cb cd_len (sa_cons se_var sa_nil)) se_int))) (st_test (se_op opd_ni (se_op opd_ix se_var se_int) se_str)))) (ss_ret se_bl) ss_next)
    (ss_ret (se_op opd_eqX (se_f (sf_lc (j := 1) (si_str (se_sl se_var (so_some se_int) so_none)) (st_test (se_op opd_ni se_var se_str)) se_var)) (se_f (sf_lst sa_nil)))))⟩
theorem ok__law_is_member_word (T : Tx W mg) {k : Nat} (I : All P w base T k) : FnG P w W.K mg base (k + 1) T._law_is_member_word.f T._law_is_member_word.fd ["_law_item"] (SpD W 1 (PhiF (cs (k + 1) 12))) := by
  refine fn_m (m := m__law_is_member_word (cs k)) T._law_is_member_word.fn sc__law_is_member_word rfl rfl fun cdv A outer s H E hg hr => ?_
  exact ⟨_, (pss_cons (ps_if (pt_not (ka_tru (K := W.K) rfl (pe_callB (ka_isi (K := W.K) rfl) rfl T.m_isinstance (by decide +kernel) (pa_cons (pv 0) (pa_cons (pe_bltn (v := .ty "str") (u := .type "str") rfl T.m_str (by decide +kernel) rfl) pa_nil))) (by intro _; rfl))) (pss_one (ps_ret pe_bl)) pss_nil)
    (pss_cons (ps_set (i := 1) sc__law_is_member_word.nd rfl (by first | exact Or.inl rfl | exact Or.inr rfl) (pe_split (pv 0) pe_str))
    (pss_one (ps_ret (pe_and (pe_cmpR (ka_eq (K := W.K) (u64 hr) rfl) (pe_callB (ka_len (K := W.K) rfl) rfl T.m_len (by decide +kernel) (pa_cons (pv 1) pa_nil)) pe_int (nomark _)) (pe_one (pe_cmpR (ka_eq (K := W.K) (u64 hr) rfl) (pe_lc (own := [("_law_part", 2)]) rfl sc__law_is_member_word.nd (ka_plist (K := W.K) rfl (pv 1)) (blkOk_by (own := [("_law_part", 2)]) (N := N__law_is_member_word) (sc := defScope s__law_is_member_word) (by decide +kernel)) (fun _ _ _ _ _ => (pg_name (i := 2) sc__law_is_member_word.nd rfl (by first | exact Or.inl rfl | exact Or.inr rfl))) (fun _ _ _ _ _ => (pts_one (pt_not (ka_tru (K := W.K) rfl (pe_g I._law_is_name hg hr rfl T._law_is_name.mg T._law_is_name.fn.kp T._law_is_name.bd (pa_cons (pv 2) pa_nil)) (by intro _; rfl))))) (fun _ _ _ _ _ => (pv 2))) (pe_lst pa_nil) (nomark _)))))))),
    (ss_seq (ss_if (st_not (st_tru (se_is isk_str se_var))) (ss_ret se_bl) ss_next)
    (ss_seq (ss_set (se_m1 md_split se_var se_str))
    (ss_ret (se_andV (se_op opd_eqX (se_cb cd_len (sa_cons se_var sa_nil)) se_int) (se_op opd_eqX (se_f (sf_lc (j := 2) (si_list se_var) (st_not (st_tru (se_g (sa_cons se_var sa_nil)))) se_var)) (se_f (sf_lst sa_nil)))))))⟩
theorem ok__law_symbols (T : Tx W mg) {k : Nat} (I : All P w base T k) : FnG P w W.K mg base (k + 1) T._law_symbols.f T._law_symbols.fd ["_law_item", "_law_deep", "_law_is_more"] (SpD W 3 (PhiF (cs (k + 1) 13))) := by
  refine fn_m (m := m__law_symbols (cs k)) T._law_symbols.fn sc__law_symbols rfl rfl fun cdv A outer s H E hg hr => ?_
  exact ⟨_, (pss_cons (ps_if (pt_cmpR (ka_eq (K := W.K) (u64 hr) rfl) (pv 1) pe_int (nomark _)) (pss_one (ps_ret pe_int)) pss_nil)
    (pss_cons (ps_if (ka_tru (K := W.K) rfl (pe_g I._law_is_variable hg hr rfl T._law_is_variable.mg T._law_is_variable.fn.kp T._law_is_variable.bd (pa_cons (pv 0) pa_nil)) (by intro _; rfl)) (pss_one (ps_ret pe_int)) pss_nil)
    (pss_cons (ps_if (PW.pt (pw_or (pt_not (ka_tru (K := W.K) rfl (pe_callB (ka_isi (K := W.K) rfl) rfl T.m_isinstance (by decide +kernel) (pa_cons (pv 0) (pa_cons (pe_bltn (v := .ty "tuple") (u := .type "tuple") rfl T.m_tuple (by decide +kernel) rfl) pa_nil))) (by intro _; rfl))) (pw_or1 (pt_not (pt_chain op_lt op_lt pe_int (pe_callB (ka_len (K := W.K) rfl) rfl T.m_len (by decide +kernel) (pa_cons (pv 0) pa_nil)) pe_int))))) (pss_one (ps_ret pe_int)) pss_nil)
    (pss_cons (ps_if (PW.pt (pw_and (pt_not (ka_tru (K := W.K) rfl (pe_g I._law_is_word hg hr rfl T._law_is_word.mg T._law_is_word.fn.kp T._law_is_word.bd (pa_cons (pe_ix (ka_ix (K := W.K) rfl) (pv 0) pe_int (fun _ _ => rfl)) pa_nil)) (by intro _; rfl))) (pw_and1 (pt_not (PW.pt (pw_and (ka_tru (K := W.K) rfl (pv 2) (by intro _; rfl)) (pw_and (pt_cmpR op_gt (pe_callB (ka_len (K := W.K) rfl) rfl T.m_len (by decide +kernel) (pa_cons (pv 0) pa_nil)) pe_int (nomark _)) (pw_and1 (ka_tru (K := W.K) rfl (pe_g I._law_is_member_word hg hr rfl T._law_is_member_word.mg T._law_is_member_word.fn.kp T._law_is_member_word.bd (pa_cons (pe_ix (ka_ix (K := W.K) rfl) (pv 0) pe_int (fun _ _ => rfl)) pa_nil)) (by intro _; rfl)))))))))) (pss_one (ps_ret pe_int)) pss_nil)
    (pss_cons (ps_set (i := 3) sc__law_symbols.nd rfl (by first | exact Or.inl rfl | exact Or.inr rfl) pe_int)
    (pss_cons (ps_for PassesOwn.never rfl (ka_ptup (K := W.K) rfl (pe_slice (ka_sl (K := W.K) rfl) (pv 0) (po_some pe_int) po_none)) (pg_name (i := 4) sc__law_symbols.nd rfl (by first | exact Or.inl rfl | exact Or.inr rfl)) (pss_cons (ps_set (i := 5) sc__law_symbols.nd rfl (by first | exact Or.inl rfl | exact Or.inr rfl) (pe_g I._law_symbols hg hr rfl T._law_symbols.mg T._law_symbols.fn.kp T._law_symbols.bd (pa_cons (pv 4) (pa_cons (pe_op op_sub (pv 1) pe_int) (pa_cons (pv 2) pa_nil)))))
    (pss_cons (ps_if (pt_cmpR (ka_eq (K := W.K) (u64 hr) rfl) (pv 5) pe_int (nomark _)) (pss_one (ps_ret pe_int)) pss_nil)
    (pss_one (ps_set (i := 3) sc__law_symbols.nd rfl (by first | exact Or.inl rfl | exact Or.inr rfl) (pe_op (ka_add (K := W.K) rfl) (pv 3) (pv 5)))))))
    (pss_one (ps_ret (pv 3))))))))),
    (ss_seq (ss_if (st_test (se_op opd_eqX se_var se_int)) (ss_ret se_int) ss_next)
    (ss_seq (ss_if (st_tru (se_g (sa_cons se_var sa_nil))) (ss_ret se_int) ss_next)
    (ss_seq (ss_if (st_or (st_not (st_tru (se_is isk_tup se_var))) (st_not (st_test (se_chain opd_lt opd_lt se_int (se_cb cd_len (sa_cons se_var sa_nil)) se_int)))) (ss_ret se_int) ss_next)
    (ss_seq (ss_if (st_and (st_not (st_tru (se_g (sa_cons (se_op opd_ix se_var se_int) sa_nil)))) (st_not (st_and (st_tru se_var) (st_and (st_test (se_op opd_gt (se_cb cd_len (sa_cons se_var sa_nil)) se_int)) (st_tru (se_g (sa_cons (se_op opd_ix se_var se_int) sa_nil))))))) (ss_ret se_int) ss_next)
    (ss_seq (ss_set se_int)
    (ss_seq (ss_for (si_tup (se_sl se_var (so_some se_int) so_none)) (ss_seq (ss_set (se_g (sa_cons se_var (sa_cons (se_op opd_sub se_var se_int) (sa_cons se_var sa_nil)))))
    (ss_seq (ss_if (st_test (se_op opd_eqX se_var se_int)) (ss_ret se_int) ss_next)
    (ss_set (se_op opd_add se_var se_var)))))
    (ss_ret se_var)))))))⟩
theorem ok__law_odd (T : Tx W mg) {k : Nat} (I : All P w base T k) : FnG P w W.K mg base (k + 1) T._law_odd.f T._law_odd.fd ["_law_pen_here"] (SpD W 1 (PhiF (cs (k + 1) 14))) := by
  refine fn_m (m := m__law_odd (cs k)) T._law_odd.fn sc__law_odd rfl rfl fun cdv A outer s H E hg hr => ?_
  exact ⟨_, (pss_cons (ps_set (i := 1) sc__law_odd.nd rfl (by first | exact Or.inl rfl | exact Or.inr rfl) (pe_lst (pa_cons pe_non (pa_cons pe_bl (pa_cons pe_int (pa_cons (pe_un un_neg pe_int) (pa_cons (pe_op op_pow pe_int pe_int) (pa_cons pe_str (pa_cons pe_str (pa_cons pe_str (pa_cons pe_str (pa_cons pe_str (pa_cons (pe_tup pa_nil) (pa_cons (pe_tup (pa_cons pe_str pa_nil)) (pa_cons (pe_lst (pa_cons pe_str pa_nil)) (pa_cons (pe_disp (pps_cons pe_str pe_str pps_nil) (by rfl) (by rfl) (fun z => by cases z) (by decide)) pa_nil))))))))))))))))
    (pss_cons (ps_set (i := 1) sc__law_odd.nd rfl (by first | exact Or.inl rfl | exact Or.inr rfl) (pe_op (ka_add (K := W.K) rfl) (pv 1) (pe_lst (pa_cons (pe_tup (pa_cons pe_str pa_nil)) (pa_cons (pe_tup (pa_cons pe_str (pa_cons pe_non pa_nil))) (pa_cons (pe_tup (pa_cons pe_str (pa_cons (pe_lst (pa_cons pe_str pa_nil)) pa_nil))) (pa_cons (pe_tup (pa_cons pe_str (pa_cons (pe_tup pa_nil) pa_nil))) (pa_cons (pe_tup (pa_cons pe_str (pa_cons pe_str (pa_cons pe_str pa_nil)))) pa_nil))))))))
    (pss_cons (ps_set (i := 1) sc__law_odd.nd rfl (by first | exact Or.inl rfl | exact Or.inr rfl) (pe_op (ka_add (K := W.K) rfl) (pv 1) (pe_lst (pa_cons (pe_tup (pa_cons pe_str (pa_cons pe_str (pa_cons pe_str (pa_cons pe_str (pa_cons pe_str pa_nil)))))) (pa_cons (pe_tup (pa_cons pe_str pa_nil)) (pa_cons (pe_tup (pa_cons pe_str (pa_cons pe_str pa_nil))) (pa_cons (pe_tup (pa_cons pe_str (pa_cons pe_str pa_nil))) (pa_cons pe_str pa_nil))))))))
    (pss_cons (ps_set (i := 1) sc__law_odd.nd rfl (by first | exact Or.inl rfl | exact Or.inr rfl) (pe_op (ka_add (K := W.K) rfl) (pv 1) (pe_lst (pa_cons (pe_tup (pa_cons pe_str (pa_cons (pe_tup (pa_cons pe_str (pa_cons pe_str pa_nil))) pa_nil))) (pa_cons (pe_tup (pa_cons pe_str (pa_cons pe_str pa_nil))) (pa_cons (pe_tup (pa_cons pe_str (pa_cons pe_str pa_nil))) (pa_cons (pe_tup (pa_cons pe_str (pa_cons pe_str pa_nil))) pa_nil)))))))
    (pss_cons (ps_set (i := 1) sc__law_odd.nd rfl (by first | exact Or.inl rfl | exact Or.inr rfl) (pe_op (ka_add (K := W.K) rfl) (pv 1) (pe_lst (pa_cons (pe_tup (pa_cons (pe_tup (pa_cons pe_str pa_nil)) (pa_cons pe_str pa_nil))) (pa_cons (pe_tup (pa_cons pe_str (pa_cons pe_str pa_nil))) (pa_cons (pe_lst (pa_cons (pe_tup (pa_cons pe_str (pa_cons pe_str pa_nil))) pa_nil)) (pa_cons (pe_tup (pa_cons pe_str (pa_cons pe_str pa_nil))) pa_nil)))))))
    (pss_cons (ps_set (i := 1) sc__law_odd.nd rfl (by first | exact Or.inl rfl | exact Or.inr rfl) (pe_op (ka_add (K := W.K) rfl) (pv 1) (pe_lst (pa_cons (pe_tup (pa_cons pe_str (pa_cons pe_int pa_nil))) (pa_cons (pe_tup (pa_cons pe_str (pa_cons pe_str pa_nil))) pa_nil)))))
    (pss_one (ps_ret (pe_ix (ka_ix (K := W.K) rfl) (pv 1) (pe_g I._law_draw hg hr rfl T._law_draw.mg T._law_draw.fn.kp T._law_draw.bd (pa_cons (pv 0) (pa_cons pe_int pa_nil))) (fun _ _ => rfl)))))))))),
    (ss_seq (ss_set (se_f (sf_lst (sa_cons se_non (sa_cons se_bl (sa_cons se_int (sa_cons (se_un und_neg se_int) (sa_cons (se_op opd_pow se_int se_int) (sa_cons se_str (sa_cons se_str (sa_cons se_str (sa_cons se_str (sa_cons se_str (sa_cons (se_tup sa_nil) (sa_cons (se_tup (sa_cons se_str sa_nil)) (sa_cons (se_f (sf_lst (sa_cons se_str sa_nil))) (sa_cons (se_disp (sp_str se_str sp_nil)) sa_nil)))))))))))))))))
    (ss_seq (ss_set (se_op opd_add se_var (se_f (sf_lst (sa_cons (se_tup (sa_cons se_str sa_nil)) (sa_cons (se_tup (sa_cons se_str (sa_cons se_non sa_nil))) (sa_cons (se_tup (sa_cons se_str (sa_cons (se_f (sf_lst (sa_cons se_str sa_nil))) sa_nil))) (sa_cons (se_tup (sa_cons se_str (sa_cons (se_tup sa_nil) sa_nil))) (sa_cons (se_tup (sa_cons se_str (sa_cons se_str (sa_cons se_str sa_nil)))) sa_nil)))))))))
    (ss_seq (ss_set (se_op opd_add se_var (se_f (sf_lst (sa_cons (se_tup (sa_cons se_str (sa_cons se_str (sa_cons se_str (sa_cons se_str (sa_cons se_str sa_nil)))))) (sa_cons (se_tup (sa_cons se_str sa_nil)) (sa_cons (se_tup (sa_cons se_str (sa_cons se_str sa_nil))) (sa_cons (se_tup (sa_cons se_str (sa_cons se_str sa_nil))) (sa_cons se_str sa_nil)))))))))
    (ss_seq (ss_set (se_op opd_add se_var (se_f (sf_lst (sa_cons (se_tup (sa_cons se_str (sa_cons (se_tup (sa_cons se_str (sa_cons se_str sa_nil))) sa_nil))) (sa_cons (se_tup (sa_cons se_str (sa_cons se_str sa_nil))) (sa_cons (se_tup (sa_cons se_str (sa_cons se_str sa_nil))) (sa_cons (se_tup (sa_cons se_str (sa_cons se_str sa_nil))) sa_nil))))))))
    (ss_seq (ss_set (se_op opd_add se_var (se_f (sf_lst (sa_cons (se_tup (sa_cons (se_tup (sa_cons se_str sa_nil)) (sa_cons se_str sa_nil))) (sa_cons (se_tup (sa_cons se_str (sa_cons se_str sa_nil))) (sa_cons (se_f (sf_lst (sa_cons (se_tup (sa_cons se_str (sa_cons se_str sa_nil))) sa_nil))) (sa_cons (se_tup (sa_cons se_str (sa_cons se_str sa_nil))) sa_nil))))))))
    (ss_seq (ss_set (se_op opd_add se_var (se_f (sf_lst (sa_cons (se_tup (sa_cons se_str (sa_cons se_int sa_nil))) (sa_cons (se_tup (sa_cons se_str (sa_cons se_str sa_nil))) sa_nil))))))
    (ss_ret (se_op opd_ix se_var (se_gp (sa_cons se_int sa_nil))))))))))⟩
theorem ok__law_tower (T : Tx W mg) {k : Nat} (I : All P w base T k) : FnG P w W.K mg base (k + 1) T._law_tower.f T._law_tower.fd ["_law_many"] (SpD W 1 (PhiF (cs (k + 1) 15))) := by
  refine fn_m (m := m__law_tower (cs k)) T._law_tower.fn sc__law_tower rfl rfl fun cdv A outer s H E hg hr => ?_
  exact ⟨_, (pss_cons (ps_set (i := 1) sc__law_tower.nd rfl (by first | exact Or.inl rfl | exact Or.inr rfl) (pe_tup (pa_cons pe_str pa_nil)))
    (pss_cons (ps_for PassesOwn.never rfl (pi_range1 rfl T.m_range (pa_cons (pe_op op_sub (pv 0) pe_int) pa_nil)) (pg_name (i := 2) sc__law_tower.nd rfl (by first | exact Or.inl rfl | exact Or.inr rfl)) (pss_one (ps_set (i := 1) sc__law_tower.nd rfl (by first | exact Or.inl rfl | exact Or.inr rfl) (pe_tup (pa_cons pe_str (pa_cons (pv 1) pa_nil))))))
    (pss_one (ps_ret (pv 1))))),
    (ss_seq (ss_set (se_tup (sa_cons se_str sa_nil)))
    (ss_seq (ss_for (si_rng (sa_cons (se_op opd_sub se_var se_int) sa_nil)) (ss_set (se_tup (sa_cons se_str (sa_cons se_var sa_nil)))))
    (ss_ret se_var)))⟩
theorem ok__law_bush (T : Tx W mg) {k : Nat} (I : All P w base T k) : FnG P w W.K mg base (k + 1) T._law_bush.f T._law_bush.fd ["_law_many", "_law_deep"] (SpD W 2 (PhiF (cs (k + 1) 16))) := by
  refine fn_m (m := m__law_bush (cs k)) T._law_bush.fn sc__law_bush rfl rfl fun cdv A outer s H E hg hr => ?_
  exact ⟨_, (pss_cons (ps_set (i := 2) sc__law_bush.nd rfl (by first | exact Or.inl rfl | exact Or.inr rfl) (pe_ix (ka_ix (K := W.K) rfl) (pe_lst (pa_cons pe_int (pa_cons pe_int (pa_cons pe_int (pa_cons pe_int (pa_cons pe_int (pa_cons pe_int pa_nil))))))) (pv 1) (fun _ _ => rfl)))
    (pss_cons (ps_set (i := 3) sc__law_bush.nd rfl (by first | exact Or.inl rfl | exact Or.inr rfl) (pe_lst pa_nil))
    (pss_cons (ps_set (i := 4) sc__law_bush.nd rfl (by first | exact Or.inl rfl | exact Or.inr rfl) (pe_op op_sub (pv 0) pe_int))
    (pss_cons (ps_while PassesOwn.never (pt_cmpR op_gt (pv 4) pe_int (nomark _)) (pss_cons (ps_expr (pe_bm PySem.F.plainAttrs_list PySem.F.slot_list_append PySem.F.type_list_append mt_append (pv 3) (pa_cons (pe_g I._law_bush hg hr rfl T._law_bush.mg T._law_bush.fn.kp T._law_bush.bd (pa_cons (pe_callB (call_min2 rfl) rfl T.m_min (by decide +kernel) (pa_cons (pv 2) (pa_cons (pv 4) pa_nil))) (pa_cons (pe_op op_sub (pv 1) pe_int) pa_nil))) pa_nil)))
    (pss_one (ps_set (i := 4) sc__law_bush.nd rfl (by first | exact Or.inl rfl | exact Or.inr rfl) (pe_op op_sub (pv 4) (pe_callB (call_min2 rfl) rfl T.m_min (by decide +kernel) (pa_cons (pv 2) (pa_cons (pv 4) pa_nil))))))))
    (pss_one (ps_ret (pe_op (ka_add (K := W.K) rfl) (pe_tup (pa_cons pe_str pa_nil)) (pe_callTy (ka_tuple (K := W.K) rfl) rfl T.m_tuple (by decide +kernel) (pa_cons (pv 3) pa_nil))))))))),
    (ss_seq (ss_set (se_op opd_ix (se_f (sf_lst (sa_cons se_int (sa_cons se_int (sa_cons se_int (sa_cons se_int (sa_cons se_int (sa_cons se_int sa_nil)))))))) se_var))
    (ss_seq (ss_own (sf_lst sa_nil))
    (ss_seq (ss_set (se_op opd_sub se_var se_int))
    (ss_seq (ss_while (n := 1000) (st_test (se_op opd_gt se_var se_int)) (ss_seq (ss_app (se_g (sa_cons (se_cb cd_min2 (sa_cons se_var (sa_cons se_var sa_nil))) (sa_cons (se_op opd_sub se_var se_int) sa_nil))))
    (ss_set (se_op opd_sub se_var (se_cb cd_min2 (sa_cons se_var (sa_cons se_var sa_nil)))))))
    (ss_ret (se_op opd_add (se_tup (sa_cons se_str sa_nil)) (se_cb cd_tuple (sa_cons se_var sa_nil))))))))⟩
theorem ok__law_expression (T : Tx W mg) {k : Nat} (I : All P w base T k) : FnG P w W.K mg base (k + 1) T._law_expression.f T._law_expression.fd ["_law_pen_here", "_law_deep"] (SpD W 2 (PhiF (cs (k + 1) 17))) := by
  refine fn_m (m := m__law_expression (cs k)) T._law_expression.fn sc__law_expression rfl rfl fun cdv A outer s H E hg hr => ?_
  exact ⟨_, (pss_cons (ps_if (PW.pt (pw_or (pt_cmpR (ka_eq (K := W.K) (u64 hr) rfl) (pv 1) pe_int (nomark _)) (pw_or1 (pt_cmpR (ka_eq (K := W.K) (u64 hr) rfl) (pe_g I._law_draw hg hr rfl T._law_draw.mg T._law_draw.fn.kp T._law_draw.bd (pa_cons (pv 0) (pa_cons pe_int pa_nil))) pe_int (nomark _))))) (pss_one (ps_ret (pe_ix (ka_ix (K := W.K) rfl) (pe_lst (pa_cons pe_str (pa_cons pe_str (pa_cons (pe_tup (pa_cons pe_str pa_nil)) pa_nil)))) (pe_g I._law_draw hg hr rfl T._law_draw.mg T._law_draw.fn.kp T._law_draw.bd (pa_cons (pv 0) (pa_cons pe_int pa_nil))) (fun _ _ => rfl)))) pss_nil)
    (pss_cons (ps_set (i := 2) sc__law_expression.nd rfl (by first | exact Or.inl rfl | exact Or.inr rfl) (pe_lst (pa_cons pe_str (pa_cons pe_str (pa_cons pe_str (pa_cons pe_str (pa_cons pe_str pa_nil)))))))
    (pss_cons (ps_set (i := 3) sc__law_expression.nd rfl (by first | exact Or.inl rfl | exact Or.inr rfl) (pe_ix (ka_ix (K := W.K) rfl) (pv 2) (pe_g I._law_draw hg hr rfl T._law_draw.mg T._law_draw.fn.kp T._law_draw.bd (pa_cons (pv 0) (pa_cons pe_int pa_nil))) (fun _ _ => rfl)))
    (pss_one (ps_ret (pe_op (ka_add (K := W.K) rfl) (pe_tup (pa_cons (pv 3) pa_nil)) (pe_callTy (ka_tuple (K := W.K) rfl) rfl T.m_tuple (by decide +kernel) (pa_cons (pe_lc (own := [("_law_k", 4)]) rfl sc__law_expression.nd (pi_range1 rfl T.m_range (pa_cons (pe_op (ka_add (K := W.K) rfl) pe_int (pe_g I._law_draw hg hr rfl T._law_draw.mg T._law_draw.fn.kp T._law_draw.bd (pa_cons (pv 0) (pa_cons pe_int pa_nil)))) pa_nil)) (blkOk_by (own := [("_law_k", 4)]) (N := N__law_expression) (sc := defScope s__law_expression) (by decide +kernel)) (fun _ _ _ _ _ => (pg_name (i := 4) sc__law_expression.nd rfl (by first | exact Or.inl rfl | exact Or.inr rfl))) (fun _ _ _ _ _ => pts_nil) (fun _ _ _ _ _ => (pe_g I._law_expression hg hr rfl T._law_expression.mg T._law_expression.fn.kp T._law_expression.bd (pa_cons (pv 0) (pa_cons (pe_op op_sub (pv 1) pe_int) pa_nil))))) pa_nil)))))))),
    (ss_seq (ss_if (st_or (st_test (se_op opd_eqX se_var se_int)) (st_test (se_op opd_eqX (se_gp (sa_cons se_int sa_nil)) se_int))) (ss_ret (se_op opd_ix (se_f (sf_lst (sa_cons se_str (sa_cons se_str (sa_cons (se_tup (sa_cons se_str sa_nil)) sa_nil))))) (se_gp (sa_cons se_int sa_nil)))) ss_next)
    (ss_seq (ss_set (se_f (sf_lst (sa_cons se_str (sa_cons se_str (sa_cons se_str (sa_cons se_str (sa_cons se_str sa_nil))))))))
    (ss_seq (ss_set (se_op opd_ix se_var (se_gp (sa_cons se_int sa_nil))))
    (ss_ret (se_op opd_add (se_tup (sa_cons se_var sa_nil)) (se_cb cd_tuple (sa_cons (se_f (sf_lc (j := 4) (si_rng (sa_cons (se_op opd_add se_int (se_gp (sa_cons se_int sa_nil))) sa_nil)) st_yes (se_gp (sa_cons (se_op opd_sub se_var se_int) sa_nil)))) sa_nil)))))))⟩
theorem ok__law_bent (T : Tx W mg) {k : Nat} (I : All P w base T k) : FnG P w W.K mg base (k + 1) T._law_bent.f T._law_bent.fd ["_law_pen_here", "_law_item"] (SpD W 2 (PhiF (cs (k + 1) 18))) := by
  refine fn_m (m := m__law_bent (cs k)) T._law_bent.fn sc__law_bent rfl rfl fun cdv A outer s H E hg hr => ?_
  exact ⟨_, (pss_cons (ps_if (PW.pt (pw_or (ka_tru (K := W.K) rfl (pe_callB (ka_isi (K := W.K) rfl) rfl T.m_isinstance (by decide +kernel) (pa_cons (pv 1) (pa_cons (pe_bltn (v := .ty "str") (u := .type "str") rfl T.m_str (by decide +kernel) rfl) pa_nil))) (by intro _; rfl)) (pw_or (pt_cmpR (ka_eq (K := W.K) (u64 hr) rfl) (pe_callB (ka_len (K := W.K) rfl) rfl T.m_len (by decide +kernel) (pa_cons (pv 1) pa_nil)) pe_int (nomark _)) (pw_or1 (pt_cmpR (ka_eq (K := W.K) (u64 hr) rfl) (pe_g I._law_draw hg hr rfl T._law_draw.mg T._law_draw.fn.kp T._law_draw.bd (pa_cons (pv 0) (pa_cons pe_int pa_nil))) pe_int (nomark _)))))) (pss_cons (ps_set (i := 2) sc__law_bent.nd rfl (by first | exact Or.inl rfl | exact Or.inr rfl) (pe_g I._law_draw hg hr rfl T._law_draw.mg T._law_draw.fn.kp T._law_draw.bd (pa_cons (pv 0) (pa_cons pe_int pa_nil))))
    (pss_cons (ps_set (i := 3) sc__law_bent.nd rfl (by first | exact Or.inl rfl | exact Or.inr rfl) (pe_lst (pa_cons pe_str (pa_cons (pe_tup (pa_cons pe_str pa_nil)) (pa_cons (pe_tup (pa_cons pe_str (pa_cons pe_str pa_nil))) (pa_cons (pe_tup (pa_cons pe_str (pa_cons pe_str pa_nil))) (pa_cons (pe_tup (pa_cons pe_str (pa_cons pe_str pa_nil))) pa_nil)))))))
    (pss_one (ps_ret (pe_ix (ka_ix (K := W.K) rfl) (pe_op (ka_add (K := W.K) rfl) (pv 3) (pe_lst (pa_cons (pe_g I._law_odd hg hr rfl T._law_odd.mg T._law_odd.fn.kp T._law_odd.bd (pa_cons (pv 0) pa_nil)) pa_nil))) (pv 2) (fun _ _ => rfl)))))) pss_nil)
    (pss_cons (ps_set (i := 4) sc__law_bent.nd rfl (by first | exact Or.inl rfl | exact Or.inr rfl) (pe_op (ka_add (K := W.K) rfl) pe_int (pe_g I._law_draw hg hr rfl T._law_draw.mg T._law_draw.fn.kp T._law_draw.bd (pa_cons (pv 0) (pa_cons (pe_op op_sub (pe_callB (ka_len (K := W.K) rfl) rfl T.m_len (by decide +kernel) (pa_cons (pv 1) pa_nil)) pe_int) pa_nil)))))
    (pss_one (ps_ret (pe_op (ka_add (K := W.K) rfl) (pe_op (ka_add (K := W.K) rfl) (pe_slice (ka_sl (K := W.K) rfl) (pv 1) po_none (po_some (pv 4))) (pe_tup (pa_cons (pe_g I._law_bent hg hr rfl T._law_bent.mg T._law_bent.fn.kp T._law_bent.bd (pa_cons (pv 0) (pa_cons (pe_ix (ka_ix (K := W.K) rfl) (pv 1) (pv 4) (fun _ _ => rfl)) pa_nil))) pa_nil))) (pe_slice (ka_sl (K := W.K) rfl) (pv 1) (po_some (pe_op (ka_add (K := W.K) rfl) (pv 4) pe_int)) po_none)))))),
    (ss_seq (ss_if (st_or (st_tru (se_is isk_str se_var)) (st_or (st_test (se_op opd_eqX (se_cb cd_len (sa_cons se_var sa_nil)) se_int)) (st_test (se_op opd_eqX (se_gp (sa_cons se_int sa_nil)) se_int)))) (ss_seq (ss_set (se_gp (sa_cons se_int sa_nil)))
    (ss_seq (ss_set (se_f (sf_lst (sa_cons se_str (sa_cons (se_tup (sa_cons se_str sa_nil)) (sa_cons (se_tup (sa_cons se_str (sa_cons se_str sa_nil))) (sa_cons (se_tup (sa_cons se_str (sa_cons se_str sa_nil))) (sa_cons (se_tup (sa_cons se_str (sa_cons se_str sa_nil))) sa_nil))))))))
    (ss_ret (se_op opd_ix (se_op opd_add se_var (se_f (sf_lst (sa_cons (se_gp sa_nil) sa_nil)))) se_var)))) ss_next)
    (ss_seq (ss_set (se_op opd_add se_int (se_gp (sa_cons (se_op opd_sub (se_cb cd_len (sa_cons se_var sa_nil)) se_int) sa_nil))))
    (ss_ret (se_op opd_add (se_op opd_add (se_sl se_var so_none (so_some se_var)) (se_tup (sa_cons (se_gp (sa_cons (se_op opd_ix se_var se_var) sa_nil)) sa_nil))) (se_sl se_var (so_some (se_op opd_add se_var se_int)) so_none)))))⟩
theorem ok__law_right (T : Tx W mg) {k : Nat} (I : All P w base T k) : FnG P w W.K mg base (k + 1) T._law_right.f T._law_right.fd ["_law_item"] (SpD W 1 (PhiF (cs (k + 1) 19))) := by
  refine fn_m (m := m__law_right (cs k)) T._law_right.fn sc__law_right rfl rfl fun cdv A outer s H E hg hr => ?_
  exact ⟨_, (pss_cons (ps_set (i := 1) sc__law_right.nd rfl (by first | exact Or.inl rfl | exact Or.inr rfl) (pe_callB (ka_repr (K := W.K) hg (u64 hr) rfl) rfl T.m_repr (by decide +kernel) (pa_cons (pv 0) pa_nil)))
    (pss_cons (ps_set (i := 2) sc__law_right.nd rfl (by first | exact Or.inl rfl | exact Or.inr rfl) (pe_chain op_lt op_lt pe_int (pe_g I._law_symbols hg hr rfl T._law_symbols.mg T._law_symbols.fn.kp T._law_symbols.bd (pa_cons (pv 0) (pa_cons pe_int (pa_cons pe_bl pa_nil)))) pe_int))
    (pss_cons (ps_set (i := 3) sc__law_right.nd rfl (by first | exact Or.inl rfl | exact Or.inr rfl) (pe_lst (pa_cons (pe_g I.is_expression hg hr rfl T.is_expression.mg T.is_expression.fn.kp T.is_expression.bd (pa_cons (pv 0) pa_nil)) (pa_cons (pe_gK I.is_expression hg hr rfl T.is_expression.mg T.is_expression.fn.kp T.k_is_expression_thing (pk_cons (pv 0) pk_nil)) pa_nil))))
    (pss_one (ps_ret (pe_and (pe_cmpR (ka_eq (K := W.K) (u64 hr) rfl) (pe_callB (ka_repr (K := W.K) hg (u64 hr) rfl) rfl T.m_repr (by decide +kernel) (pa_cons (pv 3) pa_nil)) (pe_callB (ka_repr (K := W.K) hg (u64 hr) rfl) rfl T.m_repr (by decide +kernel) (pa_cons (pe_lst (pa_cons (pv 2) (pa_cons (pv 2) pa_nil))) pa_nil)) (nomark _)) (pe_one (pe_cmpR (ka_eq (K := W.K) (u64 hr) rfl) (pe_callB (ka_repr (K := W.K) hg (u64 hr) rfl) rfl T.m_repr (by decide +kernel) (pa_cons (pv 0) pa_nil)) (pv 1) (nomark _))))))))),
    (ss_seq (ss_set (se_repr (sa_cons se_var sa_nil)))
    (ss_seq (ss_set (se_chain opd_lt opd_lt se_int (se_g (sa_cons se_var (sa_cons se_int (sa_cons se_bl sa_nil)))) se_int))
    (ss_seq (ss_set (se_f (sf_lst (sa_cons (se_g (sa_cons se_var sa_nil)) (sa_cons (se_gK (sa_cons se_var sa_nil)) sa_nil)))))
    (ss_ret (se_andV (se_op opd_eqX (se_repr (sa_cons se_var sa_nil)) (se_repr (sa_cons (se_f (sf_lst (sa_cons se_var (sa_cons se_var sa_nil)))) sa_nil))) (se_op opd_eqX (se_repr (sa_cons se_var sa_nil)) se_var))))))⟩
theorem all (T : Tx W mg) : ∀ k, All P w base T k
  | 0 => ⟨fn_none rfl, fn_none rfl, fn_none rfl, fn_none rfl, fn_none rfl, fn_none rfl, fn_none rfl, fn_none rfl, fn_none rfl, fn_none rfl, fn_none rfl, fn_none rfl, fn_none rfl, fn_none rfl, fn_none rfl, fn_none rfl, fn_none rfl, fn_none rfl, fn_none rfl, fn_none rfl⟩
  | k + 1 => let I := all T k; ⟨ok_is_name T I, ok_is_dotted T I, ok_is_word T I, ok_is_member_word T I, ok_is_variable T I, ok_is_piece T I, ok_is_within T I, ok_is_expression T I, ok__law_draw T I, ok__law_is_name T I, ok__law_is_word T I, ok__law_is_variable T I, ok__law_is_member_word T I, ok__law_symbols T I, ok__law_odd T I, ok__law_tower T I, ok__law_bush T I, ok__law_expression T I, ok__law_bent T I, ok__law_right T I⟩
theorem ok__law_pen (T : Tx W mg) {k : Nat} : FnG P w W.K mg base (k + 1) T._law_pen.f T._law_pen.fd ["_law_script"] (SpPen W) := by
  refine fn_pen T._law_pen.fn sc__law_pen fun cdv A outer s H E hg hr => ?_
  exact (pss_one (ps_ret (pe_disp (pps_cons pe_str (pe_callTy (ka_list (K := W.K) rfl) rfl T.m_list (by decide +kernel) (pa_cons (pe_slice (ka_sl (K := W.K) rfl) (pv 0) po_none (po_some pe_int)) pa_nil)) (pps_cons pe_str pe_int (pps_cons pe_str pe_int pps_nil))) (by rfl) (by rfl) (fun z => by cases z) (by decide))))
theorem ok_law (T : Tx W mg) {k : Nat} (hk1 : 1 ≤ k) (I : All P w base T k) : FnG P w W.K mg base (k + 1) T.law.f T.law.fd ["_law_script"] (SpD W 1 (PhiF (defM 1 6 (m_law (cs k))))) := by
  have hpen := ok__law_pen (P := P) (w := w) (base := base) T (k := 0)
  refine fn_m (m := m_law (cs k)) T.law.fn sc_law rfl rfl fun cdv A outer s H E hg hr => ?_
  exact ⟨_, (pss_cons (ps_set (i := 1) sc_law.nd rfl (by first | exact Or.inl rfl | exact Or.inr rfl) (pe_g hpen hg (hr.mono hk1) rfl T._law_pen.mg T._law_pen.fn.kp T._law_pen.bd (pa_cons (pv 0) pa_nil)))
    (pss_cons (ps_for PassesOwn.never rfl (pi_range1 rfl T.m_range (pa_cons pe_int pa_nil)) (pg_name (i := 2) sc_law.nd rfl (by first | exact Or.inl rfl | exact Or.inr rfl)) (pss_cons (ps_set (i := 3) sc_law.nd rfl (by first | exact Or.inl rfl | exact Or.inr rfl) (pe_g I._law_expression hg hr rfl T._law_expression.mg T._law_expression.fn.kp T._law_expression.bd (pa_cons (pv 1) (pa_cons (pe_op (ka_add (K := W.K) rfl) pe_int (pe_g I._law_draw hg hr rfl T._law_draw.mg T._law_draw.fn.kp T._law_draw.bd (pa_cons (pv 1) (pa_cons pe_int pa_nil)))) pa_nil))))
    (pss_cons (ps_if (PW.pt (pw_or (pt_not (ka_tru (K := W.K) rfl (pe_g I._law_right hg hr rfl T._law_right.mg T._law_right.fn.kp T._law_right.bd (pa_cons (pv 3) pa_nil)) (by intro _; rfl))) (pw_or (pt_not (ka_tru (K := W.K) rfl (pe_g I._law_right hg hr rfl T._law_right.mg T._law_right.fn.kp T._law_right.bd (pa_cons (pe_g I._law_bent hg hr rfl T._law_bent.mg T._law_bent.fn.kp T._law_bent.bd (pa_cons (pv 1) (pa_cons (pv 3) pa_nil))) pa_nil)) (by intro _; rfl))) (pw_or1 (pt_not (ka_tru (K := W.K) rfl (pe_g I._law_right hg hr rfl T._law_right.mg T._law_right.fn.kp T._law_right.bd (pa_cons (pe_g I._law_odd hg hr rfl T._law_odd.mg T._law_odd.fn.kp T._law_odd.bd (pa_cons (pv 1) pa_nil)) pa_nil)) (by intro _; rfl))))))) (pss_one (ps_ret pe_bl)) pss_nil)
    (pss_one (ps_if (PW.pt (pw_or (pt_not (ka_tru (K := W.K) rfl (pe_g I._law_right hg hr rfl T._law_right.mg T._law_right.fn.kp T._law_right.bd (pa_cons (pe_tup (pa_cons pe_str (pa_cons (pv 3) pa_nil))) pa_nil)) (by intro _; rfl))) (pw_or (pt_not (ka_tru (K := W.K) rfl (pe_g I._law_right hg hr rfl T._law_right.mg T._law_right.fn.kp T._law_right.bd (pa_cons (pe_tup (pa_cons (pv 3) pa_nil)) pa_nil)) (by intro _; rfl))) (pw_or1 (pt_not (ka_tru (K := W.K) rfl (pe_g I._law_right hg hr rfl T._law_right.mg T._law_right.fn.kp T._law_right.bd (pa_cons (pe_lst (pa_cons (pv 3) pa_nil)) pa_nil)) (by intro _; rfl))))))) (pss_one (ps_ret pe_bl)) pss_nil)))))
    (pss_cons (ps_for PassesOwn.never rfl (ka_ptup (K := W.K) rfl (pe_tup (pa_cons pe_int (pa_cons pe_int (pa_cons pe_int (pa_cons pe_int pa_nil)))))) (pg_name (i := 4) sc_law.nd rfl (by first | exact Or.inl rfl | exact Or.inr rfl)) (pss_cons (ps_set (i := 3) sc_law.nd rfl (by first | exact Or.inl rfl | exact Or.inr rfl) (pe_g I._law_bush hg hr rfl T._law_bush.mg T._law_bush.fn.kp T._law_bush.bd (pa_cons (pv 4) (pa_cons pe_int pa_nil))))
    (pss_cons (ps_set (i := 5) sc_law.nd rfl (by first | exact Or.inl rfl | exact Or.inr rfl) (pe_lst (pa_cons (pe_g I.is_expression hg hr rfl T.is_expression.mg T.is_expression.fn.kp T.is_expression.bd (pa_cons (pv 3) pa_nil)) (pa_cons (pe_g I.is_expression hg hr rfl T.is_expression.mg T.is_expression.fn.kp T.is_expression.bd (pa_cons (pe_tup (pa_cons pe_str (pa_cons (pv 3) pa_nil))) pa_nil)) pa_nil))))
    (pss_one (ps_if (pt_cmpR (ka_ne (K := W.K) (u64 hr) rfl) (pe_callB (ka_repr (K := W.K) hg (u64 hr) rfl) rfl T.m_repr (by decide +kernel) (pa_cons (pv 5) pa_nil)) (pe_callB (ka_repr (K := W.K) hg (u64 hr) rfl) rfl T.m_repr (by decide +kernel) (pa_cons (pe_lst (pa_cons (pe_cmpR op_lt (pv 4) pe_int (nomark _)) (pa_cons (pe_cmpR op_lt (pv 4) pe_int (nomark _)) pa_nil))) pa_nil)) (nomark _)) (pss_one (ps_ret pe_bl)) pss_nil)))))
    (pss_cons (ps_for PassesOwn.never rfl (ka_ptup (K := W.K) rfl (pe_tup (pa_cons pe_int (pa_cons pe_int (pa_cons pe_int pa_nil))))) (pg_name (i := 4) sc_law.nd rfl (by first | exact Or.inl rfl | exact Or.inr rfl)) (pss_cons (ps_set (i := 5) sc_law.nd rfl (by first | exact Or.inl rfl | exact Or.inr rfl) (pe_lst (pa_cons (pe_g I.is_expression hg hr rfl T.is_expression.mg T.is_expression.fn.kp T.is_expression.bd (pa_cons (pe_g I._law_tower hg hr rfl T._law_tower.mg T._law_tower.fn.kp T._law_tower.bd (pa_cons (pv 4) pa_nil)) pa_nil)) (pa_cons (pe_g I.is_expression hg hr rfl T.is_expression.mg T.is_expression.fn.kp T.is_expression.bd (pa_cons (pe_tup (pa_cons pe_str (pa_cons (pe_g I._law_tower hg hr rfl T._law_tower.mg T._law_tower.fn.kp T._law_tower.bd (pa_cons (pv 4) pa_nil)) pa_nil))) pa_nil)) pa_nil))))
    (pss_one (ps_if (pt_cmpR (ka_ne (K := W.K) (u64 hr) rfl) (pe_callB (ka_repr (K := W.K) hg (u64 hr) rfl) rfl T.m_repr (by decide +kernel) (pa_cons (pv 5) pa_nil)) (pe_callB (ka_repr (K := W.K) hg (u64 hr) rfl) rfl T.m_repr (by decide +kernel) (pa_cons (pe_lst (pa_cons (pe_cmpR op_lt (pv 4) pe_int (nomark _)) (pa_cons (pe_cmpR op_lt (pv 4) pe_int (nomark _)) pa_nil))) pa_nil)) (nomark _)) (pss_one (ps_ret pe_bl)) pss_nil))))
    (pss_one (ps_ret (pe_and (pe_cmpR op_isU (pe_g I.is_expression hg hr rfl T.is_expression.mg T.is_expression.fn.kp T.is_expression.bd (pa_cons pe_str pa_nil)) pe_bl (nomark _)) (pe_and (pe_cmpR op_isU (pe_g I.is_expression hg hr rfl T.is_expression.mg T.is_expression.fn.kp T.is_expression.bd (pa_cons (pe_tup (pa_cons pe_str pa_nil)) pa_nil)) pe_bl (nomark _)) (pe_one (pe_cmpR op_isU (pe_g I.is_expression hg hr rfl T.is_expression.mg T.is_expression.fn.kp T.is_expression.bd (pa_cons (pe_tup (pa_cons pe_str pa_nil)) pa_nil)) pe_bl (nomark _))))))))))),
    (ss_seq ss_pen
    (ss_seq (ss_for (si_rng (sa_cons se_int sa_nil)) (ss_seq (ss_set (se_gp (sa_cons (se_op opd_add se_int (se_gp (sa_cons se_int sa_nil))) sa_nil)))
    (ss_seq (ss_if (st_or (st_not (st_tru (se_g (sa_cons se_var sa_nil)))) (st_or (st_not (st_tru (se_g (sa_cons (se_gp (sa_cons se_var sa_nil)) sa_nil)))) (st_not (st_tru (se_g (sa_cons (se_gp sa_nil) sa_nil)))))) (ss_ret se_bl) ss_next)
    (ss_if (st_or (st_not (st_tru (se_g (sa_cons (se_tup (sa_cons se_str (sa_cons se_var sa_nil))) sa_nil)))) (st_or (st_not (st_tru (se_g (sa_cons (se_tup (sa_cons se_var sa_nil)) sa_nil)))) (st_not (st_tru (se_g (sa_cons (se_f (sf_lst (sa_cons se_var sa_nil))) sa_nil)))))) (ss_ret se_bl) ss_next))))
    (ss_seq (ss_for (si_tup (se_tup (sa_cons se_int (sa_cons se_int (sa_cons se_int (sa_cons se_int sa_nil)))))) (ss_seq (ss_set (se_g (sa_cons se_var (sa_cons se_int sa_nil))))
    (ss_seq (ss_set (se_f (sf_lst (sa_cons (se_g (sa_cons se_var sa_nil)) (sa_cons (se_g (sa_cons (se_tup (sa_cons se_str (sa_cons se_var sa_nil))) sa_nil)) sa_nil)))))
    (ss_if (st_test (se_op opd_neX (se_repr (sa_cons se_var sa_nil)) (se_repr (sa_cons (se_f (sf_lst (sa_cons (se_op opd_lt se_var se_int) (sa_cons (se_op opd_lt se_var se_int) sa_nil)))) sa_nil)))) (ss_ret se_bl) ss_next))))
    (ss_seq (ss_for (si_tup (se_tup (sa_cons se_int (sa_cons se_int (sa_cons se_int sa_nil))))) (ss_seq (ss_set (se_f (sf_lst (sa_cons (se_g (sa_cons (se_g (sa_cons se_var sa_nil)) sa_nil)) (sa_cons (se_g (sa_cons (se_tup (sa_cons se_str (sa_cons (se_g (sa_cons se_var sa_nil)) sa_nil))) sa_nil)) sa_nil)))))
    (ss_if (st_test (se_op opd_neX (se_repr (sa_cons se_var sa_nil)) (se_repr (sa_cons (se_f (sf_lst (sa_cons (se_op opd_lt se_var se_int) (sa_cons (se_op opd_lt se_var se_int) sa_nil)))) sa_nil)))) (ss_ret se_bl) ss_next)))
    (ss_ret (se_andV (se_op opd_is (se_g (sa_cons se_str sa_nil)) se_bl) (se_andV (se_op opd_is (se_g (sa_cons (se_tup (sa_cons se_str sa_nil)) sa_nil)) se_bl) (se_op opd_is (se_g (sa_cons (se_tup (sa_cons se_str sa_nil)) sa_nil)) se_bl))))))))⟩
abbrev lawF : Fm := defM 1 6 (m_law (cs 20))
theorem facts {P : Program} {w : World} {K : PySem.W.Frag} {h : Heap} {mg : Str → Option Value} {fa : Addr} (KX : K.In h) (G : h.Ns mainGlobals mg) (hfa : mg "law" = some (.ref fa))
    {fx_is_name : Addr} {od_is_name an_is_name : Option Addr} {sl_is_name : Array (Option Value)} {oc_is_name kV_is_name dc_is_name pm_is_name cd_is_name ct_is_name : Value}
    {fx_is_dotted : Addr} {od_is_dotted an_is_dotted : Option Addr} {sl_is_dotted : Array (Option Value)} {oc_is_dotted kV_is_dotted dc_is_dotted pm_is_dotted cd_is_dotted ct_is_dotted : Value}
    {fx_is_word : Addr} {od_is_word an_is_word : Option Addr} {sl_is_word : Array (Option Value)} {oc_is_word kV_is_word dc_is_word pm_is_word cd_is_word ct_is_word : Value}
    {fx_is_member_word : Addr} {od_is_member_word an_is_member_word : Option Addr} {sl_is_member_word : Array (Option Value)} {oc_is_member_word kV_is_member_word dc_is_member_word pm_is_member_word cd_is_member_word ct_is_member_word : Value}
    {fx_is_variable : Addr} {od_is_variable an_is_variable : Option Addr} {sl_is_variable : Array (Option Value)} {oc_is_variable kV_is_variable dc_is_variable pm_is_variable cd_is_variable ct_is_variable : Value}
    {fx_is_piece : Addr} {od_is_piece an_is_piece : Option Addr} {sl_is_piece : Array (Option Value)} {oc_is_piece kV_is_piece dc_is_piece pm_is_piece cd_is_piece ct_is_piece : Value}
    {fx_is_within : Addr} {od_is_within an_is_within : Option Addr} {sl_is_within : Array (Option Value)} {oc_is_within kV_is_within dc_is_within pm_is_within cd_is_within ct_is_within : Value}
    {fx_is_expression : Addr} {od_is_expression an_is_expression : Option Addr} {sl_is_expression : Array (Option Value)} {oc_is_expression kV_is_expression dc_is_expression pm_is_expression cd_is_expression ct_is_expression : Value}
    {fx__law_pen : Addr} {od__law_pen an__law_pen : Option Addr} {sl__law_pen : Array (Option Value)} {oc__law_pen kV__law_pen dc__law_pen pm__law_pen cd__law_pen ct__law_pen : Value}
    {fx__law_draw : Addr} {od__law_draw an__law_draw : Option Addr} {sl__law_draw : Array (Option Value)} {oc__law_draw kV__law_draw dc__law_draw pm__law_draw cd__law_draw ct__law_draw : Value}
    {fx__law_is_name : Addr} {od__law_is_name an__law_is_name : Option Addr} {sl__law_is_name : Array (Option Value)} {oc__law_is_name kV__law_is_name dc__law_is_name pm__law_is_name cd__law_is_name ct__law_is_name : Value}
    {fx__law_is_word : Addr} {od__law_is_word an__law_is_word : Option Addr} {sl__law_is_word : Array (Option Value)} {oc__law_is_word kV__law_is_word dc__law_is_word pm__law_is_word cd__law_is_word ct__law_is_word : Value}
    {fx__law_is_variable : Addr} {od__law_is_variable an__law_is_variable : Option Addr} {sl__law_is_variable : Array (Option Value)} {oc__law_is_variable kV__law_is_variable dc__law_is_variable pm__law_is_variable cd__law_is_variable ct__law_is_variable : Value}
    {fx__law_is_member_word : Addr} {od__law_is_member_word an__law_is_member_word : Option Addr} {sl__law_is_member_word : Array (Option Value)} {oc__law_is_member_word kV__law_is_member_word dc__law_is_member_word pm__law_is_member_word cd__law_is_member_word ct__law_is_member_word : Value}
    {fx__law_symbols : Addr} {od__law_symbols an__law_symbols : Option Addr} {sl__law_symbols : Array (Option Value)} {oc__law_symbols kV__law_symbols dc__law_symbols pm__law_symbols cd__law_symbols ct__law_symbols : Value}
    {fx__law_odd : Addr} {od__law_odd an__law_odd : Option Addr} {sl__law_odd : Array (Option Value)} {oc__law_odd kV__law_odd dc__law_odd pm__law_odd cd__law_odd ct__law_odd : Value}
    {fx__law_tower : Addr} {od__law_tower an__law_tower : Option Addr} {sl__law_tower : Array (Option Value)} {oc__law_tower kV__law_tower dc__law_tower pm__law_tower cd__law_tower ct__law_tower : Value}
    {fx__law_bush : Addr} {od__law_bush an__law_bush : Option Addr} {sl__law_bush : Array (Option Value)} {oc__law_bush kV__law_bush dc__law_bush pm__law_bush cd__law_bush ct__law_bush : Value}
    {fx__law_expression : Addr} {od__law_expression an__law_expression : Option Addr} {sl__law_expression : Array (Option Value)} {oc__law_expression kV__law_expression dc__law_expression pm__law_expression cd__law_expression ct__law_expression : Value}
    {fx__law_bent : Addr} {od__law_bent an__law_bent : Option Addr} {sl__law_bent : Array (Option Value)} {oc__law_bent kV__law_bent dc__law_bent pm__law_bent cd__law_bent ct__law_bent : Value}
    {fx__law_right : Addr} {od__law_right an__law_right : Option Addr} {sl__law_right : Array (Option Value)} {oc__law_right kV__law_right dc__law_right pm__law_right cd__law_right ct__law_right : Value}
    {fx_law : Addr} {od_law an_law : Option Addr} {sl_law : Array (Option Value)} {oc_law kV_law dc_law pm_law cd_law ct_law : Value}
    {tk_LONGEST_NAME : _}
    {tk_LONGEST_VARIABLE : _}
    {tk_SMALL : _}
    {tk_LARGE : _}
    {tk_DIGITS : _}
    {tk_TAKEN0 : _} {tk_TAKEN1 : _} {fx_TAKEN : Addr} {od_TAKEN : Option Addr} {sl_TAKEN : Array (Option Value)} {n_TAKEN : Nat}
    {tk_MOST_SYMBOLS : _}
    {tk_MOST_DEEP : _}
    {tk_MOST_PARTS : _}
    (a_is_name : PySem.W.nsIn K mainGlobals "is_name" = some (some (.ref fx_is_name)))
    (l_is_name : K.lookup fx_is_name = some ⟨oc_is_name, od_is_name, .func (PySem.W.fnOf "is_name" "is_name" (defArgs s_is_name) (defBody s_is_name) (defScope s_is_name) .none kV_is_name dc_is_name pm_is_name an_is_name cd_is_name ct_is_name), sl_is_name⟩)
    (c_is_name : PySem.W.codeIn K cd_is_name "is_name" = true)
    (k_is_name : PySem.W.keepIn K (.ref fx_is_name) = true)
    (a_is_dotted : PySem.W.nsIn K mainGlobals "is_dotted" = some (some (.ref fx_is_dotted)))
    (l_is_dotted : K.lookup fx_is_dotted = some ⟨oc_is_dotted, od_is_dotted, .func (PySem.W.fnOf "is_dotted" "is_dotted" (defArgs s_is_dotted) (defBody s_is_dotted) (defScope s_is_dotted) .none kV_is_dotted dc_is_dotted pm_is_dotted an_is_dotted cd_is_dotted ct_is_dotted), sl_is_dotted⟩)
    (c_is_dotted : PySem.W.codeIn K cd_is_dotted "is_dotted" = true)
    (k_is_dotted : PySem.W.keepIn K (.ref fx_is_dotted) = true)
    (a_is_word : PySem.W.nsIn K mainGlobals "is_word" = some (some (.ref fx_is_word)))
    (l_is_word : K.lookup fx_is_word = some ⟨oc_is_word, od_is_word, .func (PySem.W.fnOf "is_word" "is_word" (defArgs s_is_word) (defBody s_is_word) (defScope s_is_word) .none kV_is_word dc_is_word pm_is_word an_is_word cd_is_word ct_is_word), sl_is_word⟩)
    (c_is_word : PySem.W.codeIn K cd_is_word "is_word" = true)
    (k_is_word : PySem.W.keepIn K (.ref fx_is_word) = true)
    (a_is_member_word : PySem.W.nsIn K mainGlobals "is_member_word" = some (some (.ref fx_is_member_word)))
    (l_is_member_word : K.lookup fx_is_member_word = some ⟨oc_is_member_word, od_is_member_word, .func (PySem.W.fnOf "is_member_word" "is_member_word" (defArgs s_is_member_word) (defBody s_is_member_word) (defScope s_is_member_word) .none kV_is_member_word dc_is_member_word pm_is_member_word an_is_member_word cd_is_member_word ct_is_member_word), sl_is_member_word⟩)
    (c_is_member_word : PySem.W.codeIn K cd_is_member_word "is_member_word" = true)
    (k_is_member_word : PySem.W.keepIn K (.ref fx_is_member_word) = true)
    (a_is_variable : PySem.W.nsIn K mainGlobals "is_variable" = some (some (.ref fx_is_variable)))
    (l_is_variable : K.lookup fx_is_variable = some ⟨oc_is_variable, od_is_variable, .func (PySem.W.fnOf "is_variable" "is_variable" (defArgs s_is_variable) (defBody s_is_variable) (defScope s_is_variable) .none kV_is_variable dc_is_variable pm_is_variable an_is_variable cd_is_variable ct_is_variable), sl_is_variable⟩)
    (c_is_variable : PySem.W.codeIn K cd_is_variable "is_variable" = true)
    (k_is_variable : PySem.W.keepIn K (.ref fx_is_variable) = true)
    (a_is_piece : PySem.W.nsIn K mainGlobals "is_piece" = some (some (.ref fx_is_piece)))
    (l_is_piece : K.lookup fx_is_piece = some ⟨oc_is_piece, od_is_piece, .func (PySem.W.fnOf "is_piece" "is_piece" (defArgs s_is_piece) (defBody s_is_piece) (defScope s_is_piece) .none kV_is_piece dc_is_piece pm_is_piece an_is_piece cd_is_piece ct_is_piece), sl_is_piece⟩)
    (c_is_piece : PySem.W.codeIn K cd_is_piece "is_piece" = true)
    (k_is_piece : PySem.W.keepIn K (.ref fx_is_piece) = true)
    (a_is_within : PySem.W.nsIn K mainGlobals "is_within" = some (some (.ref fx_is_within)))
    (l_is_within : K.lookup fx_is_within = some ⟨oc_is_within, od_is_within, .func (PySem.W.fnOf "is_within" "is_within" (defArgs s_is_within) (defBody s_is_within) (defScope s_is_within) .none kV_is_within dc_is_within pm_is_within an_is_within cd_is_within ct_is_within), sl_is_within⟩)
    (c_is_within : PySem.W.codeIn K cd_is_within "is_within" = true)
    (k_is_within : PySem.W.keepIn K (.ref fx_is_within) = true)
    (a_is_expression : PySem.W.nsIn K mainGlobals "is_expression" = some (some (.ref fx_is_expression)))
    (l_is_expression : K.lookup fx_is_expression = some ⟨oc_is_expression, od_is_expression, .func (PySem.W.fnOf "is_expression" "is_expression" (defArgs s_is_expression) (defBody s_is_expression) (defScope s_is_expression) .none kV_is_expression dc_is_expression pm_is_expression an_is_expression cd_is_expression ct_is_expression), sl_is_expression⟩)
    (c_is_expression : PySem.W.codeIn K cd_is_expression "is_expression" = true)
    (k_is_expression : PySem.W.keepIn K (.ref fx_is_expression) = true)
    (a__law_pen : PySem.W.nsIn K mainGlobals "_law_pen" = some (some (.ref fx__law_pen)))
    (l__law_pen : K.lookup fx__law_pen = some ⟨oc__law_pen, od__law_pen, .func (PySem.W.fnOf "_law_pen" "_law_pen" (defArgs s__law_pen) (defBody s__law_pen) (defScope s__law_pen) .none kV__law_pen dc__law_pen pm__law_pen an__law_pen cd__law_pen ct__law_pen), sl__law_pen⟩)
    (c__law_pen : PySem.W.codeIn K cd__law_pen "_law_pen" = true)
    (k__law_pen : PySem.W.keepIn K (.ref fx__law_pen) = true)
    (a__law_draw : PySem.W.nsIn K mainGlobals "_law_draw" = some (some (.ref fx__law_draw)))
    (l__law_draw : K.lookup fx__law_draw = some ⟨oc__law_draw, od__law_draw, .func (PySem.W.fnOf "_law_draw" "_law_draw" (defArgs s__law_draw) (defBody s__law_draw) (defScope s__law_draw) .none kV__law_draw dc__law_draw pm__law_draw an__law_draw cd__law_draw ct__law_draw), sl__law_draw⟩)
    (c__law_draw : PySem.W.codeIn K cd__law_draw "_law_draw" = true)
    (k__law_draw : PySem.W.keepIn K (.ref fx__law_draw) = true)
    (a__law_is_name : PySem.W.nsIn K mainGlobals "_law_is_name" = some (some (.ref fx__law_is_name)))
    (l__law_is_name : K.lookup fx__law_is_name = some ⟨oc__law_is_name, od__law_is_name, .func (PySem.W.fnOf "_law_is_name" "_law_is_name" (defArgs s__law_is_name) (defBody s__law_is_name) (defScope s__law_is_name) .none kV__law_is_name dc__law_is_name pm__law_is_name an__law_is_name cd__law_is_name ct__law_is_name), sl__law_is_name⟩)
    (c__law_is_name : PySem.W.codeIn K cd__law_is_name "_law_is_name" = true)
    (k__law_is_name : PySem.W.keepIn K (.ref fx__law_is_name) = true)
    (a__law_is_word : PySem.W.nsIn K mainGlobals "_law_is_word" = some (some (.ref fx__law_is_word)))
    (l__law_is_word : K.lookup fx__law_is_word = some ⟨oc__law_is_word, od__law_is_word, .func (PySem.W.fnOf "_law_is_word" "_law_is_word" (defArgs s__law_is_word) (defBody s__law_is_word) (defScope s__law_is_word) .none kV__law_is_word dc__law_is_word pm__law_is_word an__law_is_word cd__law_is_word ct__law_is_word), sl__law_is_word⟩)
    (c__law_is_word : PySem.W.codeIn K cd__law_is_word "_law_is_word" = true)
    (k__law_is_word : PySem.W.keepIn K (.ref fx__law_is_word) = true)
    (a__law_is_variable : PySem.W.nsIn K mainGlobals "_law_is_variable" = some (some (.ref fx__law_is_variable)))
    (l__law_is_variable : K.lookup fx__law_is_variable = some ⟨oc__law_is_variable, od__law_is_variable, .func (PySem.W.fnOf "_law_is_variable" "_law_is_variable" (defArgs s__law_is_variable) (defBody s__law_is_variable) (defScope s__law_is_variable) .none kV__law_is_variable dc__law_is_variable pm__law_is_variable an__law_is_variable cd__law_is_variable ct__law_is_variable), sl__law_is_variable⟩)
    (c__law_is_variable : PySem.W.codeIn K cd__law_is_variable "_law_is_variable" = true)
    (k__law_is_variable : PySem.W.keepIn K (.ref fx__law_is_variable) = true)
    (a__law_is_member_word : PySem.W.nsIn K mainGlobals "_law_is_member_word" = some (some (.ref fx__law_is_member_word)))
    (l__law_is_member_word : K.lookup fx__law_is_member_word = some ⟨oc__law_is_member_word, od__law_is_member_word, .func (PySem.W.fnOf "_law_is_member_word" "_law_is_member_word" (defArgs s__law_is_member_word) (defBody s__law_is_member_word) (defScope s__law_is_member_word) .none kV__law_is_member_word dc__law_is_member_word pm__law_is_member_word an__law_is_member_word cd__law_is_member_word ct__law_is_member_word), sl__law_is_member_word⟩)
    (c__law_is_member_word : PySem.W.codeIn K cd__law_is_member_word "_law_is_member_word" = true)
    (k__law_is_member_word : PySem.W.keepIn K (.ref fx__law_is_member_word) = true)
    (a__law_symbols : PySem.W.nsIn K mainGlobals "_law_symbols" = some (some (.ref fx__law_symbols)))
    (l__law_symbols : K.lookup fx__law_symbols = some ⟨oc__law_symbols, od__law_symbols, .func (PySem.W.fnOf "_law_symbols" "_law_symbols" (defArgs s__law_symbols) (defBody s__law_symbols) (defScope s__law_symbols) .none kV__law_symbols dc__law_symbols pm__law_symbols an__law_symbols cd__law_symbols ct__law_symbols), sl__law_symbols⟩)
    (c__law_symbols : PySem.W.codeIn K cd__law_symbols "_law_symbols" = true)
    (k__law_symbols : PySem.W.keepIn K (.ref fx__law_symbols) = true)
    (a__law_odd : PySem.W.nsIn K mainGlobals "_law_odd" = some (some (.ref fx__law_odd)))
    (l__law_odd : K.lookup fx__law_odd = some ⟨oc__law_odd, od__law_odd, .func (PySem.W.fnOf "_law_odd" "_law_odd" (defArgs s__law_odd) (defBody s__law_odd) (defScope s__law_odd) .none kV__law_odd dc__law_odd pm__law_odd an__law_odd cd__law_odd ct__law_odd), sl__law_odd⟩)
    (c__law_odd : PySem.W.codeIn K cd__law_odd "_law_odd" = true)
    (k__law_odd : PySem.W.keepIn K (.ref fx__law_odd) = true)
    (a__law_tower : PySem.W.nsIn K mainGlobals "_law_tower" = some (some (.ref fx__law_tower)))
    (l__law_tower : K.lookup fx__law_tower = some ⟨oc__law_tower, od__law_tower, .func (PySem.W.fnOf "_law_tower" "_law_tower" (defArgs s__law_tower) (defBody s__law_tower) (defScope s__law_tower) .none kV__law_tower dc__law_tower pm__law_tower an__law_tower cd__law_tower ct__law_tower), sl__law_tower⟩)
    (c__law_tower : PySem.W.codeIn K cd__law_tower "_law_tower" = true)
    (k__law_tower : PySem.W.keepIn K (.ref fx__law_tower) = true)
    (a__law_bush : PySem.W.nsIn K mainGlobals "_law_bush" = some (some (.ref fx__law_bush)))
    (l__law_bush : K.lookup fx__law_bush = some ⟨oc__law_bush, od__law_bush, .func (PySem.W.fnOf "_law_bush" "_law_bush" (defArgs s__law_bush) (defBody s__law_bush) (defScope s__law_bush) .none kV__law_bush dc__law_bush pm__law_bush an__law_bush cd__law_bush ct__law_bush), sl__law_bush⟩)
    (c__law_bush : PySem.W.codeIn K cd__law_bush "_law_bush" = true)
    (k__law_bush : PySem.W.keepIn K (.ref fx__law_bush) = true)
    (a__law_expression : PySem.W.nsIn K mainGlobals "_law_expression" = some (some (.ref fx__law_expression)))
    (l__law_expression : K.lookup fx__law_expression = some ⟨oc__law_expression, od__law_expression, .func (PySem.W.fnOf "_law_expression" "_law_expression" (defArgs s__law_expression) (defBody s__law_expression) (defScope s__law_expression) .none kV__law_expression dc__law_expression pm__law_expression an__law_expression cd__law_expression ct__law_expression), sl__law_expression⟩)
    (c__law_expression : PySem.W.codeIn K cd__law_expression "_law_expression" = true)
    (k__law_expression : PySem.W.keepIn K (.ref fx__law_expression) = true)
    (a__law_bent : PySem.W.nsIn K mainGlobals "_law_bent" = some (some (.ref fx__law_bent)))
    (l__law_bent : K.lookup fx__law_bent = some ⟨oc__law_bent, od__law_bent, .func (PySem.W.fnOf "_law_bent" "_law_bent" (defArgs s__law_bent) (defBody s__law_bent) (defScope s__law_bent) .none kV__law_bent dc__law_bent pm__law_bent an__law_bent cd__law_bent ct__law_bent), sl__law_bent⟩)
    (c__law_bent : PySem.W.codeIn K cd__law_bent "_law_bent" = true)
    (k__law_bent : PySem.W.keepIn K (.ref fx__law_bent) = true)
    (a__law_right : PySem.W.nsIn K mainGlobals "_law_right" = some (some (.ref fx__law_right)))
    (l__law_right : K.lookup fx__law_right = some ⟨oc__law_right, od__law_right, .func (PySem.W.fnOf "_law_right" "_law_right" (defArgs s__law_right) (defBody s__law_right) (defScope s__law_right) .none kV__law_right dc__law_right pm__law_right an__law_right cd__law_right ct__law_right), sl__law_right⟩)
    (c__law_right : PySem.W.codeIn K cd__law_right "_law_right" = true)
    (k__law_right : PySem.W.keepIn K (.ref fx__law_right) = true)
    (a_law : PySem.W.nsIn K mainGlobals "law" = some (some (.ref fx_law)))
    (l_law : K.lookup fx_law = some ⟨oc_law, od_law, .func (PySem.W.fnOf "law" "law" (defArgs s_law) (defBody s_law) (defScope s_law) .none kV_law dc_law pm_law an_law cd_law ct_law), sl_law⟩)
    (c_law : PySem.W.codeIn K cd_law "law" = true)
    (k_law : PySem.W.keepIn K (.ref fx_law) = true)
    (z_range : PySem.W.nsIn K mainGlobals "range" = some none)
    (z_repr : PySem.W.nsIn K mainGlobals "repr" = some none)
    (z_all : PySem.W.nsIn K mainGlobals "all" = some none)
    (z_isinstance : PySem.W.nsIn K mainGlobals "isinstance" = some none)
    (z_str : PySem.W.nsIn K mainGlobals "str" = some none)
    (z_len : PySem.W.nsIn K mainGlobals "len" = some none)
    (z_list : PySem.W.nsIn K mainGlobals "list" = some none)
    (z_int : PySem.W.nsIn K mainGlobals "int" = some none)
    (z_tuple : PySem.W.nsIn K mainGlobals "tuple" = some none)
    (z_abs : PySem.W.nsIn K mainGlobals "abs" = some none)
    (z_min : PySem.W.nsIn K mainGlobals "min" = some none)
    (a_LONGEST_NAME : PySem.W.nsIn K mainGlobals "LONGEST_NAME" = some (some (.int 8 tk_LONGEST_NAME)))
    (a_LONGEST_VARIABLE : PySem.W.nsIn K mainGlobals "LONGEST_VARIABLE" = some (some (.int 4 tk_LONGEST_VARIABLE)))
    (a_SMALL : PySem.W.nsIn K mainGlobals "SMALL" = some (some (.str "abcdefghijklmnopqrstuvwxyz" tk_SMALL)))
    (a_LARGE : PySem.W.nsIn K mainGlobals "LARGE" = some (some (.str "ABCDEFGHIJKLMNOPQRSTUVWXYZ" tk_LARGE)))
    (a_DIGITS : PySem.W.nsIn K mainGlobals "DIGITS" = some (some (.str "0123456789" tk_DIGITS)))
    (a_TAKEN : PySem.W.nsIn K mainGlobals "TAKEN" = some (some (.ref fx_TAKEN)))
    (l_TAKEN : K.lookup fx_TAKEN = some ⟨.type "tuple", od_TAKEN, .seq #[.str "self" tk_TAKEN0, .str "head" tk_TAKEN1] n_TAKEN, sl_TAKEN⟩)
    (a_MOST_SYMBOLS : PySem.W.nsIn K mainGlobals "MOST_SYMBOLS" = some (some (.int 40 tk_MOST_SYMBOLS)))
    (a_MOST_DEEP : PySem.W.nsIn K mainGlobals "MOST_DEEP" = some (some (.int 6 tk_MOST_DEEP)))
    (a_MOST_PARTS : PySem.W.nsIn K mainGlobals "MOST_PARTS" = some (some (.int 3 tk_MOST_PARTS))) :
    ∃ fd : FuncData, (∀ (s : Shared) (v : Value), BindsTo s fd ⟨[v], []⟩ [("_law_script", v)]) ∧ ∀ base : Heap, K.In base → base.Ns mainGlobals mg → FnG P w K mg base 21 fa fd ["_law_script"] (SpD ⟨K, fun _ => 0⟩ 1 (PhiF lawF)) := by
  have e := hfa.symm.trans (PySem.W.mg_of KX G a_law)
  cases e
  let T : Tx ⟨K, fun _ => 0⟩ mg := {
    is_name := ⟨_, _, fun_mk (st := s_is_name) l_is_name c_is_name k_is_name, PySem.W.mg_of KX G a_is_name, (fun_mk (st := s_is_name) l_is_name c_is_name k_is_name).binds (ps := ["thing"]) fun _ _ _ _ _ _ us hl => match us, hl with | [_], _ => rfl⟩
    is_dotted := ⟨_, _, fun_mk (st := s_is_dotted) l_is_dotted c_is_dotted k_is_dotted, PySem.W.mg_of KX G a_is_dotted, (fun_mk (st := s_is_dotted) l_is_dotted c_is_dotted k_is_dotted).binds (ps := ["thing", "many"]) fun _ _ _ _ _ _ us hl => match us, hl with | [_, _], _ => rfl⟩
    is_word := ⟨_, _, fun_mk (st := s_is_word) l_is_word c_is_word k_is_word, PySem.W.mg_of KX G a_is_word, (fun_mk (st := s_is_word) l_is_word c_is_word k_is_word).binds (ps := ["thing"]) fun _ _ _ _ _ _ us hl => match us, hl with | [_], _ => rfl⟩
    is_member_word := ⟨_, _, fun_mk (st := s_is_member_word) l_is_member_word c_is_member_word k_is_member_word, PySem.W.mg_of KX G a_is_member_word, (fun_mk (st := s_is_member_word) l_is_member_word c_is_member_word k_is_member_word).binds (ps := ["thing"]) fun _ _ _ _ _ _ us hl => match us, hl with | [_], _ => rfl⟩
    is_variable := ⟨_, _, fun_mk (st := s_is_variable) l_is_variable c_is_variable k_is_variable, PySem.W.mg_of KX G a_is_variable, (fun_mk (st := s_is_variable) l_is_variable c_is_variable k_is_variable).binds (ps := ["thing"]) fun _ _ _ _ _ _ us hl => match us, hl with | [_], _ => rfl⟩
    is_piece := ⟨_, _, fun_mk (st := s_is_piece) l_is_piece c_is_piece k_is_piece, PySem.W.mg_of KX G a_is_piece, (fun_mk (st := s_is_piece) l_is_piece c_is_piece k_is_piece).binds (ps := ["thing", "members"]) fun _ _ _ _ _ _ us hl => match us, hl with | [_, _], _ => rfl⟩
    is_within := ⟨_, _, fun_mk (st := s_is_within) l_is_within c_is_within k_is_within, PySem.W.mg_of KX G a_is_within, (fun_mk (st := s_is_within) l_is_within c_is_within k_is_within).binds (ps := ["thing", "members"]) fun _ _ _ _ _ _ us hl => match us, hl with | [_, _], _ => rfl⟩
    is_expression := ⟨_, _, fun_mk (st := s_is_expression) l_is_expression c_is_expression k_is_expression, PySem.W.mg_of KX G a_is_expression, (fun_mk (st := s_is_expression) l_is_expression c_is_expression k_is_expression).binds (ps := ["thing"]) fun _ _ _ _ _ _ us hl => match us, hl with | [_], _ => rfl⟩
    _law_pen := ⟨_, _, fun_mk (st := s__law_pen) l__law_pen c__law_pen k__law_pen, PySem.W.mg_of KX G a__law_pen, (fun_mk (st := s__law_pen) l__law_pen c__law_pen k__law_pen).binds (ps := ["_law_script"]) fun _ _ _ _ _ _ us hl => match us, hl with | [_], _ => rfl⟩
    _law_draw := ⟨_, _, fun_mk (st := s__law_draw) l__law_draw c__law_draw k__law_draw, PySem.W.mg_of KX G a__law_draw, (fun_mk (st := s__law_draw) l__law_draw c__law_draw k__law_draw).binds (ps := ["_law_pen_here", "_law_many"]) fun _ _ _ _ _ _ us hl => match us, hl with | [_, _], _ => rfl⟩
    _law_is_name := ⟨_, _, fun_mk (st := s__law_is_name) l__law_is_name c__law_is_name k__law_is_name, PySem.W.mg_of KX G a__law_is_name, (fun_mk (st := s__law_is_name) l__law_is_name c__law_is_name k__law_is_name).binds (ps := ["_law_item"]) fun _ _ _ _ _ _ us hl => match us, hl with | [_], _ => rfl⟩
    _law_is_word := ⟨_, _, fun_mk (st := s__law_is_word) l__law_is_word c__law_is_word k__law_is_word, PySem.W.mg_of KX G a__law_is_word, (fun_mk (st := s__law_is_word) l__law_is_word c__law_is_word k__law_is_word).binds (ps := ["_law_item"]) fun _ _ _ _ _ _ us hl => match us, hl with | [_], _ => rfl⟩
    _law_is_variable := ⟨_, _, fun_mk (st := s__law_is_variable) l__law_is_variable c__law_is_variable k__law_is_variable, PySem.W.mg_of KX G a__law_is_variable, (fun_mk (st := s__law_is_variable) l__law_is_variable c__law_is_variable k__law_is_variable).binds (ps := ["_law_item"]) fun _ _ _ _ _ _ us hl => match us, hl with | [_], _ => rfl⟩
    _law_is_member_word := ⟨_, _, fun_mk (st := s__law_is_member_word) l__law_is_member_word c__law_is_member_word k__law_is_member_word, PySem.W.mg_of KX G a__law_is_member_word, (fun_mk (st := s__law_is_member_word) l__law_is_member_word c__law_is_member_word k__law_is_member_word).binds (ps := ["_law_item"]) fun _ _ _ _ _ _ us hl => match us, hl with | [_], _ => rfl⟩
    _law_symbols := ⟨_, _, fun_mk (st := s__law_symbols) l__law_symbols c__law_symbols k__law_symbols, PySem.W.mg_of KX G a__law_symbols, (fun_mk (st := s__law_symbols) l__law_symbols c__law_symbols k__law_symbols).binds (ps := ["_law_item", "_law_deep", "_law_is_more"]) fun _ _ _ _ _ _ us hl => match us, hl with | [_, _, _], _ => rfl⟩
    _law_odd := ⟨_, _, fun_mk (st := s__law_odd) l__law_odd c__law_odd k__law_odd, PySem.W.mg_of KX G a__law_odd, (fun_mk (st := s__law_odd) l__law_odd c__law_odd k__law_odd).binds (ps := ["_law_pen_here"]) fun _ _ _ _ _ _ us hl => match us, hl with | [_], _ => rfl⟩
    _law_tower := ⟨_, _, fun_mk (st := s__law_tower) l__law_tower c__law_tower k__law_tower, PySem.W.mg_of KX G a__law_tower, (fun_mk (st := s__law_tower) l__law_tower c__law_tower k__law_tower).binds (ps := ["_law_many"]) fun _ _ _ _ _ _ us hl => match us, hl with | [_], _ => rfl⟩
    _law_bush := ⟨_, _, fun_mk (st := s__law_bush) l__law_bush c__law_bush k__law_bush, PySem.W.mg_of KX G a__law_bush, (fun_mk (st := s__law_bush) l__law_bush c__law_bush k__law_bush).binds (ps := ["_law_many", "_law_deep"]) fun _ _ _ _ _ _ us hl => match us, hl with | [_, _], _ => rfl⟩
    _law_expression := ⟨_, _, fun_mk (st := s__law_expression) l__law_expression c__law_expression k__law_expression, PySem.W.mg_of KX G a__law_expression, (fun_mk (st := s__law_expression) l__law_expression c__law_expression k__law_expression).binds (ps := ["_law_pen_here", "_law_deep"]) fun _ _ _ _ _ _ us hl => match us, hl with | [_, _], _ => rfl⟩
    _law_bent := ⟨_, _, fun_mk (st := s__law_bent) l__law_bent c__law_bent k__law_bent, PySem.W.mg_of KX G a__law_bent, (fun_mk (st := s__law_bent) l__law_bent c__law_bent k__law_bent).binds (ps := ["_law_pen_here", "_law_item"]) fun _ _ _ _ _ _ us hl => match us, hl with | [_, _], _ => rfl⟩
    _law_right := ⟨_, _, fun_mk (st := s__law_right) l__law_right c__law_right k__law_right, PySem.W.mg_of KX G a__law_right, (fun_mk (st := s__law_right) l__law_right c__law_right k__law_right).binds (ps := ["_law_item"]) fun _ _ _ _ _ _ us hl => match us, hl with | [_], _ => rfl⟩
    law := ⟨_, _, fun_mk (st := s_law) l_law c_law k_law, PySem.W.mg_of KX G a_law, (fun_mk (st := s_law) l_law c_law k_law).binds (ps := ["_law_script"]) fun _ _ _ _ _ _ us hl => match us, hl with | [_], _ => rfl⟩
    k_is_expression_thing := ⟨fun s ws _ hl => match ws, hl with | [_], _ => .of_eq rfl⟩
    m_range := PySem.W.mg_none_of KX G z_range
    m_repr := PySem.W.mg_none_of KX G z_repr
    m_all := PySem.W.mg_none_of KX G z_all
    m_isinstance := PySem.W.mg_none_of KX G z_isinstance
    m_str := PySem.W.mg_none_of KX G z_str
    m_len := PySem.W.mg_none_of KX G z_len
    m_list := PySem.W.mg_none_of KX G z_list
    m_int := PySem.W.mg_none_of KX G z_int
    m_tuple := PySem.W.mg_none_of KX G z_tuple
    m_abs := PySem.W.mg_none_of KX G z_abs
    m_min := PySem.W.mg_none_of KX G z_min
    c_LONGEST_NAME := ⟨_, PySem.W.mg_of KX G a_LONGEST_NAME, ⟨_, rfl⟩⟩
    c_LONGEST_VARIABLE := ⟨_, PySem.W.mg_of KX G a_LONGEST_VARIABLE, ⟨_, rfl⟩⟩
    c_SMALL := ⟨_, PySem.W.mg_of KX G a_SMALL, ⟨_, rfl⟩⟩
    c_LARGE := ⟨_, PySem.W.mg_of KX G a_LARGE, ⟨_, rfl⟩⟩
    c_DIGITS := ⟨_, PySem.W.mg_of KX G a_DIGITS, ⟨_, rfl⟩⟩
    t_TAKEN := fx_TAKEN
    c_TAKEN := ⟨_, PySem.W.mg_of KX G a_TAKEN, rfl⟩
    x_TAKEN := fun G => .tup (xs := [.str "self", .str "head"]) (.inr ⟨_, _, _, l_TAKEN, rfl, rfl, (by show 2 ≤ sizeLine; decide), (.cons ⟨_, rfl⟩ (.cons ⟨_, rfl⟩ .nil))⟩) (.cons (.str _) (.cons (.str _) .nil))
    c_MOST_SYMBOLS := ⟨_, PySem.W.mg_of KX G a_MOST_SYMBOLS, ⟨_, rfl⟩⟩
    c_MOST_DEEP := ⟨_, PySem.W.mg_of KX G a_MOST_DEEP, ⟨_, rfl⟩⟩
    c_MOST_PARTS := ⟨_, PySem.W.mg_of KX G a_MOST_PARTS, ⟨_, rfl⟩⟩ }
  exact ⟨_, fun s v => .of_eq rfl, fun base _ _ => ok_law T (by decide) (all T 20)⟩
end Nv

set_option Elab.async false
set_option linter.all false
set_option maxRecDepth 100000
set_option maxHeartbeats 4000000
namespace Nv
open PySem L2 PyProof.Rows PySem.Spec
theorem le_int {i j : Int} : leD (.int i) (.int j) = some (.bl (decide (i ≤ j))) := rfl
theorem lt_int {i j : Int} : ltD (.int i) (.int j) = some (.bl (decide (i < j))) := rfl
theorem gt_int {i j : Int} : gtD (.int i) (.int j) = some (.bl (decide (j < i))) := rfl
theorem ge_int {i j : Int} : geD (.int i) (.int j) = some (.bl (decide (j ≤ i))) := rfl
theorem sub_int {i j : Int} : intD (fun i j => some (D.int (i - j))) (.int i) (.int j) = some (.int (i - j)) := rfl
theorem add_int {i j : Int} : addD (.int i) (.int j) = some (.int (i + j)) := rfl
theorem iadd_int {i j : Int} : iaddD (.int i) (.int j) = some (.int (i + j)) := rfl
theorem len_lst {xs : List D} : lenD [.lst xs] = some (.int xs.length) := rfl
theorem len_tup {xs : List D} : lenD [.tup xs] = some (.int xs.length) := rfl
theorem len_str {s : Str} (h : s.length ≤ sizeLine) : lenD [.str s] = some (.int s.length) := if_pos h
theorem isBl_bl {b : Bool} : isBl (.bl b) = some b := rfl
theorem isInt_int {b : Int} : isInt (.int b) = some b := rfl
theorem isStr_str {b : Str} : isStr (.str b) = some b := rfl
theorem isLst_lst {b : List D} : isLst (.lst b) = some b := rfl
theorem isTup_tup {b : List D} : isTup (.tup b) = some b := rfl
theorem data_d {x : D} : (Sl.d x).data = some x := rfl
theorem tru_bl {b : Bool} : truD (.bl b) = some b := rfl
theorem kind_str {b : Str} : kindOk (.str b) = true := rfl
theorem kind_tup {b : List D} : kindOk (.tup b) = true := rfl
theorem kind_lst {b : List D} : kindOk (.lst b) = true := rfl
theorem kind_bl {b : Bool} : kindOk (.bl b) = true := rfl
theorem kind_int {b : Int} : kindOk (.int b) = true := rfl
theorem kind_non : kindOk .non = true := rfl
theorem eq_int {i j : Int} : eqXD (.int i) (.int j) = some (.bl (decide (i = j))) := rfl
theorem kind_dct {b : List (Key × D)} : kindOk (.dct b) = true := rfl
theorem in_taken (s : Str) : inD true (.str s) (.tup [.str "self", .str "head"]) = some (.bl (!(s == "self") && !(s == "head"))) := by
  show some (D.bl (!([D.str "self", D.str "head"].any fun y => eqF y (.str s)))) = _
  have h1 : eqF (.str "self") (.str s) = (s == ("self" : Str)) := by show (("self" : Str) == s) = _; exact Bool.eq_iff_iff.mpr (by rw [beq_iff_eq, beq_iff_eq]; exact eq_comm)
  have h2 : eqF (.str "head") (.str s) = (s == ("head" : Str)) := by show (("head" : Str) == s) = _; exact Bool.eq_iff_iff.mpr (by rw [beq_iff_eq, beq_iff_eq]; exact eq_comm)
  simp only [List.any_cons, List.any_nil, h1, h2, Bool.or_false, Bool.not_or]
theorem in_taken2 (s : Str) : inD false (.str s) (.tup [.str "self", .str "head"]) = some (.bl ((s == "self") || (s == "head"))) := by
  show some (D.bl ([D.str "self", D.str "head"].any fun y => eqF y (.str s))) = _
  have h1 : eqF (.str "self") (.str s) = (s == ("self" : Str)) := by show (("self" : Str) == s) = _; exact Bool.eq_iff_iff.mpr (by rw [beq_iff_eq, beq_iff_eq]; exact eq_comm)
  have h2 : eqF (.str "head") (.str s) = (s == ("head" : Str)) := by show (("head" : Str) == s) = _; exact Bool.eq_iff_iff.mpr (by rw [beq_iff_eq, beq_iff_eq]; exact eq_comm)
  simp only [List.any_cons, List.any_nil, h1, h2, Bool.or_false]
local macro_rules | `(tactic| walk_at "ev") => `(tactic| try simp only [defM, mSeq, mIf, mOr, mAnd, mNot, mTru, mIs, mVar, mC, mBl, mChain, mCb, mCons, mNil, mRet, mNext, mAndV, mOrV, mNotV, mOp, mAll, mLst, mSz, mTup, mLc, mLc2, mIStr, mIList, mITup, mYes, mSl, mOSome, mONone, mM1, mSet, mCall, mCallK,
  Option.bind_some, Option.bind_none, le_int, lt_int, gt_int, ge_int, sub_int, add_int, iadd_int, len_lst, len_tup, isBl_bl, isInt_int, isStr_str, isLst_lst, isTup_tup, data_d, tru_bl, kind_str, kind_tup, kind_lst, kind_bl, kind_int, kind_non, kind_dct, eq_int, in_taken, in_taken2, List.length_cons, List.length_nil, List.cons_append, List.nil_append, List.replicate, List.getElem?_cons_zero, List.getElem?_cons_succ, List.set_cons_zero, List.set_cons_succ, if_true, if_false, Bool.not_true, Bool.not_false, Bool.false_eq_true, Option.any_some, isNo, freeB, Sl.pinned, List.map_cons, List.map_nil, allNo, List.all_cons, List.all_nil, Bool.and_true, isStrD, isTupD, mergeS, Nat.reduceAdd, Nat.reduceSub, Nat.zero_add])

/-! ### comprehensions -/
theorem set_no {e : Env} {j : Nat} {x : Sl} (h : e[j]? = some .no) : (e.set j x).set j .no = e := by
  rw [List.set_set]
  apply List.ext_getElem?
  intro k
  by_cases z : j = k
  · subst z
    rw [List.getElem?_set_self (List.getElem?_eq_some_iff.mp h).1, h]
  · rw [List.getElem?_set_ne z]
theorem lc_map {j : Nat} {m : M D} {f : D → D} {e : Env} (hj : e[j]? = some .no) : ∀ (ds acc : List D), (∀ d ∈ ds, m (e.set j (.d d)) = some (f d, e.set j (.d d))) → acc.length + ds.length ≤ sizeLine → lcGo j mYes m ds acc e = some (acc ++ ds.map f, e)
  | [], acc, _, _ => by rw [List.map_nil, List.append_nil]; rfl
  | d :: ds, acc, hm, hl => by
    rw [List.length_cons] at hl
    have h1 := hm d List.mem_cons_self
    unfold lcGo
    simp only [mYes, Option.bind_some, if_true, h1]
    rw [if_pos (by omega), set_no hj, lc_map hj ds (acc ++ [f d]) (fun x hx => hm x (List.mem_cons_of_mem _ hx)) (by rw [List.length_append]; simp; omega)]
    simp
theorem lc_filter {j : Nat} {t : M Bool} {p : D → Bool} {e : Env} (hj : e[j]? = some .no) : ∀ (ds acc : List D), (∀ d ∈ ds, t (e.set j (.d d)) = some (p d, e.set j (.d d))) → acc.length + ds.length ≤ sizeLine → lcGo j t (mVar j) ds acc e = some (acc ++ ds.filter p, e)
  | [], acc, _, _ => by rw [List.filter_nil, List.append_nil]; rfl
  | d :: ds, acc, hm, hl => by
    rw [List.length_cons] at hl
    have h1 := hm d List.mem_cons_self
    have jl : j < e.length := (List.getElem?_eq_some_iff.mp hj).1
    have hv : mVar j (e.set j (.d d)) = some (d, e.set j (.d d)) := by
      unfold mVar
      rw [List.getElem?_set_self jl]
      simp only [Option.bind_some, Sl.data, List.set_set]
    unfold lcGo
    simp only [h1, Option.bind_some]
    cases hp : p d with
    | true =>
      simp only [if_true, hv, Option.bind_some]
      rw [if_pos (by omega), set_no hj, lc_filter hj ds (acc ++ [d]) (fun x hx => hm x (List.mem_cons_of_mem _ hx)) (by rw [List.length_append]; simp; omega), List.filter_cons_of_pos hp]
      simp
    | false =>
      simp only [Bool.false_eq_true, if_false]
      rw [set_no hj, lc_filter hj ds acc (fun x hx => hm x (List.mem_cons_of_mem _ hx)) (by omega), List.filter_cons_of_neg (by rw [hp]; exact Bool.false_ne_true)]

/-! ### names -/
def inS (A : Str) (c : Nat) : Bool := decide (c ∈ A.cps.toList)
abbrev smallS : Str := "abcdefghijklmnopqrstuvwxyz"
def nameS (s : Str) : Bool := decide ((1 : Int) ≤ s.length) && decide ((s.length : Int) ≤ 8) && !(s == "self") && !(s == "head") && s.cps.toList.all (inS smallS)
theorem in_sgn (A : Str) (c : Nat) : inD false (.str ⟨#[c]⟩) (.str A) = some (.bl (inS A c)) := rfl
theorem ni_sgn (A : Str) (c : Nat) : inD true (.str ⟨#[c]⟩) (.str A) = some (.bl (!inS A c)) := rfl
theorem bls_map {α : Type} (f : α → Bool) : ∀ xs : List α, blsOf (xs.map fun x => D.bl (f x)) = some (xs.map f)
  | [] => rfl
  | x :: xs => by
    show (blsOf (xs.map fun x => D.bl (f x))).map (f x :: ·) = _
    rw [bls_map f xs]
    rfl
theorem all_map {α : Type} (f : α → Bool) (xs : List α) : (xs.map f).all id = xs.all f := by rw [List.all_map]; rfl
theorem signs_len (s : Str) : (signs s).length = s.length := by unfold signs; rw [List.length_map]; exact Array.length_toList
/-- all([sign in A for sign in s]) -/
theorem all_in (A s : Str) (j : Nat) (e : Env) (hj : e[j]? = some .no) (h : s.length ≤ sizeLine) : lcGo j mYes (mOp (inD false) (mVar j) (mC (.str A))) (signs s) [] e = some (s.cps.toList.map (fun c => D.bl (inS A c)), e) := by
  have jl : j < e.length := (List.getElem?_eq_some_iff.mp hj).1
  have hv : ∀ d, mVar j (e.set j (.d d)) = some (d, e.set j (.d d)) := fun d => by
    unfold mVar
    rw [List.getElem?_set_self jl]
    simp only [Option.bind_some, Sl.data, List.set_set]
  let f : D → D := fun d => match d with
    | .str z => .bl (decide (∃ c, oneSign z = some c ∧ inS A c = true))
    | _ => .non
  rw [lc_map (f := f) hj (signs s) [] (fun d hd => ?_) (by rw [List.length_nil, Nat.zero_add, signs_len]; exact h)]
  · unfold signs
    rw [List.nil_append, List.map_map]
    refine congrArg some (congrArg (fun x => (x, e)) (List.map_congr_left fun c _ => ?_))
    show D.bl (decide (∃ c', some c = some c' ∧ inS A c' = true)) = D.bl (inS A c)
    cases q : inS A c <;> simp [q]
  · unfold signs at hd
    obtain ⟨c, _, rfl⟩ := List.mem_map.mp hd
    unfold mOp mC
    rw [hv]
    show some (D.bl (inS A c), _) = some (D.bl (decide (∃ c', some c = some c' ∧ inS A c' = true)), _)
    cases q : inS A c <;> simp [q]
theorem e_name (k : Nat) (s : Str) (h : s.length ≤ 100) : cs (k + 1) 0 [.d (.str s)] = some (.bl (nameS s), [.d (.str s)]) := by
  have hz : s.length ≤ sizeLine := Nat.le_trans h (by decide)
  show defM 1 2 (m_is_name (cs k)) [.d (.str s)] = _
  unfold m_is_name nameS
  walk_at "ev"
  simp only [len_str hz]
  walk_at "ev"
  by_cases h1 : (1 : Int) ≤ s.length
  · by_cases h2 : (s.length : Int) ≤ 8
    · simp only [h1, h2, decide_true, if_true]
      walk_at "ev"
      cases h3 : (!(s == ("self" : Str)) && !(s == ("head" : Str))) with
      | false =>
        simp only [Bool.false_eq_true, if_false, Bool.true_and, h3, Bool.false_and]
        walk_at "ev"
      | true =>
        simp only [if_true, Bool.true_and, h3]
        walk_at "ev"
        simp only [all_in _ s 1 [.d (.str s), .no] rfl hz, Option.bind_some, all1, bls_map, all_map]
        walk_at "ev"
    · simp only [h1, h2, decide_true, decide_false, if_true]
      walk_at "ev"
      simp only [Bool.and_false, Bool.false_and, Bool.true_and]
  · simp only [h1, decide_false, Bool.false_and]
    walk_at "ev"

/-! ### the same in the law's words -/
def sgnIn (A : Str) (d : D) : Bool := match d with
  | .str z => match oneSign z with
    | some c => inS A c
    | none => false
  | _ => false
theorem canLay_str (z : Str) : (PyData.str z).canLay0 = z.cps.all (· < 0x110000) := rfl
def okC (s : Str) : Prop := ∀ c ∈ s.cps.toList, c < 0x110000
theorem strs_shp : ∀ {xs : List D}, (∀ d ∈ xs, ∃ z, d = .str z ∧ okC z) → shp (.lst xs) = true := by
  have h0 : ∀ {xs : List D}, (∀ d ∈ xs, ∃ z, d = .str z ∧ okC z) → deepAll xs = true ∧ PyData.canLayAll0 (pyAll xs) = true ∧ PyData.depthAll (pyAll xs) = 0 := by
    intro xs
    induction xs with
    | nil => intro _; exact ⟨rfl, rfl, rfl⟩
    | cons d ds ih =>
      intro h
      obtain ⟨z, rfl, hz⟩ := h d List.mem_cons_self
      obtain ⟨a, b, c⟩ := ih fun x hx => h x (List.mem_cons_of_mem _ hx)
      refine ⟨a, ?_, ?_⟩
      · show ((PyData.str z).canLay0 && PyData.canLayAll0 (pyAll ds)) = true
        rw [b, Bool.and_true, canLay_str, Array.all_eq_true']
        intro c hc
        exact decide_eq_true (hz c (Array.mem_toList_iff.mpr hc))
      · show max (PyData.depth (.str z)) (PyData.depthAll (pyAll ds)) = 0
        rw [c]
        rfl
  intro xs h
  obtain ⟨a, b, c⟩ := h0 h
  show (deepAll xs && (PyData.canLayAll0 (pyAll xs) && decide (PyData.depthAll (pyAll xs) + 1 ≤ 64))) = true
  rw [a, b, c]
  rfl
theorem eq_nil {xs : List D} (h : shp (.lst xs) = true) : eqXD (.lst xs) (.lst []) = some (.bl xs.isEmpty) := by
  have h1 : eqX (.lst xs) (.lst []) = some (PyData.eqv (.list (pyAll xs)) (.list (pyAll []))) := by
    show (if (shp (.lst xs) && shp (.lst [])) = true then some (PyData.eqv (D.lst xs).py (D.lst []).py) else none) = _
    rw [h]
    rfl
  unfold eqXD
  rw [h1]
  cases xs <;> rfl
theorem sgn_ok {s : Str} (h : okC s) {p : D → Bool} : ∀ d ∈ (signs s).filter p, ∃ z, d = .str z ∧ okC z := fun d hd => by
  obtain ⟨hd, _⟩ := List.mem_filter.mp hd
  unfold signs at hd
  obtain ⟨c, hc, rfl⟩ := List.mem_map.mp hd
  refine ⟨_, rfl, fun x hx => ?_⟩
  have : x = c := by simpa using hx
  rw [this]
  exact h c hc
theorem none_out (A s : Str) : ((signs s).filter fun d => !sgnIn A d).isEmpty = s.cps.toList.all (inS A) := by
  unfold signs
  induction s.cps.toList with
  | nil => rfl
  | cons c cs ih =>
    rw [List.map_cons, List.all_cons]
    have e : sgnIn A (.str ⟨#[c]⟩) = inS A c := rfl
    cases q : inS A c with
    | true => rw [List.filter_cons_of_neg (by rw [e, q]; simp), ih]; rfl
    | false => rw [List.filter_cons_of_pos (by rw [e, q]; rfl)]; rfl
/-- [sign for sign in s if sign not in A] -/
theorem out_of (A s : Str) (j : Nat) (e : Env) (hj : e[j]? = some .no) (h : s.length ≤ sizeLine) : lcGo j (mBl (mOp (inD true) (mVar j) (mC (.str A)))) (mVar j) (signs s) [] e = some ((signs s).filter (fun d => !sgnIn A d), e) := by
  have jl : j < e.length := (List.getElem?_eq_some_iff.mp hj).1
  rw [lc_filter (p := fun d => !sgnIn A d) hj (signs s) [] (fun d hd => ?_) (by rw [List.length_nil, Nat.zero_add, signs_len]; exact h), List.nil_append]
  unfold signs at hd
  obtain ⟨c, _, rfl⟩ := List.mem_map.mp hd
  have hv : mVar j (e.set j (.d (.str ⟨#[c]⟩))) = some (.str ⟨#[c]⟩, e.set j (.d (.str ⟨#[c]⟩))) := by
    unfold mVar
    rw [List.getElem?_set_self jl]
    simp only [Option.bind_some, Sl.data, List.set_set]
  unfold mBl mOp mC
  rw [hv]
  rfl
theorem e_lname (k : Nat) (s : Str) (h : s.length ≤ 100) (hc : okC s) : cs (k + 1) 9 [.d (.str s)] = some (.bl (nameS s), [.d (.str s)]) := by
  have hz : s.length ≤ sizeLine := Nat.le_trans h (by decide)
  show defM 1 2 (m__law_is_name (cs k)) [.d (.str s)] = _
  unfold m__law_is_name nameS
  walk_at "ev"
  simp only [len_str hz]
  walk_at "ev"
  have e1 : ((0 : Int) < s.length) = ((1 : Int) ≤ s.length) := by apply propext; omega
  have e2 : ((s.length : Int) < 9) = ((s.length : Int) ≤ 8) := by apply propext; omega
  simp only [e1, e2]
  by_cases h1 : (1 : Int) ≤ s.length
  · by_cases h2 : (s.length : Int) ≤ 8
    · simp only [h1, h2, decide_true, if_true, Bool.not_true]
      walk_at "ev"
      rw [if_pos (by decide : (0 + 1 + 1 : Nat) ≤ sizeLine)]
      walk_at "ev"
      cases h3 : ((s == ("self" : Str)) || (s == ("head" : Str))) with
      | true =>
        have h4 : (!(s == ("self" : Str)) && !(s == ("head" : Str))) = false := by rw [← Bool.not_or, h3]; rfl
        simp only [if_true, Bool.true_and, h4, Bool.false_and]
        walk_at "ev"
      | false =>
        have h4 : (!(s == ("self" : Str)) && !(s == ("head" : Str))) = true := by rw [← Bool.not_or, h3]; rfl
        simp only [Bool.false_eq_true, if_false, Bool.true_and, h4]
        walk_at "ev"
        simp only [out_of _ s 1 [.d (.str s), .no] rfl hz, Option.bind_some]
        walk_at "ev"
        rw [if_pos (Nat.zero_le _)]
        simp only [Option.bind_some, eq_nil (strs_shp (sgn_ok hc)), none_out]
        rfl
    · simp only [h1, h2, decide_true, decide_false, if_true, Bool.not_true]
      walk_at "ev"
      simp only [Bool.and_false, Bool.false_and, Bool.true_and]
  · simp only [h1, decide_false, Bool.false_and]
    walk_at "ev"

/-! ### words -/
theorem spl_le (S : List Nat) : ∀ (L : List Nat) (k : Nat) (acc : List Nat), (∀ p ∈ TL.spl S k acc L, p.length ≤ acc.length + L.length ∧ ∀ c ∈ p, c ∈ acc ∨ c ∈ L) ∧ (TL.spl S k acc L).length ≤ L.length + 1
  | [], k, acc => by
    rw [TL.spl_nil]
    exact ⟨fun p hp => by rw [List.mem_singleton.mp hp]; exact ⟨Nat.le_add_right _ _, fun c hc => .inl hc⟩, Nat.le_refl _⟩
  | c :: r, 0, acc => by
    show (∀ p ∈ (if TL.pre S (c :: r) = true then acc :: TL.spl S (S.length - 1) [] r else TL.spl S 0 (acc ++ [c]) r), _) ∧ (if TL.pre S (c :: r) = true then acc :: TL.spl S (S.length - 1) [] r else TL.spl S 0 (acc ++ [c]) r).length ≤ _
    split
    · obtain ⟨h1, h2⟩ := spl_le S r (S.length - 1) []
      refine ⟨fun p hp => ?_, by rw [List.length_cons, List.length_cons]; omega⟩
      rcases List.mem_cons.mp hp with z | z
      · rw [z]
        exact ⟨by omega, fun c hc => .inl hc⟩
      · obtain ⟨a, b⟩ := h1 p z
        refine ⟨by rw [List.length_cons]; simp at a; omega, fun x hx => ?_⟩
        rcases b x hx with y | y
        · cases y
        · exact .inr (List.mem_cons_of_mem _ y)
    · obtain ⟨h1, h2⟩ := spl_le S r 0 (acc ++ [c])
      refine ⟨fun p hp => ?_, by rw [List.length_cons]; omega⟩
      obtain ⟨a, b⟩ := h1 p hp
      refine ⟨by rw [List.length_append] at a; simp at a; rw [List.length_cons]; omega, fun x hx => ?_⟩
      rcases b x hx with y | y
      · rcases List.mem_append.mp y with y | y
        · exact .inl y
        · rw [List.mem_singleton.mp y]
          exact .inr List.mem_cons_self
      · exact .inr (List.mem_cons_of_mem _ y)
  | c :: r, k + 1, acc => by
    obtain ⟨h1, h2⟩ := spl_le S r k acc
    refine ⟨fun p hp => ?_, by rw [List.length_cons]; exact Nat.le_succ_of_le h2⟩
    obtain ⟨a, b⟩ := h1 p hp
    exact ⟨by rw [List.length_cons]; omega, fun x hx => (b x hx).imp id (List.mem_cons_of_mem _)⟩
def parts (s : Str) : List Str := Txt.split s "."
theorem parts_ok (s : Str) : (∀ p ∈ parts s, p.length ≤ s.length ∧ ∀ c ∈ p.cps.toList, c ∈ s.cps.toList) ∧ (parts s).length ≤ s.length + 1 := by
  have e := TL.split_spl s "." (by decide) (by
    have h1 : Builtin.Str.strKind "." = 1 := by decide +kernel
    rw [h1]
    unfold Builtin.Str.strKind
    split
    · omega
    · split <;> omega)
  obtain ⟨h1, h2⟩ := spl_le (TL.tl ".") (TL.tl s) 0 []
  have ls : (TL.tl s).length = s.length := Array.length_toList
  refine ⟨fun p hp => ?_, ?_⟩
  · obtain ⟨a, b⟩ := h1 (TL.tl p) (by rw [← e]; exact List.mem_map_of_mem hp)
    refine ⟨?_, fun c hc => (b c hc).elim (fun z => by cases z) id⟩
    have lp : (TL.tl p).length = p.length := Array.length_toList
    rw [lp, ls] at a
    simpa using a
  · rw [← e, List.length_map, ls] at h2
    exact h2
structure FitS (s : Str) : Prop where
  le : s.length ≤ 100
  ok : okC s
theorem FitS.part {s p : Str} (h : FitS s) (hp : p ∈ parts s) : FitS p := ⟨Nat.le_trans ((parts_ok s).1 p hp).1 h.le, fun c hc => h.ok c (((parts_ok s).1 p hp).2 c hc)⟩
theorem FitS.size {s : Str} (h : FitS s) : s.length ≤ sizeLine := Nat.le_trans h.le (by decide)
theorem split_dot {s : Str} (h : FitS s) : splitD (.str s) (.str ".") = some (.lst ((parts s).map D.str)) := if_pos ⟨by decide, by have := h.le; have : sizeLine = 2 ^ 24 := rfl; omega⟩
def nameD (d : D) : Bool := match d with
  | .str s => nameS s
  | _ => false
theorem parts_few {s : Str} (h : FitS s) : (parts s).length ≤ 101 := by have := (parts_ok s).2; have := h.le; omega
/-- [is_name(name) for name in names] -/
theorem names_of {k j : Nat} {s : Str} (h : FitS s) {e : Env} (hj : e[j]? = some .no) : lcGo j mYes (mCall 1 (cs (k + 1) 0) (mCons (mVar j) mNil)) ((parts s).map D.str) [] e = some ((parts s).map (fun p => D.bl (nameS p)), e) := by
  have jl : j < e.length := (List.getElem?_eq_some_iff.mp hj).1
  rw [lc_map (f := fun d => .bl (nameD d)) hj _ [] (fun d hd => ?_) (by rw [List.length_nil, Nat.zero_add, List.length_map]; exact Nat.le_trans (parts_few h) (by decide)), List.nil_append, List.map_map]
  · rfl
  · obtain ⟨p, hp, rfl⟩ := List.mem_map.mp hd
    have hv : mVar j (e.set j (.d (.str p))) = some (.str p, e.set j (.d (.str p))) := by
      unfold mVar
      rw [List.getElem?_set_self jl]
      simp only [Option.bind_some, Sl.data, List.set_set]
    unfold mCall mCons mNil
    rw [hv]
    simp only [Option.bind_some, List.length_cons, List.length_nil, Nat.zero_add, if_true, List.map_cons, List.map_nil, e_name k p (h.part hp).le]
    rfl
def dotS (n : Int) (s : Str) : Bool := decide (((parts s).length : Int) = n) && (parts s).all nameS
theorem e_dotted (k : Nat) (s : Str) (n : Int) (h : FitS s) : cs (k + 2) 1 [.d (.str s), .d (.int n)] = some (.bl (dotS n s), [.d (.str s), .d (.int n)]) := by
  show defM 2 4 (m_is_dotted (cs (k + 1))) [.d (.str s), .d (.int n)] = _
  unfold m_is_dotted dotS
  walk_at "ev"
  simp only [split_dot h]
  walk_at "ev"
  simp only [List.length_map]
  by_cases h1 : ((parts s).length : Int) = n
  · simp only [h1, decide_true, if_true, Bool.true_and]
    walk_at "ev"
    simp only [names_of (k := k) (j := 3) h (e := [.d (.str s), .d (.int n), .d (.lst ((parts s).map D.str)), .no]) rfl, Option.bind_some, all1, bls_map, all_map]
    rfl
  · simp only [h1, decide_false, Bool.false_and]
    walk_at "ev"
theorem e_dotted0 (k : Nat) (d : D) (n : Int) (h : kindOk d = true) (hs : isStrD d = false) : cs (k + 1) 1 [.d d, .d (.int n)] = some (.bl false, [.d d, .d (.int n)]) := by
  cases d <;> first | (cases h; done) | (cases hs; done) | rfl
theorem e_name0 (k : Nat) (d : D) (h : kindOk d = true) (hs : isStrD d = false) : cs (k + 1) 0 [.d d] = some (.bl false, [.d d]) := by
  cases d <;> first | (cases h; done) | (cases hs; done) | rfl
structure Fit1 (d : D) : Prop where
  k : kindOk d = true
  s : ∀ s, d = .str s → FitS s
def dotD (n : Int) (d : D) : Bool := match d with
  | .str s => dotS n s
  | _ => false
theorem e_dot (k : Nat) (d : D) (n : Int) (h : Fit1 d) : cs (k + 2) 1 [.d d, .d (.int n)] = some (.bl (dotD n d), [.d d, .d (.int n)]) := by
  cases hs : isStrD d with
  | false =>
    rw [e_dotted0 (k + 1) d n h.k hs]
    cases d <;> first | rfl | cases hs
  | true =>
    cases d <;> first | (cases hs; done) | skip
    exact e_dotted k _ n (h.s _ rfl)
theorem e_word (k : Nat) (d : D) (h : Fit1 d) : cs (k + 3) 2 [.d d] = some (.bl (dotD 2 d), [.d d]) := by
  show defM 1 1 (m_is_word (cs (k + 2))) [.d d] = _
  unfold m_is_word
  walk_at "ev"
  simp only [e_dot k d 2 h]
  rfl
theorem e_mword (k : Nat) (d : D) (h : Fit1 d) : cs (k + 3) 3 [.d d] = some (.bl (dotD 3 d), [.d d]) := by
  show defM 1 1 (m_is_member_word (cs (k + 2))) [.d d] = _
  unfold m_is_member_word
  walk_at "ev"
  simp only [e_dot k d 3 h]
  rfl

/-! ### words in the law's words -/
theorem e_lname0 (k : Nat) (d : D) (h : kindOk d = true) (hs : isStrD d = false) : cs (k + 1) 9 [.d d] = some (.bl false, [.d d]) := by
  cases d <;> first | (cases h; done) | (cases hs; done) | rfl
theorem e_lnm (k : Nat) (d : D) (h : Fit1 d) : cs (k + 1) 9 [.d d] = some (.bl (nameD d), [.d d]) := by
  cases hs : isStrD d with
  | false =>
    rw [e_lname0 k d h.k hs]
    cases d <;> first | rfl | cases hs
  | true =>
    cases d <;> first | (cases hs; done) | skip
    exact e_lname k _ (h.s _ rfl).le (h.s _ rfl).ok
theorem e_lword0 (k : Nat) (d : D) (h : kindOk d = true) (hs : isStrD d = false) : cs (k + 1) 10 [.d d] = some (.bl false, [.d d]) := by
  cases d <;> first | (cases h; done) | (cases hs; done) | rfl
theorem e_lmword0 (k : Nat) (d : D) (h : kindOk d = true) (hs : isStrD d = false) : cs (k + 1) 12 [.d d] = some (.bl false, [.d d]) := by
  cases d <;> first | (cases h; done) | (cases hs; done) | rfl
theorem e_lwordS (k : Nat) (s : Str) (h : FitS s) : cs (k + 2) 10 [.d (.str s)] = some (.bl (dotS 2 s), [.d (.str s)]) := by
  show defM 1 2 (m__law_is_word (cs (k + 1))) [.d (.str s)] = _
  unfold m__law_is_word dotS
  walk_at "ev"
  simp only [split_dot h]
  walk_at "ev"
  simp only [List.length_map]
  by_cases h1 : ((parts s).length : Int) = 2
  · obtain ⟨a, b, hab⟩ : ∃ a b, parts s = [a, b] := by
      match hp : parts s, h1 with
      | [a, b], _ => exact ⟨a, b, rfl⟩
      | [], h1 => simp at h1
      | [_], h1 => simp at h1
      | _ :: _ :: _ :: _, h1 => simp at h1; omega
    have fa : FitS a := h.part (by rw [hab]; exact List.mem_cons_self)
    have fb : FitS b := h.part (by rw [hab]; exact List.mem_cons_of_mem _ List.mem_cons_self)
    simp only [h1, decide_true, if_true, Bool.true_and]
    walk_at "ev"
    have i0 : ixD (.lst ((parts s).map D.str)) (.int 0) = some (.str a) := by rw [hab]; rfl
    have i1 : ixD (.lst ((parts s).map D.str)) (.int 1) = some (.str b) := by rw [hab]; rfl
    rw [i0]
    walk_at "ev"
    rw [e_lname k a fa.le fa.ok]
    walk_at "ev"
    have ea : (parts s).all nameS = (nameS a && nameS b) := by rw [hab]; simp
    rw [ea]
    cases nameS a with
    | false => rfl
    | true =>
      simp only [if_true]
      walk_at "ev"
      rw [i1]
      walk_at "ev"
      rw [e_lname k b fb.le fb.ok]
      rfl
  · simp only [h1, decide_false, Bool.false_and]
    walk_at "ev"
/-- [part for part in parts if not is_name(part)] -/
theorem others_of {k j : Nat} {s : Str} (h : FitS s) {e : Env} (hj : e[j]? = some .no) : lcGo j (mNot (mTru (mCall 1 (cs (k + 1) 9) (mCons (mVar j) mNil)))) (mVar j) ((parts s).map D.str) [] e = some (((parts s).map D.str).filter (fun d => !nameD d), e) := by
  have jl : j < e.length := (List.getElem?_eq_some_iff.mp hj).1
  rw [lc_filter (p := fun d => !nameD d) hj _ [] (fun d hd => ?_) (by rw [List.length_nil, Nat.zero_add, List.length_map]; exact Nat.le_trans (parts_few h) (by decide)), List.nil_append]
  obtain ⟨p, hp, rfl⟩ := List.mem_map.mp hd
  have hv : mVar j (e.set j (.d (.str p))) = some (.str p, e.set j (.d (.str p))) := by
    unfold mVar
    rw [List.getElem?_set_self jl]
    simp only [Option.bind_some, Sl.data, List.set_set]
  unfold mNot mTru mCall mCons mNil
  rw [hv]
  simp only [Option.bind_some, List.length_cons, List.length_nil, Nat.zero_add, if_true, List.map_cons, List.map_nil, e_lname k p (h.part hp).le (h.part hp).ok, tru_bl]
  rfl
theorem names_empty : ∀ ps : List Str, ((ps.map D.str).filter fun d => !nameD d).isEmpty = ps.all nameS
  | [] => rfl
  | p :: ps => by
    rw [List.map_cons, List.all_cons]
    have e : nameD (.str p) = nameS p := rfl
    cases q : nameS p with
    | true => rw [List.filter_cons_of_neg (by rw [e, q]; simp), names_empty ps]; rfl
    | false => rw [List.filter_cons_of_pos (by rw [e, q]; rfl)]; rfl
theorem e_lmwordS (k : Nat) (s : Str) (h : FitS s) : cs (k + 2) 12 [.d (.str s)] = some (.bl (dotS 3 s), [.d (.str s)]) := by
  show defM 1 3 (m__law_is_member_word (cs (k + 1))) [.d (.str s)] = _
  unfold m__law_is_member_word dotS
  walk_at "ev"
  simp only [split_dot h]
  walk_at "ev"
  simp only [List.length_map]
  by_cases h1 : ((parts s).length : Int) = 3
  · simp only [h1, decide_true, if_true, Bool.true_and]
    walk_at "ev"
    simp only [others_of (k := k) (j := 2) h (e := [.d (.str s), .d (.lst ((parts s).map D.str)), .no]) rfl, Option.bind_some]
    walk_at "ev"
    rw [if_pos (Nat.zero_le _)]
    have hs : shp (.lst (((parts s).map D.str).filter fun d => !nameD d)) = true := strs_shp fun d hd => by
      obtain ⟨hd, _⟩ := List.mem_filter.mp hd
      obtain ⟨p, hp, rfl⟩ := List.mem_map.mp hd
      exact ⟨p, rfl, (h.part hp).ok⟩
    simp only [Option.bind_some, eq_nil hs, names_empty]
    rfl
  · simp only [h1, decide_false, Bool.false_and]
    walk_at "ev"
theorem e_lword (k : Nat) (d : D) (h : Fit1 d) : cs (k + 2) 10 [.d d] = some (.bl (dotD 2 d), [.d d]) := by
  cases hs : isStrD d with
  | false =>
    rw [e_lword0 (k + 1) d h.k hs]
    cases d <;> first | rfl | cases hs
  | true =>
    cases d <;> first | (cases hs; done) | skip
    exact e_lwordS k _ (h.s _ rfl)
theorem e_lmword (k : Nat) (d : D) (h : Fit1 d) : cs (k + 2) 12 [.d d] = some (.bl (dotD 3 d), [.d d]) := by
  cases hs : isStrD d with
  | false =>
    rw [e_lmword0 (k + 1) d h.k hs]
    cases d <;> first | rfl | cases hs
  | true =>
    cases d <;> first | (cases hs; done) | skip
    exact e_lmwordS k _ (h.s _ rfl)
end Nv

set_option Elab.async false
set_option linter.all false
set_option maxRecDepth 100000
set_option maxHeartbeats 4000000
namespace Nv
open PySem L2 PyProof.Rows PySem.Spec
local macro_rules | `(tactic| walk_at "ev") => `(tactic| try simp only [defM, mSeq, mIf, mOr, mAnd, mNot, mTru, mIs, mVar, mC, mBl, mChain, mCb, mCons, mNil, mRet, mNext, mAndV, mOrV, mNotV, mOp, mAll, mLst, mSz, mTup, mLc, mLc2, mIStr, mIList, mITup, mYes, mSl, mOSome, mONone, mM1, mSet, mCall, mCallK,
  Option.bind_some, Option.bind_none, le_int, lt_int, gt_int, ge_int, sub_int, add_int, iadd_int, len_lst, len_tup, isBl_bl, isInt_int, isStr_str, isLst_lst, isTup_tup, data_d, tru_bl, kind_str, kind_tup, kind_lst, kind_bl, kind_int, kind_non, kind_dct, eq_int, in_taken, in_taken2, List.length_cons, List.length_nil, List.cons_append, List.nil_append, List.replicate, List.getElem?_cons_zero, List.getElem?_cons_succ, List.set_cons_zero, List.set_cons_succ, if_true, if_false, Bool.not_true, Bool.not_false, Bool.false_eq_true, Option.any_some, isNo, freeB, Sl.pinned, List.map_cons, List.map_nil, allNo, List.all_cons, List.all_nil, Bool.and_true, isStrD, isTupD, mergeS, Nat.reduceAdd, Nat.reduceSub, Nat.zero_add])

/-! ### variables -/
abbrev largeS : Str := "ABCDEFGHIJKLMNOPQRSTUVWXYZ"
abbrev digitS : Str := "0123456789"
def restS (s : Str) : Str := cutS s (some 1) none
def firstS (s : Str) : Bool := match s.cps.toList with
  | c :: _ => inS largeS c
  | [] => false
def varS (s : Str) : Bool := decide ((1 : Int) ≤ s.length) && decide ((s.length : Int) ≤ 4) && firstS s && (restS s).cps.toList.all (inS digitS)
theorem rest_sub (s : Str) : ∀ c ∈ (restS s).cps.toList, c ∈ s.cps.toList := fun c hc => by
  unfold restS cutS at hc
  exact List.mem_of_mem_drop (List.mem_of_mem_take hc)
theorem rest_le (s : Str) : (restS s).length ≤ s.length := by
  unfold restS cutS
  show (List.toArray _).size ≤ s.cps.size
  rw [List.size_toArray, List.length_take, List.length_drop, Array.length_toList]
  omega
theorem FitS.rest {s : Str} (h : FitS s) : FitS (restS s) := ⟨Nat.le_trans (rest_le s) h.le, fun c hc => h.ok c (rest_sub s c hc)⟩
theorem first_ix {s : Str} (h : FitS s) {c : Nat} {r : List Nat} (e : s.cps.toList = c :: r) : ixD (.str s) (.int 0) = some (.str ⟨#[c]⟩) := by
  show (if s.length ≤ sizeLine then (L2.atI s.cps.toList 0).map fun c => D.str ⟨#[c]⟩ else none) = _
  rw [if_pos h.size, e]
  have : L2.atI (c :: r) 0 = some c := by
    unfold L2.atI ixN
    rw [if_pos (Int.le_refl 0), if_pos (by rw [List.length_cons]; omega)]
    rfl
  rw [this]
  rfl
theorem rest_sl {s : Str} (h : FitS s) : slD (.str s) (some 1) none = some (.str (restS s)) := if_pos h.size
theorem nonempty {s : Str} (h : (1 : Int) ≤ s.length) : ∃ c r, s.cps.toList = c :: r := by
  cases e : s.cps.toList with
  | nil =>
    have : s.cps.toList.length = s.length := Array.length_toList
    rw [e] at this
    have z : s.length = 0 := this.symm
    rw [z] at h
    omega
  | cons c r => exact ⟨c, r, rfl⟩
theorem e_varS (k : Nat) (s : Str) (h : FitS s) : cs (k + 1) 4 [.d (.str s)] = some (.bl (varS s), [.d (.str s)]) := by
  show defM 1 2 (m_is_variable (cs k)) [.d (.str s)] = _
  unfold m_is_variable varS
  walk_at "ev"
  simp only [len_str h.size]
  walk_at "ev"
  by_cases h1 : (1 : Int) ≤ s.length
  · by_cases h2 : (s.length : Int) ≤ 4
    · obtain ⟨c, r, e⟩ := nonempty h1
      have ef : firstS s = inS largeS c := by unfold firstS; rw [e]
      simp only [h1, h2, decide_true, if_true]
      walk_at "ev"
      rw [first_ix h e]
      walk_at "ev"
      rw [in_sgn]
      walk_at "ev"
      rw [ef]
      cases inS largeS c with
      | false => rfl
      | true =>
        simp only [if_true, Bool.true_and]
        walk_at "ev"
        rw [rest_sl h]
        walk_at "ev"
        rw [all_in _ (restS s) 1 [.d (.str s), .no] rfl h.rest.size]
        simp only [Option.bind_some, all1, bls_map, all_map]
        rfl
    · simp only [h1, h2, decide_true, decide_false, if_true]
      walk_at "ev"
      simp only [Bool.and_false, Bool.false_and, Bool.true_and]
  · simp only [h1, decide_false, Bool.false_and]
    walk_at "ev"
theorem e_lvarS (k : Nat) (s : Str) (h : FitS s) : cs (k + 1) 11 [.d (.str s)] = some (.bl (varS s), [.d (.str s)]) := by
  show defM 1 2 (m__law_is_variable (cs k)) [.d (.str s)] = _
  unfold m__law_is_variable varS
  walk_at "ev"
  simp only [len_str h.size]
  walk_at "ev"
  have e1 : ((0 : Int) < s.length) = ((1 : Int) ≤ s.length) := by apply propext; omega
  have e2 : ((s.length : Int) < 5) = ((s.length : Int) ≤ 4) := by apply propext; omega
  simp only [e1, e2]
  by_cases h1 : (1 : Int) ≤ s.length
  · by_cases h2 : (s.length : Int) ≤ 4
    · obtain ⟨c, r, e⟩ := nonempty h1
      have ef : firstS s = inS largeS c := by unfold firstS; rw [e]
      simp only [h1, h2, decide_true, if_true, Bool.not_true]
      walk_at "ev"
      rw [first_ix h e]
      walk_at "ev"
      rw [ni_sgn]
      walk_at "ev"
      rw [ef]
      cases inS largeS c with
      | false => rfl
      | true =>
        simp only [Bool.not_true, Bool.false_eq_true, if_false, Bool.true_and]
        walk_at "ev"
        rw [rest_sl h]
        walk_at "ev"
        rw [out_of _ (restS s) 1 [.d (.str s), .no] rfl h.rest.size]
        walk_at "ev"
        rw [if_pos (Nat.zero_le _)]
        simp only [Option.bind_some, eq_nil (strs_shp (sgn_ok h.rest.ok)), none_out]
        rfl
    · simp only [h1, h2, decide_true, decide_false, if_true, Bool.not_true]
      walk_at "ev"
      simp only [Bool.and_false, Bool.false_and, Bool.true_and]
  · simp only [h1, decide_false, Bool.false_and]
    walk_at "ev"
def varD (d : D) : Bool := match d with
  | .str s => varS s
  | _ => false
theorem e_var0 (k : Nat) (d : D) (h : kindOk d = true) (hs : isStrD d = false) : cs (k + 1) 4 [.d d] = some (.bl false, [.d d]) := by
  cases d <;> first | (cases h; done) | (cases hs; done) | rfl
theorem e_lvar0 (k : Nat) (d : D) (h : kindOk d = true) (hs : isStrD d = false) : cs (k + 1) 11 [.d d] = some (.bl false, [.d d]) := by
  cases d <;> first | (cases h; done) | (cases hs; done) | rfl
theorem e_var (k : Nat) (d : D) (h : Fit1 d) : cs (k + 1) 4 [.d d] = some (.bl (varD d), [.d d]) := by
  cases hs : isStrD d with
  | false =>
    rw [e_var0 k d h.k hs]
    cases d <;> first | rfl | cases hs
  | true =>
    cases d <;> first | (cases hs; done) | skip
    exact e_varS k _ (h.s _ rfl)
theorem e_lvar (k : Nat) (d : D) (h : Fit1 d) : cs (k + 1) 11 [.d d] = some (.bl (varD d), [.d d]) := by
  cases hs : isStrD d with
  | false =>
    rw [e_lvar0 k d h.k hs]
    cases d <;> first | rfl | cases hs
  | true =>
    cases d <;> first | (cases hs; done) | skip
    exact e_lvarS k _ (h.s _ rfl)

/-! ### pieces -/
/-- data all of whose parts are fit, to any depth -/
inductive Fit : D → Prop
  | mk {d : D} (h : Fit1 d) (ht : ∀ xs, d = .tup xs → ∀ x ∈ xs, Fit x) : Fit d
theorem Fit.one {d : D} (h : Fit d) : Fit1 d := by cases h; assumption
theorem Fit.tup {xs : List D} (h : Fit (.tup xs)) : ∀ x ∈ xs, Fit x := by
  cases h with
  | mk h1 h2 => exact h2 xs rfl
/-- the word of a piece that is no variable -/
def headOk (m : Bool) (xs : List D) : Bool := match xs with
  | w :: r => dotD 2 w || (m && decide (0 < r.length) && dotD 3 w)
  | [] => false
def pieceD (m : Bool) (d : D) : Bool := varD d || match d with
  | .tup xs => decide (1 ≤ xs.length) && decide (xs.length ≤ 4) && headOk m xs
  | _ => false
theorem tup_ix0 (w : D) (r : List D) : ixD (.tup (w :: r)) (.int 0) = some w := by
  show L2.atI (w :: r) 0 = some w
  unfold L2.atI ixN
  rw [if_pos (Int.le_refl 0), if_pos (by rw [List.length_cons]; omega)]
  rfl
theorem e_piece (k : Nat) (d : D) (m : Bool) (h : Fit d) : cs (k + 4) 5 [.d d, .d (.bl m)] = some (.bl (pieceD m d), [.d d, .d (.bl m)]) := by
  show defM 2 2 (m_is_piece (cs (k + 3))) [.d d, .d (.bl m)] = _
  unfold m_is_piece pieceD
  walk_at "ev"
  rw [e_var (k + 2) d h.one]
  walk_at "ev"
  cases hv : varD d with
  | true => rfl
  | false =>
    simp only [Bool.false_eq_true, if_false, Bool.false_or]
    walk_at "ev"
    cases ht : isTupD d with
    | false =>
      have hk := h.one.k
      cases d <;> first | (cases hk; done) | (cases ht; done) | rfl
    | true =>
      cases d <;> first | (cases ht; done) | skip
      rename_i xs
      walk_at "ev"
      cases xs with
      | nil => rfl
      | cons w r =>
        have hw : Fit1 w := (h.tup w List.mem_cons_self).one
        have e1 : ((1 : Int) ≤ ((w :: r).length : Nat)) := by rw [List.length_cons]; omega
        have e1' : 1 ≤ (w :: r).length := by rw [List.length_cons]; omega
        have i0 : ixD (.tup (w :: r)) (.int 0) = some w := tup_ix0 w r
        by_cases h4 : (w :: r).length ≤ 4
        · have e2 : (((w :: r).length : Nat) : Int) ≤ 1 + 3 := by omega
          simp only [e1, e2, e1', h4, decide_true, if_true, Bool.true_and, Option.bind_some, isBl_bl, Bool.not_true, Bool.false_eq_true, if_false]
          walk_at "ev"
          rw [i0]
          walk_at "ev"
          rw [e_word k w hw]
          walk_at "ev"
          rw [show headOk m (w :: r) = (dotD 2 w || (m && decide (0 < r.length) && dotD 3 w)) from rfl]
          cases hd : dotD 2 w with
          | true =>
            simp only [if_true, Bool.true_or]
            walk_at "ev"
          | false =>
            simp only [Bool.false_eq_true, if_false, Bool.false_or]
            walk_at "ev"
            cases m with
            | false =>
              simp only [Bool.false_and]
              walk_at "ev"
            | true =>
              simp only [if_true, Bool.true_and]
              walk_at "ev"
              by_cases hr : 0 < r.length
              · have e3 : (1 : Int) < (r.length + 1 : Nat) := by omega
                simp only [e3, hr, decide_true, if_true, Bool.true_and]
                walk_at "ev"
                rw [i0]
                walk_at "ev"
                rw [e_mword k w hw]
                rfl
              · have e3 : ¬ (1 : Int) < (r.length + 1 : Nat) := by omega
                simp only [e3, hr, decide_false, Bool.false_and]
                walk_at "ev"
        · have e2 : ¬ (((w :: r).length : Nat) : Int) ≤ 1 + 3 := by omega
          simp only [e1, e2, e1', h4, decide_true, decide_false, if_true, Bool.true_and, Bool.false_and, Option.bind_some, isBl_bl, Bool.not_false]
          walk_at "ev"
end Nv

set_option Elab.async false
set_option linter.all false
set_option maxRecDepth 100000
set_option maxHeartbeats 4000000
namespace Nv
open PySem L2 PyProof.Rows PySem.Spec
local macro_rules | `(tactic| walk_at "ev") => `(tactic| try simp only [defM, mSeq, mIf, mOr, mAnd, mNot, mTru, mIs, mVar, mC, mBl, mChain, mCb, mCons, mNil, mRet, mNext, mAndV, mOrV, mNotV, mOp, mAll, mLst, mSz, mTup, mLc, mLc2, mIStr, mIList, mITup, mYes, mSl, mOSome, mONone, mM1, mSet, mCall, mCallK,
  Option.bind_some, Option.bind_none, le_int, lt_int, gt_int, ge_int, sub_int, add_int, iadd_int, mAug, isD1, dOf, allNo, len_lst, len_tup, isBl_bl, isInt_int, isStr_str, isLst_lst, isTup_tup, data_d, tru_bl, kind_str, kind_tup, kind_lst, kind_bl, kind_int, kind_non, kind_dct, eq_int, in_taken, in_taken2, List.length_cons, List.length_nil, List.cons_append, List.nil_append, List.replicate, List.getElem?_cons_zero, List.getElem?_cons_succ, List.set_cons_zero, List.set_cons_succ, if_true, if_false, Bool.not_true, Bool.not_false, Bool.false_eq_true, Option.any_some, isNo, freeB, Sl.pinned, List.map_cons, List.map_nil, allNo, List.all_cons, List.all_nil, Bool.and_true, mergeS, Nat.reduceAdd, Nat.reduceSub, Nat.zero_add])

/-! ### levels -/
theorem cut1 {α : Type} (xs : List α) : cut xs (some 1) none = xs.drop 1 := by
  unfold cut
  have h0 : HT.sIx xs.length 0 (some 1) = min 1 xs.length := HT.sIx_nat _ _ 1
  have h1 : HT.sIx xs.length xs.length none = xs.length := rfl
  rw [h0, h1]
  cases xs with
  | nil => rfl
  | cons x r =>
    have : min 1 (x :: r).length = 1 := by rw [List.length_cons]; omega
    rw [this]
    simp
def kidsD (d : D) : List D := match d with
  | .tup xs => xs.drop 1
  | _ => []
theorem Fit.kids {d : D} (h : Fit d) : ∀ x ∈ kidsD d, Fit x := by
  cases d <;> first | exact fun x hx => by cases hx | skip
  exact fun x hx => h.tup x (List.mem_of_mem_drop hx)
theorem loop_app {b : List D → M (List D)} {f : D → List D} {j : Nat} {vs : List Nat} {e : Env} (hj : e[j]? = some .no) (hv : allNo vs e = true) : ∀ (ds acc : List D),
    (∀ d ∈ ds, ∀ acc : List D, acc.length + (f d).length ≤ sizeLine → b acc (e.set j (.d d)) = some (acc ++ f d, e.set j (.d d))) → acc.length + (ds.flatMap f).length ≤ sizeLine → loopGo b j vs ds acc e = some (acc ++ ds.flatMap f, e)
  | [], acc, _, _ => by rw [List.flatMap_nil, List.append_nil]; rfl
  | d :: ds, acc, hb, hl => by
    rw [List.flatMap_cons, List.length_append] at hl
    unfold loopGo
    rw [hb d List.mem_cons_self acc (by omega)]
    simp only [Option.bind_some, set_no hj, hv, if_true]
    rw [loop_app hj hv ds (acc ++ f d) (fun x hx => hb x (List.mem_cons_of_mem _ hx)) (by rw [List.length_append]; omega), List.flatMap_cons, List.append_assoc]
/-- for part in xs, each as it is -/
theorem loop_self {j : Nat} {e : Env} (hj : e[j]? = some .no) (xs acc : List D) (hl : acc.length + xs.length ≤ sizeLine) : loopGo (mBS mYes (mVar j)) j [j] xs acc e = some (acc ++ xs, e) := by
  have hv : allNo [j] e = true := by unfold allNo; simp [hj, isNo]
  have jl : j < e.length := (List.getElem?_eq_some_iff.mp hj).1
  have hf : ∀ xs : List D, xs.flatMap (fun d => [d]) = xs := fun xs => by simp
  have := loop_app (b := mBS mYes (mVar j)) (f := fun d => [d]) hj hv xs acc (fun d hd acc hl => ?_) (by rw [hf]; exact hl)
  · rw [this, hf]
  · have hz : acc.length < sizeLine := by simp at hl; omega
    have hm : mVar j (e.set j (.d d)) = some (d, e.set j (.d d)) := by
      unfold mVar
      rw [List.getElem?_set_self jl]
      simp only [Option.bind_some, Sl.data, List.set_set]
    unfold mBS mYes
    simp only [Option.bind_some, if_true, hm, if_pos hz]
def bodyW (c : Nat → Fm) : MS := (mSeq (mAug 3 iaddD (mCb lenD (mCons (mVar 2) mNil)))
    (mSeq (mAug 4 iaddD (mC (.int 1)))
    (mSeq (mIf (mOr (mBl (mOp gtD (mVar 3) (mC (.int 40)))) (mOr (mBl (mOp gtD (mVar 4) (mC (.int 6)))) (mNot (mTru (mAll (mCons (mLst (mLc (mIList (mVar 2)) mYes (mCall 2 (c 5) (mCons (mVar 5) (mCons (mVar 1) mNil))) 5)) mNil)))))) (mRet (mC (.bl false))) mNext)
    (mSet 2 (mLst (mLc2 (mIList (mVar 2)) (mTru (mIs isTupD (mVar 5))) (mITup (mSl (mVar 5) (mOSome (mC (.int 1))) mONone)) mYes (mVar 6) 5 6))))))
/-- the next level -/
theorem level_of (d0 : D) (b : Sl) (l s dp : Sl) (level : List D) (hk : ∀ x ∈ level, Fit x) (hl : (level.flatMap kidsD).length ≤ sizeLine) :
    loopGo (mBO (mTru (mIs isTupD (mVar 5))) (mITup (mSl (mVar 5) (mOSome (mC (.int 1))) mONone)) 6 mYes (mVar 6)) 5 [5, 6] level [] [.d d0, b, l, s, dp, .no, .no] = some (level.flatMap kidsD, [.d d0, b, l, s, dp, .no, .no]) := by
  rw [loop_app (f := kidsD) rfl rfl level [] (fun d hd acc hl => ?_) (by rw [List.length_nil, Nat.zero_add]; exact hl), List.nil_append]
  have h1 := (hk d hd).one.k
  unfold mBO
  cases ht : isTupD d with
  | false =>
    have e0 : kidsD d = [] := by cases d <;> first | rfl | cases ht
    rw [e0, List.append_nil]
    cases d <;> first | (cases h1; done) | (cases ht; done) | rfl
  | true =>
    cases d <;> first | (cases ht; done) | skip
    rename_i xs
    walk_at "ev"
    rw [show isTupD (.tup xs) = true from rfl]
    walk_at "ev"
    rw [show slD (.tup xs) (some 1) none = some (.tup (cut xs (some 1) none)) from rfl, cut1]
    walk_at "ev"
    rw [loop_self rfl _ acc (by exact hl)]
    rfl

theorem pieces_of {k : Nat} {m : Bool} {d0 : D} {l s dp y : Sl} (level : List D) (hk : ∀ x ∈ level, Fit x) (hl : level.length ≤ sizeLine) :
    lcGo 5 mYes (mCall 2 (cs (k + 4) 5) (mCons (mVar 5) (mCons (mVar 1) mNil))) level [] [.d d0, .d (.bl m), l, s, dp, .no, y] = some (level.map (fun x => D.bl (pieceD m x)), [.d d0, .d (.bl m), l, s, dp, .no, y]) := by
  rw [lc_map (f := fun x => D.bl (pieceD m x)) rfl level [] (fun d hd => ?_) (by rw [List.length_nil, Nat.zero_add]; exact hl), List.nil_append]
  walk_at "ev"
  rw [e_piece k d m (hk d hd)]
  rfl
def withinL (m : Bool) : Nat → List D → Nat → Bool
  | r, level, s => if level.isEmpty = true then true else match r with
    | 0 => false
    | r + 1 => if s + level.length ≤ 40 ∧ level.all (pieceD m) = true then withinL m r (level.flatMap kidsD) (s + level.length) else false
theorem kids_few {m : Bool} {d : D} (h : pieceD m d = true) : (kidsD d).length ≤ 3 := by
  cases d <;> first | exact Nat.zero_le _ | skip
  rename_i xs
  have h : (false || (decide (1 ≤ xs.length) && decide (xs.length ≤ 4) && headOk m xs)) = true := h
  simp only [Bool.false_or, Bool.and_eq_true, decide_eq_true_eq] at h
  show (xs.drop 1).length ≤ 3
  rw [List.length_drop]
  omega
theorem flat_few {m : Bool} : ∀ {level : List D}, level.all (pieceD m) = true → (level.flatMap kidsD).length ≤ 3 * level.length
  | [], _ => Nat.le_refl _
  | d :: ds, h => by
    rw [List.all_cons, Bool.and_eq_true] at h
    have a := kids_few h.1
    have b := flat_few h.2
    rw [List.flatMap_cons, List.length_append, List.length_cons]
    omega
theorem wh_within (k : Nat) (m : Bool) (d0 : D) : ∀ (r : Nat) (level : List D) (s n : Nat), r ≤ 6 → r + 2 ≤ n → (∀ x ∈ level, Fit x) →
    ∃ e', whGo (mTru (mVar 2)) (bodyW (cs (k + 4))) n [.d d0, .d (.bl m), .d (.lst level), .d (.int s), .d (.int (6 - r : Nat)), .no, .no] = some (if withinL m r level s = true then Out.nx else .rt (.bl false), e')
  | r, level, s, 0, _, h, _ => by omega
  | r, level, s, n + 1, hr, hn, hf => by
    unfold whGo
    walk_at "ev"
    rw [show truD (.lst level) = some (!level.isEmpty) from rfl]
    walk_at "ev"
    cases he : level.isEmpty with
    | true =>
      have e : level = [] := List.isEmpty_iff.mp he
      subst e
      have hw : withinL m r [] s = true := by cases r <;> rfl
      rw [hw]
      exact ⟨_, rfl⟩
    | false =>
      simp only [Bool.not_false, if_true]
      unfold bodyW
      walk_at "ev"
      by_cases h1 : s + level.length ≤ 40
      · have c1 : ¬ (40 : Int) < (s : Int) + (level.length : Int) := by omega
        simp only [c1, decide_false, Bool.false_eq_true, if_false]
        walk_at "ev"
        cases r with
        | zero =>
          have c2 : (6 : Int) < ((6 - 0 : Nat) : Int) + 1 := by omega
          simp only [c2, decide_true, if_true]
          walk_at "ev"
          have hw : withinL m 0 level s = false := by unfold withinL; rw [he]; rfl
          rw [hw]
          exact ⟨_, rfl⟩
        | succ r =>
          have c2 : ¬ (6 : Int) < ((6 - (r + 1) : Nat) : Int) + 1 := by omega
          simp only [c2, decide_false, Bool.false_eq_true, if_false]
          walk_at "ev"
          rw [pieces_of level hf (by have : sizeLine = 2 ^ 24 := rfl; omega)]
          simp only [Option.bind_some, all1, bls_map, all_map]
          walk_at "ev"
          unfold withinL
          rw [he]
          simp only [Bool.false_eq_true, if_false, h1, true_and]
          cases ha : level.all (pieceD m) with
          | false =>
            simp only [Bool.not_false, if_true, Bool.false_eq_true, if_false]
            walk_at "ev"
            exact ⟨_, rfl⟩
          | true =>
            simp only [Bool.not_true, Bool.false_eq_true, if_false, if_true]
            walk_at "ev"
            have hz := flat_few ha
            rw [level_of d0 _ _ _ _ level hf (by have : sizeLine = 2 ^ 24 := rfl; omega)]
            walk_at "ev"
            have e1 : ((s : Int) + (level.length : Int)) = ((s + level.length : Nat) : Int) := by omega
            have e2 : (((6 - (r + 1) : Nat) : Int) + 1) = ((6 - r : Nat) : Int) := by omega
            rw [e1, e2]
            exact wh_within k m d0 r (level.flatMap kidsD) (s + level.length) n (by omega) (by omega) fun x hx => by
              obtain ⟨d, hd, hx⟩ := List.mem_flatMap.mp hx
              exact (hf d hd).kids x hx
      · have c1 : (40 : Int) < (s : Int) + (level.length : Int) := by omega
        simp only [c1, decide_true, if_true]
        walk_at "ev"
        have hw : withinL m r level s = false := by
          unfold withinL
          rw [he]
          cases r with
          | zero => rfl
          | succ r => simp [h1]
        rw [hw]
        exact ⟨_, rfl⟩

theorem e_within (k : Nat) (d : D) (m : Bool) (h : Fit d) : cs (k + 5) 6 [.d d, .d (.bl m)] = some (.bl (withinL m 6 [d] 0), [.d d, .d (.bl m)]) := by
  obtain ⟨e', hw⟩ := wh_within k m d 6 [d] 0 1000 (Nat.le_refl _) (by omega) fun x hx => by rw [List.mem_singleton.mp hx]; exact h
  have hw : mWhile 1000 (mTru (mVar 2)) (bodyW (cs (k + 4))) [.d d, .d (.bl m), .d (.lst [d]), .d (.int 0), .d (.int 0), .no, .no] = _ := hw
  show defM 2 7 (mSeq (mSet 2 (mLst (mSz (mCons (mVar 0) mNil)))) (mSeq (mSet 3 (mC (.int 0))) (mSeq (mSet 4 (mC (.int 0))) (mSeq (mWhile 1000 (mTru (mVar 2)) (bodyW (cs (k + 4)))) (mRet (mC (.bl true))))))) [.d d, .d (.bl m)] = _
  generalize mWhile 1000 (mTru (mVar 2)) (bodyW (cs (k + 4))) = B at hw ⊢
  walk_at "ev"
  rw [if_pos (by decide : (1 : Nat) ≤ sizeLine)]
  walk_at "ev"
  rw [hw]
  cases withinL m 6 [d] 0 with
  | true =>
    simp only [if_true, Option.bind_some]
    cases e' with
    | nil => rfl
    | cons a e' => cases e' <;> rfl
  | false =>
    simp only [Bool.false_eq_true, if_false, Option.bind_some]
    cases e' with
    | nil => rfl
    | cons a e' => cases e' <;> rfl
theorem e_expr (k : Nat) (d : D) (h : Fit d) : cs (k + 6) 7 [.d d] = some (.bl (withinL true 6 [d] 0), [.d d]) := by
  show defM 1 1 (m_is_expression (cs (k + 5))) [.d d] = _
  unfold m_is_expression
  walk_at "ev"
  rw [e_within k d true h]
  rfl
end Nv

set_option Elab.async false
set_option linter.all false
set_option maxRecDepth 100000
set_option maxHeartbeats 4000000
namespace Nv
open PySem L2 PyProof.Rows PySem.Spec
theorem istup_tup {xs : List D} : isTupD (.tup xs) = true := rfl
local macro_rules | `(tactic| walk_at "ev") => `(tactic| try simp only [defM, mSeq, mIf, mOr, mAnd, mNot, mTru, mIs, mVar, mC, mBl, mChain, mCb, mCons, mNil, mRet, mNext, mAndV, mOrV, mNotV, mOp, mAll, mLst, mSz, mTup, mLc, mLc2, mIStr, mIList, mITup, mYes, mSl, mOSome, mONone, mM1, mSet, mCall, mCallK,
  Option.bind_some, Option.bind_none, le_int, lt_int, gt_int, ge_int, sub_int, add_int, iadd_int, mAug, isD1, dOf, istup_tup, allNo, len_lst, len_tup, isBl_bl, isInt_int, isStr_str, isLst_lst, isTup_tup, data_d, tru_bl, kind_str, kind_tup, kind_lst, kind_bl, kind_int, kind_non, kind_dct, eq_int, in_taken, in_taken2, List.length_cons, List.length_nil, List.cons_append, List.nil_append, List.replicate, List.getElem?_cons_zero, List.getElem?_cons_succ, List.set_cons_zero, List.set_cons_succ, if_true, if_false, Bool.not_true, Bool.not_false, Bool.false_eq_true, Option.any_some, isNo, freeB, Sl.pinned, List.map_cons, List.map_nil, allNo, List.all_cons, List.all_nil, Bool.and_true, mergeS, Nat.reduceAdd, Nat.reduceSub, Nat.zero_add])

/-! ### symbols -/
def kidSum (f : D → Nat) : List D → Nat → Option Nat
  | [], t => some t
  | x :: xs, t => if f x = 0 then none else kidSum f xs (t + f x)
def symb (m : Bool) : Nat → D → Nat
  | 0, _ => 0
  | n + 1, d => if varD d = true then 1 else if pieceD m d = true then (kidSum (symb m n) (kidsD d) 1).getD 0 else 0
def bodyS (c : Nat → Fm) : MS := (mSeq (mSet 5 (mCall 3 (c 13) (mCons (mVar 4) (mCons (mOp (intD fun i j => some (.int (i - j))) (mVar 1) (mC (.int 1))) (mCons (mVar 2) mNil)))))
    (mSeq (mIf (mBl (mOp eqXD (mVar 5) (mC (.int 0)))) (mRet (mC (.int 0))) mNext)
    (mSet 3 (mOp addD (mVar 3) (mVar 5)))))
def Plain (x : Sl) : Prop := x = .no ∨ ∃ y, x = .d y
theorem for_symb {k n : Nat} {m : Bool} {d0 : D} {f : D → Nat} : ∀ (ds : List D) (t : Nat) (x4 x5 : Sl), Plain x4 → Plain x5 →
    (∀ x ∈ ds, cs k 13 [.d x, .d (.int n), .d (.bl m)] = some (.int (f x), [.d x, .d (.int n), .d (.bl m)])) →
    match kidSum f ds t with
      | some t' => ∃ a b, forGo 4 (bodyS (cs k)) ds [.d d0, .d (.int (n + 1 : Nat)), .d (.bl m), .d (.int t), x4, x5] = some (Out.nx, [.d d0, .d (.int (n + 1 : Nat)), .d (.bl m), .d (.int t'), a, b])
      | none => ∃ e1, forGo 4 (bodyS (cs k)) ds [.d d0, .d (.int (n + 1 : Nat)), .d (.bl m), .d (.int t), x4, x5] = some (.rt (.int 0), e1)
  | [], t, x4, x5, _, _, _ => ⟨x4, x5, rfl⟩
  | x :: xs, t, x4, x5, h4, h5, hf => by
    have hx := hf x List.mem_cons_self
    have hfree : freeB [.d d0, .d (.int (n + 1 : Nat)), .d (.bl m), .d (.int t), x4, x5] 4 = true := by rcases h4 with rfl | ⟨y, rfl⟩ <;> rfl
    have en : ((n + 1 : Nat) : Int) - 1 = (n : Int) := by omega
    have step : (bodyS (cs k)) [.d d0, .d (.int (n + 1 : Nat)), .d (.bl m), .d (.int t), .d x, x5] = if f x = 0 then some (.rt (.int 0), [.d d0, .d (.int (n + 1 : Nat)), .d (.bl m), .d (.int t), .d x, .d (.int (f x))]) else some (.nx, [.d d0, .d (.int (n + 1 : Nat)), .d (.bl m), .d (.int (t + f x : Nat)), .d x, .d (.int (f x))]) := by
      unfold bodyS
      rcases h5 with rfl | ⟨y, rfl⟩
      all_goals
        walk_at "ev"
        rw [en, hx]
        walk_at "ev"
        by_cases hz : f x = 0
        · have c : ((f x : Nat) : Int) = 0 := by omega
          simp only [c, hz, decide_true, if_true]
          walk_at "ev"
          try rfl
        · have c : ¬ ((f x : Nat) : Int) = 0 := by omega
          simp only [c, hz, decide_false, Bool.false_eq_true, if_false]
          walk_at "ev"
          rfl
    have go : forGo 4 (bodyS (cs k)) (x :: xs) [.d d0, .d (.int (n + 1 : Nat)), .d (.bl m), .d (.int t), x4, x5] = if f x = 0 then some (.rt (.int 0), [.d d0, .d (.int (n + 1 : Nat)), .d (.bl m), .d (.int t), .d x, .d (.int (f x))]) else forGo 4 (bodyS (cs k)) xs [.d d0, .d (.int (n + 1 : Nat)), .d (.bl m), .d (.int (t + f x : Nat)), .d x, .d (.int (f x))] := by
      rw [show forGo 4 (bodyS (cs k)) (x :: xs) [.d d0, .d (.int (n + 1 : Nat)), .d (.bl m), .d (.int t), x4, x5] = _ from if_pos hfree]
      show Option.bind ((bodyS (cs k)) [.d d0, .d (.int (n + 1 : Nat)), .d (.bl m), .d (.int t), .d x, x5]) _ = _
      rw [step]
      by_cases hz : f x = 0
      · rw [if_pos hz, if_pos hz]
        rfl
      · rw [if_neg hz, if_neg hz]
        rfl
    have ek : kidSum f (x :: xs) t = if f x = 0 then none else kidSum f xs (t + f x) := rfl
    rw [ek, go]
    by_cases hz : f x = 0
    · rw [if_pos hz, if_pos hz]
      exact ⟨_, rfl⟩
    · rw [if_neg hz, if_neg hz]
      exact for_symb (k := k) (n := n) (m := m) (d0 := d0) (f := f) xs (t + f x) (.d x) (.d (.int (f x))) (.inr ⟨_, rfl⟩) (.inr ⟨_, rfl⟩) fun y hy => hf y (List.mem_cons_of_mem _ hy)
theorem merge3 (a b c : D) (e : Env) : mergeS [.d a, .d b, .d c] e = [.d a, .d b, .d c] := by
  match e with
  | [] => rfl
  | [_] => rfl
  | [_, _] => rfl
  | _ :: _ :: _ :: _ => rfl
theorem e_symb (m : Bool) : ∀ (n k : Nat) (d : D), Fit d → cs (k + n + 3) 13 [.d d, .d (.int n), .d (.bl m)] = some (.int (symb m n d), [.d d, .d (.int n), .d (.bl m)])
  | 0, k, d, h => rfl
  | n + 1, k, d, h => by
    have hl : k + (n + 1) + 3 = (k + n + 3) + 1 := by omega
    rw [hl]
    generalize hj : k + n + 3 = j
    have j1 : ∃ i, j = i + 1 := ⟨k + n + 2, by omega⟩
    have j2 : ∃ i, j = i + 2 := ⟨k + n + 1, by omega⟩
    have hv : cs j 11 [.d d] = some (.bl (varD d), [.d d]) := by obtain ⟨i, rfl⟩ := j1; exact e_lvar i d h.one
    have hsub : ∀ x, Fit x → cs j 13 [.d x, .d (.int n), .d (.bl m)] = some (.int (symb m n x), [.d x, .d (.int n), .d (.bl m)]) := fun x hx => by rw [← hj]; exact e_symb m n k x hx
    have fs := fun d0 => for_symb (k := j) (n := n) (m := m) (d0 := d0) (f := symb m n) (kidsD d) 1 .no .no (.inl rfl) (.inl rfl) fun x hx => hsub x (h.kids x hx)
    show defM 3 6 (mSeq (mIf (mBl (mOp eqXD (mVar 1) (mC (.int 0)))) (mRet (mC (.int 0))) mNext)
      (mSeq (mIf (mTru (mCall 1 (cs j 11) (mCons (mVar 0) mNil))) (mRet (mC (.int 1))) mNext)
      (mSeq (mIf (mOr (mNot (mTru (mIs isTupD (mVar 0)))) (mNot (mBl (mChain ltD ltD (mC (.int 0)) (mCb lenD (mCons (mVar 0) mNil)) (mC (.int 5)))))) (mRet (mC (.int 0))) mNext)
      (mSeq (mIf (mAnd (mNot (mTru (mCall 1 (cs j 10) (mCons (mOp ixD (mVar 0) (mC (.int 0))) mNil)))) (mNot (mAnd (mTru (mVar 2)) (mAnd (mBl (mOp gtD (mCb lenD (mCons (mVar 0) mNil)) (mC (.int 1)))) (mTru (mCall 1 (cs j 12) (mCons (mOp ixD (mVar 0) (mC (.int 0))) mNil))))))) (mRet (mC (.int 0))) mNext)
      (mSeq (mSet 3 (mC (.int 1)))
      (mSeq (mFor (mITup (mSl (mVar 0) (mOSome (mC (.int 1))) mONone)) 4 (bodyS (cs j)))
      (mRet (mVar 3)))))))) [.d d, .d (.int (n + 1 : Nat)), .d (.bl m)] = _
    have hT : ∀ xs, d = .tup xs → ∃ e', (mSeq (mSet 3 (mC (.int 1))) (mSeq (mFor (mITup (mSl (mVar 0) (mOSome (mC (.int 1))) mONone)) 4 (bodyS (cs j))) (mRet (mVar 3)))) [.d d, .d (.int (n + 1 : Nat)), .d (.bl m), .no, .no, .no] = some (.rt (.int ((kidSum (symb m n) (kidsD d) 1).getD 0 : Nat)), e') := by
      intro xs hd
      subst hd
      have fs := fs (.tup xs)
      have hI : (mITup (mSl (mVar 0) (mOSome (mC (.int 1))) mONone)) [.d (.tup xs), .d (.int (n + 1 : Nat)), .d (.bl m), .d (.int 1), .no, .no] = some (kidsD (.tup xs), [.d (.tup xs), .d (.int (n + 1 : Nat)), .d (.bl m), .d (.int 1), .no, .no]) := by
        walk_at "ev"
        rw [show slD (.tup xs) (some 1) none = some (.tup (cut xs (some 1) none)) from rfl, cut1]
        rfl
      generalize (mITup (mSl (mVar 0) (mOSome (mC (.int 1))) mONone)) = I at hI ⊢
      unfold mFor
      unfold mSeq mSet mC mRet mVar
      simp only [Option.bind_some, freeB, List.getElem?_cons_zero, List.getElem?_cons_succ, List.set_cons_zero, List.set_cons_succ, Sl.pinned, Bool.not_false, if_true]
      rw [hI]
      simp only [Option.bind_some]
      cases q : kidSum (symb m n) (kidsD (.tup xs)) 1 with
      | none =>
        rw [q] at fs
        obtain ⟨e1, fs⟩ := fs
        rw [show ((1 : Nat) : Int) = 1 from rfl] at fs
        rw [fs]
        exact ⟨_, rfl⟩
      | some t =>
        rw [q] at fs
        obtain ⟨a, b, fs⟩ := fs
        rw [show ((1 : Nat) : Int) = 1 from rfl] at fs
        rw [fs]
        exact ⟨_, rfl⟩
    generalize (mSeq (mSet 3 (mC (.int 1))) (mSeq (mFor (mITup (mSl (mVar 0) (mOSome (mC (.int 1))) mONone)) 4 (bodyS (cs j))) (mRet (mVar 3)))) = T at hT ⊢
    have n0 : ¬ ((n + 1 : Nat) : Int) = 0 := by omega
    walk_at "ev"
    simp only [n0, decide_false, Bool.false_eq_true, if_false]
    walk_at "ev"
    rw [hv]
    walk_at "ev"
    unfold symb
    cases hvd : varD d with
    | true => rfl
    | false =>
      simp only [Bool.false_eq_true, if_false]
      cases ht : isTupD d with
      | false =>
        have hp : pieceD m d = false := by
          unfold pieceD
          rw [hvd]
          cases d <;> first | rfl | cases ht
        rw [hp]
        have hk := h.one.k
        walk_at "ev"
        rw [if_pos hk, ht]
        walk_at "ev"
        rfl
      | true =>
        cases d <;> first | (cases ht; done) | skip
        rename_i xs
        walk_at "ev"
        cases xs with
        | nil => rfl
        | cons w r =>
          have hw : Fit1 w := (h.tup w List.mem_cons_self).one
          have h10 : cs j 10 [.d w] = some (.bl (dotD 2 w), [.d w]) := by obtain ⟨i, rfl⟩ := j2; exact e_lword i w hw
          have h12 : cs j 12 [.d w] = some (.bl (dotD 3 w), [.d w]) := by obtain ⟨i, rfl⟩ := j2; exact e_lmword i w hw
          have i0 : ixD (.tup (w :: r)) (.int 0) = some w := tup_ix0 w r
          have e1 : ((0 : Int) < ((w :: r).length : Nat)) := by rw [List.length_cons]; omega
          have e1' : 1 ≤ (w :: r).length := by rw [List.length_cons]; omega
          have pe : pieceD m (.tup (w :: r)) = (decide ((w :: r).length ≤ 4) && (dotD 2 w || (m && decide (0 < r.length) && dotD 3 w))) := by
            show (varD _ || (decide (1 ≤ (w :: r).length) && decide ((w :: r).length ≤ 4) && headOk m (w :: r))) = _
            rw [hvd, decide_eq_true e1']
            rfl
          rw [pe]
          by_cases h4 : (w :: r).length ≤ 4
          · have e2 : (((w :: r).length : Nat) : Int) < 5 := by omega
            simp only [e1, e2, h4, decide_true, if_true, Bool.true_and, Option.bind_some, isBl_bl, Bool.not_true, Bool.false_eq_true, if_false, tru_bl]
            walk_at "ev"
            rw [i0]
            walk_at "ev"
            rw [h10]
            walk_at "ev"
            obtain ⟨e', hT⟩ := hT _ rfl
            cases h2 : dotD 2 w with
            | true =>
              simp only [Bool.not_true, Bool.false_eq_true, if_false, Bool.true_or, if_true]
              walk_at "ev"
              rw [hT]
              walk_at "ev"
              rw [merge3]
            | false =>
              simp only [Bool.not_false, if_true, Bool.false_or]
              walk_at "ev"
              cases m with
              | false =>
                simp only [Bool.false_and, Bool.false_eq_true, if_false]
                walk_at "ev"
                rfl
              | true =>
                simp only [Bool.true_and, if_true]
                walk_at "ev"
                by_cases hr : 0 < r.length
                · have e3 : (1 : Int) < (r.length + 1 : Nat) := by omega
                  simp only [e3, hr, decide_true, if_true, Bool.true_and]
                  walk_at "ev"
                  rw [i0]
                  walk_at "ev"
                  rw [h12]
                  walk_at "ev"
                  cases h3 : dotD 3 w with
                  | true =>
                    simp only [Bool.not_true, Bool.false_eq_true, if_false, if_true]
                    walk_at "ev"
                    rw [hT]
                    walk_at "ev"
                    rw [merge3]
                  | false =>
                    simp only [Bool.not_false, Bool.false_eq_true, if_false, if_true]
                    walk_at "ev"
                    rfl
                · have e3 : ¬ (1 : Int) < (r.length + 1 : Nat) := by omega
                  simp only [e3, hr, decide_false, Bool.false_and, Bool.false_eq_true, if_false]
                  walk_at "ev"
                  rfl
          · have e2 : ¬ (((w :: r).length : Nat) : Int) < 5 := by omega
            simp only [e1, e2, h4, decide_true, decide_false, if_true, Bool.false_and, Option.bind_some, isBl_bl, Bool.not_false, Bool.not_true, Bool.false_eq_true, if_false, tru_bl]
            walk_at "ev"
            rfl
end Nv

set_option Elab.async false
set_option linter.all false
set_option maxRecDepth 100000
set_option maxHeartbeats 4000000
namespace Nv
open PySem L2 PyProof.Rows PySem.Spec
/-! ### both count alike -/
def okT (m : Bool) : Nat → D → Bool
  | 0, _ => false
  | n + 1, d => pieceD m d && (kidsD d).all (okT m n)
def cnt : Nat → D → Nat
  | 0, _ => 0
  | n + 1, d => 1 + ((kidsD d).map (cnt n)).sum
theorem cnt_pos {m : Bool} : ∀ {n : Nat} {d : D}, okT m n d = true → 0 < cnt n d
  | 0, _, h => by cases h
  | n + 1, d, _ => by show 0 < 1 + _; omega
theorem kidSum_of (f : D → Nat) : ∀ (xs : List D) (t : Nat), kidSum f xs t = if xs.all (fun x => decide (f x ≠ 0)) = true then some (t + (xs.map f).sum) else none
  | [], t => by simp [kidSum]
  | x :: xs, t => by
    show (if f x = 0 then none else kidSum f xs (t + f x)) = _
    by_cases h : f x = 0
    · rw [if_pos h, if_neg]
      rw [List.all_cons, h]
      simp
    · rw [if_neg h, kidSum_of f xs]
      have e : (x :: xs).all (fun x => decide (f x ≠ 0)) = xs.all (fun x => decide (f x ≠ 0)) := by rw [List.all_cons, decide_eq_true h, Bool.true_and]
      rw [e, List.map_cons, List.sum_cons, Nat.add_assoc]
theorem symb_of (m : Bool) : ∀ (n : Nat) (d : D), symb m n d = if okT m n d = true then cnt n d else 0
  | 0, d => rfl
  | n + 1, d => by
    unfold symb
    cases hv : varD d with
    | true =>
      have hp : pieceD m d = true := by unfold pieceD; rw [hv]; rfl
      have hk : kidsD d = [] := by cases d <;> first | rfl | cases hv
      have e1 : okT m (n + 1) d = true := by unfold okT; rw [hp, hk]; rfl
      have e2 : cnt (n + 1) d = 1 := by unfold cnt; rw [hk]; rfl
      rw [e1, e2]
      rfl
    | false =>
      simp only [Bool.false_eq_true, if_false]
      unfold okT
      cases hp : pieceD m d with
      | false => rfl
      | true =>
        simp only [if_true, Bool.true_and]
        rw [kidSum_of]
        have e : (kidsD d).all (fun x => decide (symb m n x ≠ 0)) = (kidsD d).all (okT m n) := by
          congr 1
          funext x
          rw [symb_of m n x]
          cases h : okT m n x with
          | true => simp [Nat.ne_of_gt (cnt_pos h)]
          | false => simp
        rw [e]
        cases ha : (kidsD d).all (okT m n) with
        | false => simp
        | true =>
          simp only [if_true, Option.getD_some]
          show 1 + ((kidsD d).map (symb m n)).sum = 1 + ((kidsD d).map (cnt n)).sum
          congr 2
          refine List.map_congr_left fun x hx => ?_
          rw [symb_of m n x, if_pos (List.all_eq_true.mp ha x hx)]
def sumC (n : Nat) (l : List D) : Nat := (l.map (cnt n)).sum
theorem sumC_flat (n : Nat) : ∀ l : List D, sumC (n + 1) l = l.length + sumC n (l.flatMap kidsD)
  | [] => rfl
  | d :: l => by
    have ih := sumC_flat n l
    unfold sumC at ih ⊢
    rw [List.map_cons, List.sum_cons, ih, List.flatMap_cons, List.map_append, List.sum_append, List.length_cons]
    show (1 + _) + _ = _
    omega
theorem allk_flat (m : Bool) (n : Nat) : ∀ l : List D, l.all (okT m (n + 1)) = (l.all (pieceD m) && (l.flatMap kidsD).all (okT m n))
  | [] => rfl
  | d :: l => by
    rw [List.all_cons, List.all_cons, List.flatMap_cons, List.all_append, allk_flat m n l]
    show ((pieceD m d && (kidsD d).all (okT m n)) && _) = _
    cases pieceD m d <;> cases (kidsD d).all (okT m n) <;> cases l.all (pieceD m) <;> simp
theorem within_of (m : Bool) : ∀ (r : Nat) (l : List D) (s : Nat), withinL m r l s = (l.isEmpty || (l.all (okT m r) && decide (s + sumC r l ≤ 40)))
  | 0, l, s => by
    unfold withinL
    cases l with
    | nil => rfl
    | cons d l => rfl
  | r + 1, l, s => by
    unfold withinL
    cases he : l.isEmpty with
    | true => rfl
    | false =>
      simp only [Bool.false_eq_true, if_false, Bool.false_or]
      rw [allk_flat, sumC_flat, within_of m r]
      cases hp : l.all (pieceD m) with
      | false => simp
      | true =>
        simp only [and_true, Bool.true_and]
        by_cases h : s + l.length ≤ 40
        · rw [if_pos h]
          cases hk : (l.flatMap kidsD).isEmpty with
          | true =>
            have e := List.isEmpty_iff.mp hk
            rw [e]
            have : s + (l.length + sumC r []) ≤ 40 := h
            simp [this]
          | false => simp only [Bool.false_or, Nat.add_assoc]
        · rw [if_neg h]
          have : ¬ s + (l.length + sumC r (l.flatMap kidsD)) ≤ 40 := by omega
          simp [this]
theorem alike (m : Bool) (d : D) : withinL m 6 [d] 0 = decide (0 < symb m 6 d ∧ symb m 6 d < 41) := by
  rw [within_of, symb_of]
  have e : sumC 6 [d] = cnt 6 d := by unfold sumC; simp
  rw [e]
  cases h : okT m 6 d with
  | false => simp [h]
  | true =>
    have hp := cnt_pos h
    simp only [List.isEmpty_cons, Bool.false_or, List.all_cons, List.all_nil, h, Bool.and_true, Bool.true_and, if_true, Nat.zero_add]
    exact decide_eq_decide.mpr ⟨fun z => ⟨hp, by omega⟩, fun z => by omega⟩
end Nv

set_option Elab.async false
set_option linter.all false
set_option maxRecDepth 100000
set_option maxHeartbeats 4000000
namespace Nv
open PySem L2 PyProof.Rows PySem.Spec
local macro_rules | `(tactic| walk_at "ev") => `(tactic| try simp only [defM, mSeq, mIf, mOr, mAnd, mNot, mTru, mIs, mVar, mC, mBl, mChain, mCb, mCons, mNil, mRet, mNext, mAndV, mOrV, mNotV, mOp, mAll, mLst, mSz, mTup, mLc, mLc2, mIStr, mIList, mITup, mYes, mSl, mOSome, mONone, mM1, mSet, mCall, mCallK,
  Option.bind_some, Option.bind_none, le_int, lt_int, gt_int, ge_int, sub_int, add_int, iadd_int, mAug, isD1, dOf, istup_tup, allNo, len_lst, len_tup, isBl_bl, isInt_int, isStr_str, isLst_lst, isTup_tup, data_d, tru_bl, kind_str, kind_tup, kind_lst, kind_bl, kind_int, kind_non, kind_dct, eq_int, in_taken, in_taken2, List.length_cons, List.length_nil, List.cons_append, List.nil_append, List.replicate, List.getElem?_cons_zero, List.getElem?_cons_succ, List.set_cons_zero, List.set_cons_succ, if_true, if_false, Bool.not_true, Bool.not_false, Bool.false_eq_true, Option.any_some, isNo, freeB, Sl.pinned, List.map_cons, List.map_nil, allNo, List.all_cons, List.all_nil, Bool.and_true, mergeS, Nat.reduceAdd, Nat.reduceSub, Nat.zero_add])

theorem rok_two (a b : Bool) : rokB (.lst [.bl a, .bl b]) = true := by cases a <;> cases b <;> decide +kernel
theorem repr_ok {d : D} (h : rokB d = true) : repr1 [d] = some (.str d.py.shown) := if_pos h
theorem eq_str (a b : Str) : eqXD (.str a) (.str b) = some (.bl (decide (a = b))) := rfl
theorem perm1 (d : D) : permD [0] [d] = [d] := rfl
theorem le_two : ((2 : Nat) ≤ sizeLine) = True := eq_true (by decide)
theorem e_right (k : Nat) (d : D) (h : Fit d) (hr : rokB d = true) : cs (k + 10) 19 [.d d] = some (.bl true, [.d d]) := by
  show defM 1 4 (m__law_right (cs (k + 9))) [.d d] = _
  have hs := e_symb true 6 k d h
  have hx : cs (k + 9) 7 [.d d] = some (.bl (withinL true 6 [d] 0), [.d d]) := e_expr (k + 3) d h
  rw [alike] at hx
  have hs : cs (k + 9) 13 [.d d, .d (.int 6), .d (.bl true)] = some (.int (symb true 6 d), [.d d, .d (.int 6), .d (.bl true)]) := hs
  have hdue : (mChain ltD ltD (mC (.int 0)) (mCall 3 (cs (k + 9) 13) (mCons (mVar 0) (mCons (mC (.int 6)) (mCons (mC (.bl true)) mNil)))) (mC (.int 41))) [.d d, .d (.str d.py.shown), .no, .no] = some (.bl (decide (0 < symb true 6 d ∧ symb true 6 d < 41)), [.d d, .d (.str d.py.shown), .no, .no]) := by
    walk_at "ev"
    rw [hs]
    walk_at "ev"
    by_cases h1 : 0 < symb true 6 d
    · have c1 : (0 : Int) < (symb true 6 d : Int) := by omega
      simp only [c1, decide_true, if_true]
      walk_at "ev"
      have e : decide ((symb true 6 d : Int) < 41) = decide (0 < symb true 6 d ∧ symb true 6 d < 41) := decide_eq_decide.mpr (by omega)
      rw [e]
    · have c1 : ¬ (0 : Int) < (symb true 6 d : Int) := by omega
      simp only [c1, decide_false, Bool.false_eq_true, if_false]
      walk_at "ev"
      have e : decide (0 < symb true 6 d ∧ symb true 6 d < 41) = false := decide_eq_false (by omega)
      rw [e]
  unfold m__law_right
  generalize (mChain ltD ltD (mC (.int 0)) (mCall 3 (cs (k + 9) 13) (mCons (mVar 0) (mCons (mC (.int 6)) (mCons (mC (.bl true)) mNil)))) (mC (.int 41))) = M at hdue ⊢
  generalize decide (0 < symb true 6 d ∧ symb true 6 d < 41) = b at hdue hx
  unfold mRepr
  walk_at "ev"
  rw [repr_ok hr]
  walk_at "ev"
  rw [hdue]
  walk_at "ev"
  rw [hx]
  walk_at "ev"
  simp only [perm1, true_and]
  walk_at "ev"
  rw [hx]
  walk_at "ev"
  simp only [le_two, if_true]
  walk_at "ev"
  rw [repr_ok (rok_two b b)]
  walk_at "ev"
  simp only [le_two, if_true]
  walk_at "ev"
  rw [repr_ok (rok_two b b)]
  walk_at "ev"
  rw [eq_str, decide_eq_true rfl]
  walk_at "ev"
  rw [repr_ok hr]
  walk_at "ev"
  rw [eq_str, decide_eq_true rfl]
  rfl
end Nv

set_option Elab.async false
set_option linter.all false
set_option maxRecDepth 100000
set_option maxHeartbeats 4000000
namespace Nv
open PySem L2 PyProof.Rows PySem.Spec
/-! ### the pen -/
def pk (xs : List Int) (n l : Int) : List (Key × D) := [(.inr "cells", .lst (xs.map D.int)), (.inr "at", .int n), (.inr "left", .int l)]
theorem val_left (xs : List Int) (n l : Int) : valD (pk xs n l) (.inr "left") = some (.int l) := rfl
theorem val_at (xs : List Int) (n l : Int) : valD (pk xs n l) (.inr "at") = some (.int n) := rfl
theorem val_cells (xs : List Int) (n l : Int) : valD (pk xs n l) (.inr "cells") = some (.lst (xs.map D.int)) := rfl
theorem put_left (xs : List Int) (n l v : Int) : putD (pk xs n l) (.inr "left") (.int v) = pk xs n v := rfl
theorem put_at (xs : List Int) (n l v : Int) : putD (pk xs n l) (.inr "at") (.int v) = pk xs v l := rfl
theorem pk_len (xs : List Int) (n l : Int) : ((pk xs n l).length < sizeLine) = True := eq_true (by show 3 < sizeLine; decide)
theorem dict_pd (kvs : List (Key × D)) : (Sl.pd kvs).dict = some kvs := rfl
theorem dictTo_pd (a b : List (Key × D)) : (Sl.pd a).dictTo b = .pd b := rfl
theorem dget_left (xs : List Int) (n l : Int) (e : Env) : mDGet 0 (mC (.str "left")) (.pd (pk xs n l) :: e) = some (.int l, .pd (pk xs n l) :: e) := rfl
theorem dget_at (xs : List Int) (n l : Int) (e : Env) : mDGet 0 (mC (.str "at")) (.pd (pk xs n l) :: e) = some (.int n, .pd (pk xs n l) :: e) := rfl
theorem dget_cells (xs : List Int) (n l : Int) (e : Env) : mDGet 0 (mC (.str "cells")) (.pd (pk xs n l) :: e) = some (.lst (xs.map D.int), .pd (pk xs n l) :: e) := rfl
theorem freeB_succ (a : Sl) (e : Env) (j : Nat) : freeB (a :: e) (j + 1) = freeB e j := rfl
theorem freeB_d (x : D) (e : Env) : freeB (.d x :: e) 0 = true := rfl
theorem freeB_no (e : Env) : freeB (.no :: e) 0 = true := rfl
theorem freeB_pd (k : List (Key × D)) (e : Env) : freeB (.pd k :: e) 0 = false := rfl
theorem freeB_od (k : List (Key × D)) (e : Env) : freeB (.od k :: e) 0 = true := rfl
theorem mergeS_d (x : D) (as : List Sl) (y : Sl) (e : Env) : mergeS (.d x :: as) (y :: e) = .d x :: mergeS as e := rfl
theorem mergeS_pd (x : List (Key × D)) (as : List Sl) (y : Sl) (e : Env) : mergeS (.pd x :: as) (y :: e) = y :: mergeS as e := rfl
theorem mergeS_nil (e : Env) : mergeS [] e = [] := rfl
theorem int_int (i : Int) : intOfD [.int i] = some (.int i) := rfl
theorem int_bl (b : Bool) : intOfD [.bl b] = some (.int (if b then 1 else 0)) := rfl
theorem abs_int (i : Int) : absD [.int i] = some (.int (if i < 0 then -i else i)) := rfl
theorem mod_int (i j : Int) : intD (fun i j => if 0 < j then some (.int (i % j)) else none) (.int i) (.int j) = if 0 < j then some (.int (i % j)) else none := rfl
theorem fdiv_int (i j : Int) : intD (fun i j => if CDiv i j then some (.int (i / j)) else none) (.int i) (.int j) = if CDiv i j then some (.int (i / j)) else none := rfl
theorem mul_int (i j : Int) : intD (fun i j => if CMul i j then some (.int (i * j)) else none) (.int i) (.int j) = if CMul i j then some (.int (i * j)) else none := rfl
theorem pow_int (i j : Int) : intD (fun i j => if CPow i j then some (.int (i ^ j.toNat)) else none) (.int i) (.int j) = if CPow i j then some (.int (i ^ j.toNat)) else none := rfl
local macro_rules | `(tactic| walk_at "ev") => `(tactic| try simp only [defM, mSeq, mIf, mOr, mAnd, mNot, mTru, mIs, mVar, mC, mBl, mChain, mCb, mCons, mNil, mRet, mNext, mAndV, mOrV, mNotV, mOp, mAll, mLst, mSz, mTup, mLc, mLc2, mIStr, mIList, mITup, mYes, mSl, mOSome, mONone, mM1, mSet, mCall, mCallK,
  Option.bind_some, Option.bind_none, le_int, lt_int, gt_int, ge_int, sub_int, add_int, iadd_int, mAug, isD1, dOf, dget_left, dget_at, dget_cells, dict_pd, dictTo_pd, put_left, put_at, pk_len, int_int, int_bl, abs_int, mod_int, fdiv_int, mul_int, pow_int, istup_tup, allNo, len_lst, len_tup, isBl_bl, isInt_int, isStr_str, isLst_lst, isTup_tup, data_d, tru_bl, kind_str, kind_tup, kind_lst, kind_bl, kind_int, kind_non, kind_dct, eq_int, in_taken, in_taken2, List.length_cons, List.length_nil, List.cons_append, List.nil_append, List.replicate, List.getElem?_cons_zero, List.getElem?_cons_succ, List.set_cons_zero, List.set_cons_succ, if_true, if_false, Bool.not_true, Bool.not_false, Bool.false_eq_true, Option.any_some, isNo, freeB_succ, freeB_d, freeB_no, freeB_pd, freeB_od, List.map_cons, List.map_nil, allNo, List.all_cons, List.all_nil, Bool.and_true, mergeS_d, mergeS_pd, mergeS_nil, Nat.reduceAdd, Nat.reduceSub, Nat.zero_add])
theorem ints_shp (xs : List Int) : shp (.lst (xs.map D.int)) = true := by
  have h0 : ∀ xs : List Int, deepAll (xs.map D.int) = true ∧ PyData.canLayAll0 (pyAll (xs.map D.int)) = true ∧ PyData.depthAll (pyAll (xs.map D.int)) = 0 := by
    intro xs
    induction xs with
    | nil => exact ⟨rfl, rfl, rfl⟩
    | cons d ds ih =>
      obtain ⟨a, b, c⟩ := ih
      refine ⟨a, b, ?_⟩
      show max 0 (PyData.depthAll (pyAll (ds.map D.int))) = 0
      rw [c]
      rfl
  obtain ⟨a, b, c⟩ := h0 xs
  show (deepAll (xs.map D.int) && (PyData.canLayAll0 (pyAll (xs.map D.int)) && decide (PyData.depthAll (pyAll (xs.map D.int)) + 1 ≤ 64))) = true
  rw [a, b, c]
  rfl
theorem ne_nil {xs : List D} (h : shp (.lst xs) = true) : neXD (.lst xs) (.lst []) = some (.bl (!xs.isEmpty)) := by
  have h1 : eqX (.lst xs) (.lst []) = some (PyData.eqv (.list (pyAll xs)) (.list (pyAll []))) := by
    show (if (shp (.lst xs) && shp (.lst [])) = true then some (PyData.eqv (D.lst xs).py (D.lst []).py) else none) = _
    rw [h]
    rfl
  unfold neXD
  rw [h1]
  cases xs <;> rfl
theorem ix_ints (xs : List Int) (i : Int) (h0 : 0 ≤ i) (h1 : i < xs.length) : ∃ c, ixD (.lst (xs.map D.int)) (.int i) = some (.int c) := by
  refine ⟨xs[i.toNat]'(by omega), ?_⟩
  show L2.atI (xs.map D.int) i = _
  unfold L2.atI ixN
  rw [if_pos h0, if_pos (by rw [List.length_map]; exact h1)]
  show (xs.map D.int)[i.toNat]? = _
  rw [List.getElem?_map, List.getElem?_eq_getElem (by omega)]
  rfl
theorem le_zero : ((0 : Nat) ≤ sizeLine) = True := eq_true (Nat.zero_le _)
def cellB : MS := (mIf (mBl (mOp neXD (mDGet 0 (mC (.str "cells"))) (mLst (mSz mNil)))) (mSet 4 (mOp ixD (mDGet 0 (mC (.str "cells"))) (mOp (intD fun i j => if 0 < j then some (.int (i % j)) else none) (mCb intOfD (mCons (mVar 3) mNil)) (mCb lenD (mCons (mDGet 0 (mC (.str "cells"))) mNil))))) mNext)
theorem cell_ok (xs : List Int) (n n1 l m c0 : Int) (hn : 0 ≤ n) : ∃ c, cellB [.pd (pk xs n1 l), .d (.int m), .no, .d (.int n), .d (.int c0), .no, .no] = some (Out.nx, [.pd (pk xs n1 l), .d (.int m), .no, .d (.int n), .d (.int c), .no, .no]) := by
  unfold cellB
  walk_at "ev"
  simp only [le_zero, if_true]
  walk_at "ev"
  rw [ne_nil (ints_shp xs)]
  walk_at "ev"
  cases xs with
  | nil => exact ⟨c0, rfl⟩
  | cons x r =>
    rw [show (!((x :: r).map D.int).isEmpty) = true from rfl]
    walk_at "ev"
    have hl : (0 : Int) < (r.length + 1 : Nat) := by omega
    simp only [List.length_map, hl, if_true]
    walk_at "ev"
    obtain ⟨c, hc⟩ := ix_ints (x :: r) (n % ((r.length + 1 : Nat) : Int)) (Int.emod_nonneg _ (by omega)) (by rw [List.length_cons]; exact Int.emod_lt_of_pos _ hl)
    refine ⟨c, ?_⟩
    rw [show D.int x :: List.map D.int r = (x :: r).map D.int from rfl, hc]
    rfl
theorem e_draw (k : Nat) (xs : List Int) (n l m : Int) (hm : 0 < m ∧ m ≤ 100) (hn : 0 ≤ n ∧ n ≤ 4000000) (hl : 0 ≤ l) :
    ∃ d n' l', cs (k + 1) 8 [.pd (pk xs n l), .d (.int m)] = some (.int d, [.pd (pk xs n' l'), .d (.int m)]) ∧ 0 ≤ d ∧ d < m ∧ n ≤ n' ∧ n' ≤ n + 1 ∧ 0 ≤ l' := by
  show ∃ d n' l', defM 2 7 (m__law_draw (cs k)) [.pd (pk xs n l), .d (.int m)] = _ ∧ _
  have hB := fun c0 => cell_ok xs n (n + 1) l m c0 hn.1
  unfold m__law_draw mDPut
  unfold cellB at hB
  generalize (mIf (mBl (mOp neXD (mDGet 0 (mC (.str "cells"))) (mLst (mSz mNil)))) (mSet 4 (mOp ixD (mDGet 0 (mC (.str "cells"))) (mOp (intD fun i j => if 0 < j then some (.int (i % j)) else none) (mCb intOfD (mCons (mVar 3) mNil)) (mCb lenD (mCons (mDGet 0 (mC (.str "cells"))) mNil))))) mNext) = B at hB ⊢
  have cd : ∀ i : Int, CDiv i m := fun i => ⟨hm.1, by omega⟩
  walk_at "ev"
  by_cases h0 : 0 < l
  · simp only [h0, decide_true, if_true]
    walk_at "ev"
    simp only [hm.1, if_true]
    walk_at "ev"
    simp only [cd, if_true]
    walk_at "ev"
    exact ⟨_, _, _, rfl, Int.emod_nonneg _ (by omega), Int.emod_lt_of_pos _ hm.1, Int.le_refl _, by omega, Int.ediv_nonneg hl (by omega)⟩
  · simp only [h0, decide_false, Bool.false_eq_true, if_false]
    walk_at "ev"
    have cm : CMul 7411 n := .inl ⟨by decide, by decide⟩
    simp only [cm, if_true]
    walk_at "ev"
    obtain ⟨c, hB⟩ := hB (7411 * n + 389)
    rw [hB]
    walk_at "ev"
    have cp : CPow 10 18 := by decide
    have ee : Int.toNat 18 = 18 := rfl
    simp only [List.length_map, cp, if_true, ee]
    walk_at "ev"
    have p1 : ((0 : Int) < 2147483563) = True := eq_true (by decide)
    have p2 : ((0 : Int) < 2147483647) = True := eq_true (by decide)
    have p3 : ((0 : Int) < 2147483587) = True := eq_true (by decide)
    have c2 : ∀ i : Int, CMul 2 i := fun i => .inl ⟨by decide, by decide⟩
    have c3 : ∀ i : Int, CMul 52361 i := fun i => .inl ⟨by decide, by decide⟩
    have c4 : ∀ i : Int, CMul 70001 i := fun i => .inl ⟨by decide, by decide⟩
    have hab : 0 ≤ (if c < 0 then -c else c) := by split <;> omega
    have tst : ∃ b : Bool, (if decide (n < (xs.length : Int)) = true then some (decide ((10 : Int) ^ 18 ≤ if c < 0 then -c else c), [Sl.pd (pk xs (n + 1) l), Sl.d (D.int m), Sl.no, Sl.d (D.int n), Sl.d (D.int c), Sl.no, Sl.no]) else some (false, [Sl.pd (pk xs (n + 1) l), Sl.d (D.int m), Sl.no, Sl.d (D.int n), Sl.d (D.int c), Sl.no, Sl.no])) = some (b, [Sl.pd (pk xs (n + 1) l), Sl.d (D.int m), Sl.no, Sl.d (D.int n), Sl.d (D.int c), Sl.no, Sl.no]) := by
      split
      · exact ⟨_, rfl⟩
      · exact ⟨_, rfl⟩
    obtain ⟨b, tst⟩ := tst
    rw [tst]
    walk_at "ev"
    cases b with
    | true =>
      simp only [if_true]
      walk_at "ev"
      simp only [c2, if_true]
      walk_at "ev"
      simp only [cd, if_true]
      walk_at "ev"
      simp only [hm.1, if_true]
      walk_at "ev"
      have hg : 0 ≤ 2 * (if c < 0 then -c else c) + (if decide (c < 0) = true then 1 else 0) := by
        have : (0 : Int) ≤ (if decide (c < 0) = true then 1 else 0) := by split <;> decide
        omega
      exact ⟨_, _, _, rfl, Int.emod_nonneg _ (by omega), Int.emod_lt_of_pos _ hm.1, by omega, by omega, Int.ediv_nonneg hg (by omega)⟩
    | false =>
      simp only [Bool.false_eq_true, if_false]
      walk_at "ev"
      simp only [p1, if_true]
      walk_at "ev"
      simp only [c3, if_true]
      walk_at "ev"
      have r1 := Int.emod_nonneg c (show (2147483563 : Int) ≠ 0 by decide)
      have r2 := Int.emod_lt_of_pos c (show (0 : Int) < 2147483563 by decide)
      generalize c % 2147483563 = c1 at r1 r2 ⊢
      have cp1 : CPow (c1 + 52361 * n + 41) 3 := ⟨by decide, by decide, by omega⟩
      simp only [cp1, if_true]
      walk_at "ev"
      simp only [p2, if_true]
      walk_at "ev"
      have r3 := Int.emod_nonneg ((c1 + 52361 * n + 41) ^ Int.toNat 3) (show (2147483647 : Int) ≠ 0 by decide)
      have r4 := Int.emod_lt_of_pos ((c1 + 52361 * n + 41) ^ Int.toNat 3) (show (0 : Int) < 2147483647 by decide)
      generalize (c1 + 52361 * n + 41) ^ Int.toNat 3 % 2147483647 = c5 at r3 r4 ⊢
      simp only [c2, if_true]
      walk_at "ev"
      have cm1 : CMul c5 (2 * n + 9) := .inl ⟨by omega, by omega⟩
      simp only [cm1, if_true]
      walk_at "ev"
      simp only [c4, if_true]
      walk_at "ev"
      have cm2 : CMul (70001 * n) n := .inl ⟨by omega, by omega⟩
      simp only [cm2, if_true]
      walk_at "ev"
      have cp2 : CPow (c5 * (2 * n + 9) + 70001 * n * n + 17) 3 := by
        refine ⟨by decide, by decide, ?_⟩
        have a1 : 0 ≤ c5 * (2 * n + 9) := Int.mul_nonneg r3 (by omega)
        have a2 : c5 * (2 * n + 9) ≤ 2147483647 * 8000009 := Int.mul_le_mul (by omega) (by omega) (by omega) (by decide)
        have a3 : 0 ≤ 70001 * n * n := Int.mul_nonneg (by omega) hn.1
        have a4 : 70001 * n * n ≤ 70001 * 4000000 * 4000000 := Int.mul_le_mul (by omega) hn.2 hn.1 (by decide)
        omega
      simp only [cp2, if_true]
      walk_at "ev"
      simp only [p3, if_true]
      walk_at "ev"
      have cd32 : ∀ i : Int, CDiv i 32 := fun i => ⟨by decide, by decide⟩
      simp only [cd32, if_true]
      walk_at "ev"
      simp only [hm.1, if_true]
      walk_at "ev"
      exact ⟨_, _, _, rfl, Int.emod_nonneg _ (by omega), Int.emod_lt_of_pos _ hm.1, by omega, by omega, hl⟩
end Nv

set_option Elab.async false
set_option linter.all false
set_option maxRecDepth 100000
set_option maxHeartbeats 4000000
namespace Nv
open PySem L2 PyProof.Rows PySem.Spec
/-! ### what may be shown -/
mutual
def fitB : D → Bool
  | .ins _ _ => false
  | .ty _ => false
  | .frl _ => false
  | .str s => decide (s.length ≤ 100) && s.cps.toList.all (fun c => decide (c < 0x110000))
  | .tup xs => fitAll xs
  | _ => true
def fitAll : List D → Bool
  | [] => true
  | d :: ds => fitB d && fitAll ds
end
mutual
theorem fit_of : ∀ d : D, fitB d = true → Fit d
  | .non, _ => ⟨⟨rfl, fun _ h => by cases h⟩, fun _ h => by cases h⟩
  | .bl _, _ => ⟨⟨rfl, fun _ h => by cases h⟩, fun _ h => by cases h⟩
  | .int _, _ => ⟨⟨rfl, fun _ h => by cases h⟩, fun _ h => by cases h⟩
  | .lst _, _ => ⟨⟨rfl, fun _ h => by cases h⟩, fun _ h => by cases h⟩
  | .dct _, _ => ⟨⟨rfl, fun _ h => by cases h⟩, fun _ h => by cases h⟩
  | .ins _ _, h => by cases h
  | .ty _, h => by cases h
  | .frl _, h => by cases h
  | .str s, h => by
    have h : (decide (s.length ≤ 100) && s.cps.toList.all (fun c => decide (c < 0x110000))) = true := h
    rw [Bool.and_eq_true] at h
    exact ⟨⟨rfl, fun t e => by cases e; exact ⟨of_decide_eq_true h.1, fun c hc => of_decide_eq_true (List.all_eq_true.mp h.2 c hc)⟩⟩, fun _ h => by cases h⟩
  | .tup xs, h => ⟨⟨rfl, fun _ h => by cases h⟩, fun ys e x hx => by cases e; exact fit_all xs h x hx⟩
theorem fit_all : ∀ ds : List D, fitAll ds = true → ∀ x ∈ ds, Fit x
  | [], _, x, hx => by cases hx
  | d :: ds, h, x, hx => by
    have h : (fitB d && fitAll ds) = true := h
    rw [Bool.and_eq_true] at h
    rcases List.mem_cons.mp hx with z | z
    · rw [z]; exact fit_of d h.1
    · exact fit_all ds h.2 x z
end
structure Nice (n : Nat) (d : D) : Prop where
  fit : Fit d
  plain : d.plain = true
  sh : d.py.showable = true
  dep : d.py.depth ≤ n
  len : d.py.shown.length + 4 ≤ 70 * 4 ^ n
  te : tells d.py = true
structure Pure (n : Nat) (d : D) : Prop extends Nice n d where
  nd : d.py.hasDict = false
  nl : noList d.py = true
def niceB (n : Nat) (d : D) : Bool := fitB d && d.plain && d.py.showable && decide (d.py.depth ≤ n) && decide (d.py.shown.length + 4 ≤ 70 * 4 ^ n) && tells d.py
theorem nice_of {n : Nat} {d : D} (h : niceB n d = true) : Nice n d := by
  unfold niceB at h
  simp only [Bool.and_eq_true, decide_eq_true_eq] at h
  exact ⟨fit_of d h.1.1.1.1.1, h.1.1.1.1.2, h.1.1.1.2, h.1.1.2, h.1.2, h.2⟩
def pureB (n : Nat) (d : D) : Bool := niceB n d && !d.py.hasDict && noList d.py
theorem pure_of {n : Nat} {d : D} (h : pureB n d = true) : Pure n d := by
  unfold pureB at h
  simp only [Bool.and_eq_true, Bool.not_eq_true'] at h
  exact { nice_of h.1.1 with nd := h.1.2, nl := h.2 }
theorem Nice.rok {n : Nat} {d : D} (h : Nice n d) (hn : n ≤ 8) : rokB d = true := rokB_iff ⟨h.plain, h.te, h.sh, Nat.le_trans h.dep (by omega), by
  have h1 : 4 ^ n ≤ 4 ^ 8 := Nat.pow_le_pow_right (by decide) hn
  have h2 := h.len
  have h3 : (4 : Nat) ^ 8 = 65536 := by decide
  have h4 : sizeLine = 16777216 := by decide
  omega⟩
theorem Nice.up {n m : Nat} {d : D} (h : Nice n d) (hn : n ≤ m) : Nice m d := { h with
  dep := Nat.le_trans h.dep hn
  len := Nat.le_trans h.len (Nat.mul_le_mul_left _ (Nat.pow_le_pow_right (by decide) hn)) }
theorem Pure.up {n m : Nat} {d : D} (h : Pure n d) (hn : n ≤ m) : Pure m d := { h with toNice := h.toNice.up hn }
theorem piled_le {n : Nat} : ∀ {xs : List D}, (∀ x ∈ xs, Nice n x) → piled (PyData.shownAll (pyAll xs)) + 2 * xs.length ≤ xs.length * (70 * 4 ^ n)
  | [], _ => by simp [piled, pyAll, PyData.shownAll]
  | x :: xs, h => by
    have h1 := (h x List.mem_cons_self).len
    have ih := piled_le (n := n) (xs := xs) fun y hy => h y (List.mem_cons_of_mem _ hy)
    show piled (x.py.shown :: PyData.shownAll (pyAll xs)) + _ ≤ _
    rw [piled_cons, List.length_cons, Nat.add_mul, Nat.one_mul]
    omega
theorem all_plain {n : Nat} : ∀ {xs : List D}, (∀ x ∈ xs, Nice n x) → plainAll xs = true ∧ PyData.showableAll (pyAll xs) = true ∧ PyData.depthAll (pyAll xs) ≤ n ∧ (PyData.shownAll (pyAll xs)).length = xs.length
  | [], _ => ⟨rfl, rfl, Nat.zero_le _, rfl⟩
  | x :: xs, h => by
    have hx := h x List.mem_cons_self
    obtain ⟨a, b, c, e⟩ := all_plain (n := n) (xs := xs) fun y hy => h y (List.mem_cons_of_mem _ hy)
    refine ⟨?_, ?_, ?_, ?_⟩
    · show (x.plain && plainAll xs) = true
      rw [hx.plain, a]; rfl
    · show (x.py.showable && PyData.showableAll (pyAll xs)) = true
      rw [hx.sh, b]; rfl
    · exact Nat.max_le.mpr ⟨hx.dep, c⟩
    · show (PyData.shownAll (pyAll xs)).length + 1 = _
      rw [e]; rfl
theorem nice_tup {n : Nat} {xs : List D} (h : ∀ x ∈ xs, Nice n x) (hl : xs.length ≤ 4) (te : tells (D.tup xs).py = true) : Nice (n + 1) (.tup xs) := by
  obtain ⟨a, b, c, e⟩ := all_plain h
  have hp := piled_le h
  refine ⟨⟨⟨rfl, fun _ z => by cases z⟩, fun ys z x hx => by cases z; exact (h x hx).fit⟩, a, b, Nat.succ_le_succ c, ?_, te⟩
  have h1 : xs.length * (70 * 4 ^ n) ≤ 4 * (70 * 4 ^ n) := Nat.mul_le_mul_right _ hl
  have h2 : 70 * 4 ^ (n + 1) = 4 * (70 * 4 ^ n) := by rw [Nat.pow_succ]; omega
  have h3 : 1 ≤ 4 ^ n := Nat.one_le_pow _ _ (by decide)
  rw [h2]
  have ht : (tupleText (PyData.shownAll (pyAll xs))).length ≤ piled (PyData.shownAll (pyAll xs)) + 3 := by
    unfold tupleText
    rw [strLen_append, strLen_append]
    have t1 : ((if ((PyData.shownAll (pyAll xs)).length == 1) = true then ",)" else ")" : String) : Str).length ≤ 2 := by split <;> decide
    have t2 : (("(" : String) : Str).length = 1 := rfl
    by_cases hz : PyData.shownAll (pyAll xs) = []
    · rw [hz] at t1 ⊢
      have : (Str.join ", " []).length = 0 := rfl
      rw [this]
      have t3 : (("(" : String) : Str).length = 1 := rfl
      simp only [piled] at *
      omega
    · have := join_length_add _ hz
      omega
  show (tupleText (PyData.shownAll (pyAll xs))).length + 4 ≤ _
  by_cases hx : xs = []
  · subst hx
    have : (tupleText (PyData.shownAll (pyAll []))).length = 2 := rfl
    rw [this]
    omega
  · have : 1 ≤ xs.length := List.length_pos_iff.mpr hx
    by_cases hq : xs.length = 4
    · rw [hq] at hp
      omega
    · have : xs.length * (70 * 4 ^ n) ≤ 3 * (70 * 4 ^ n) := Nat.mul_le_mul_right _ (by omega)
      omega
end Nv

set_option Elab.async false
set_option linter.all false
set_option maxRecDepth 100000
set_option maxHeartbeats 4000000
namespace Nv
open PySem L2 PyProof.Rows PySem.Spec
local macro_rules | `(tactic| walk_at "ev") => `(tactic| try simp only [defM, mSeq, mIf, mOr, mAnd, mNot, mTru, mIs, mVar, mC, mBl, mChain, mCb, mCons, mNil, mRet, mNext, mAndV, mOrV, mNotV, mOp, mAll, mLst, mSz, mTup, mLc, mLc2, mIStr, mIList, mITup, mYes, mSl, mOSome, mONone, mM1, mSet, mCall, mCallK,
  Option.bind_some, Option.bind_none, le_int, lt_int, gt_int, ge_int, sub_int, add_int, iadd_int, mAug, isD1, dOf, dget_left, dget_at, dget_cells, dict_pd, dictTo_pd, put_left, put_at, pk_len, int_int, int_bl, abs_int, mod_int, fdiv_int, mul_int, pow_int, istup_tup, allNo, len_lst, len_tup, isBl_bl, isInt_int, isStr_str, isLst_lst, isTup_tup, data_d, tru_bl, kind_str, kind_tup, kind_lst, kind_bl, kind_int, kind_non, kind_dct, eq_int, in_taken, in_taken2, List.length_cons, List.length_nil, List.cons_append, List.nil_append, List.replicate, List.getElem?_cons_zero, List.getElem?_cons_succ, List.set_cons_zero, List.set_cons_succ, if_true, if_false, Bool.not_true, Bool.not_false, Bool.false_eq_true, Option.any_some, isNo, freeB_succ, freeB_d, freeB_no, freeB_pd, freeB_od, List.map_cons, List.map_nil, allNo, List.all_cons, List.all_nil, Bool.and_true, mergeS_d, mergeS_pd, mergeS_nil, Nat.reduceAdd, Nat.reduceSub, Nat.zero_add])

/-! ### the pen is handed on -/
theorem callP0 {np : Nat} {c : Fm} {a : M (List D)} {K K1 K2 : List (Key × D)} {e e1 : Env} {ds : List D} {d : D} {r : List Sl} (ha : a (.pd K :: e) = some (ds, .pd K1 :: e1)) (hl : ds.length + 1 = np) (hc : c (.pd K1 :: ds.map .d) = some (d, .pd K2 :: r)) : mCallP np 0 c a (.pd K :: e) = some (d, .pd K2 :: e1) := by
  unfold mCallP
  show (some (Sl.pd K)).bind _ = _
  simp only [Option.bind_some]
  rw [ha]
  simp only [Option.bind_some]
  show (some (Sl.pd K1)).bind _ = _
  simp only [Option.bind_some, if_pos hl]
  rw [show (Sl.pd K1).lend = .pd K1 from rfl, hc]
  rfl
theorem callP1 {np : Nat} {c : Fm} {a : M (List D)} {x x1 : Sl} {K K1 K2 : List (Key × D)} {e e1 : Env} {ds : List D} {d : D} {r : List Sl} (ha : a (x :: .od K :: e) = some (ds, x1 :: .od K1 :: e1)) (hl : ds.length + 1 = np) (hc : c (.pd K1 :: ds.map .d) = some (d, .pd K2 :: r)) : mCallP np 1 c a (x :: .od K :: e) = some (d, x1 :: .od K2 :: e1) := by
  unfold mCallP
  show (some (Sl.od K)).bind _ = _
  simp only [Option.bind_some]
  rw [ha]
  simp only [Option.bind_some]
  show (some (Sl.od K1)).bind _ = _
  simp only [Option.bind_some, if_pos hl]
  rw [show (Sl.od K1).lend = .pd K1 from rfl, hc]
  rfl
/-- a pen that may still be asked -/
structure PenAt (xs : List Int) (N : Int) (K : List (Key × D)) : Prop where
  ex : ∃ n l, K = pk xs n l ∧ 0 ≤ n ∧ n ≤ N ∧ 0 ≤ l
theorem draw (k : Nat) {xs : List Int} {N m : Int} {K : List (Key × D)} (h : PenAt xs N K) (hm : 0 < m ∧ m ≤ 100) (hN : N ≤ 4000000) : ∃ d K', cs (k + 1) 8 [.pd K, .d (.int m)] = some (.int d, [.pd K', .d (.int m)]) ∧ 0 ≤ d ∧ d < m ∧ PenAt xs (N + 1) K' := by
  obtain ⟨n, l, rfl, h0, h1, h2⟩ := h.ex
  obtain ⟨d, n', l', e, a, b, c1, c2, c3⟩ := e_draw k xs n l m hm ⟨h0, by omega⟩ h2
  exact ⟨d, pk xs n' l', e, a, b, ⟨n', l', rfl, by omega, by omega, c3⟩⟩
theorem PenAt.up {xs : List Int} {N M : Int} {K : List (Key × D)} (h : PenAt xs N K) (hm : N ≤ M) : PenAt xs M K := by
  obtain ⟨n, l, e, a, b, c⟩ := h.ex
  exact ⟨n, l, e, a, by omega, c⟩
/-- draw(pen, m), the pen in the slot 0 -/
theorem draw0 (k : Nat) {xs : List Int} {N m : Int} {K : List (Key × D)} (h : PenAt xs N K) (hm : 0 < m ∧ m ≤ 100) (hN : N ≤ 4000000) : ∃ d K', (∀ e, mCallP 2 0 (cs (k + 1) 8) (mCons (mC (.int m)) mNil) (.pd K :: e) = some (.int d, .pd K' :: e)) ∧ 0 ≤ d ∧ d < m ∧ PenAt xs (N + 1) K' := by
  obtain ⟨d, K', e1, a, b, c⟩ := draw k h hm hN
  exact ⟨d, K', fun e => callP0 (ds := [.int m]) rfl rfl e1, a, b, c⟩

/-! ### odd values -/
def oddE : Option (D × Env) := (match m__law_odd (fun _ _ => some (.int 0, [.pd []])) [.pd [], .no] with
  | some (_, [_, .d x]) => some (x, [])
  | _ => none)
def oddL : List D := match oddE with
  | some (.lst xs, _) => xs
  | _ => []
theorem odd_len : oddL.length = 34 := by decide +kernel
theorem odd_nice : oddL.all (niceB 2) = true := by decide +kernel
theorem odd_run (c : Nat → Fm) (K : List (Key × D)) : m__law_odd c [.pd K, .no] = mRet (mOp ixD (mVar 1) (mCallP 2 0 (c 8) (mCons (mC (.int 34)) mNil))) [.pd K, .d (.lst oddL)] := by
  rfl
end Nv

set_option Elab.async false
set_option linter.all false
set_option maxRecDepth 100000
set_option maxHeartbeats 400000
namespace Nv
open PySem L2 PyProof.Rows PySem.Spec
local macro_rules | `(tactic| walk_at "ev") => `(tactic| try simp only [defM, mSeq, mIf, mOr, mAnd, mNot, mTru, mIs, mVar, mC, mBl, mChain, mCb, mCons, mNil, mRet, mNext, mAndV, mOrV, mNotV, mOp, mAll, mLst, mSz, mTup, mLc, mLc2, mIStr, mIList, mITup, mYes, mSl, mOSome, mONone, mM1, mSet, mCall, mCallK,
  Option.bind_some, Option.bind_none, le_int, lt_int, gt_int, ge_int, sub_int, add_int, iadd_int, mAug, isD1, dOf, dget_left, dget_at, dget_cells, dict_pd, dictTo_pd, put_left, put_at, pk_len, int_int, int_bl, abs_int, mod_int, fdiv_int, mul_int, pow_int, istup_tup, allNo, len_lst, len_tup, isBl_bl, isInt_int, isStr_str, isLst_lst, isTup_tup, data_d, tru_bl, kind_str, kind_tup, kind_lst, kind_bl, kind_int, kind_non, kind_dct, eq_int, in_taken, in_taken2, List.length_cons, List.length_nil, List.cons_append, List.nil_append, List.replicate, List.getElem?_cons_zero, List.getElem?_cons_succ, List.set_cons_zero, List.set_cons_succ, if_true, if_false, Bool.not_true, Bool.not_false, Bool.false_eq_true, Option.any_some, isNo, freeB_succ, freeB_d, freeB_no, freeB_pd, freeB_od, List.map_cons, List.map_nil, allNo, List.all_cons, List.all_nil, Bool.and_true, mergeS_d, mergeS_pd, mergeS_nil, Nat.reduceAdd, Nat.reduceSub, Nat.zero_add])

theorem ix_at {xs : List D} {i : Int} (h0 : 0 ≤ i) (h1 : i < xs.length) : ∃ d, ixD (.lst xs) (.int i) = some d ∧ d ∈ xs := by
  refine ⟨xs[i.toNat]'(by omega), ?_, List.getElem_mem _⟩
  show L2.atI xs i = _
  unfold L2.atI ixN
  rw [if_pos h0, if_pos h1]
  show xs[i.toNat]? = _
  rw [List.getElem?_eq_getElem (by omega)]
theorem e_odd (k : Nat) {xs : List Int} {N : Int} {K : List (Key × D)} (h : PenAt xs N K) (hN : N ≤ 4000000) : ∃ d K', cs (k + 2) 14 [.pd K] = some (d, [.pd K']) ∧ Nice 2 d ∧ PenAt xs (N + 1) K' := by
  obtain ⟨i, K', hd, h0, h1, hp⟩ := draw0 (m := 34) k h (by decide) hN
  obtain ⟨d, hx, hm⟩ := ix_at (xs := oddL) h0 (by rw [odd_len]; exact h1)
  refine ⟨d, K', ?_, nice_of (List.all_eq_true.mp odd_nice d hm), hp⟩
  show defM 1 2 (m__law_odd (cs (k + 1))) [.pd K] = _
  have hr : m__law_odd (cs (k + 1)) [.pd K, .no] = some (.rt d, [.pd K', .d (.lst oddL)]) := by
    rw [odd_run]
    generalize oddL = L at hx ⊢
    unfold mRet mOp mVar
    simp only [List.getElem?_cons_zero, List.getElem?_cons_succ, Option.bind_some, data_d, List.set_cons_zero, List.set_cons_succ, hd, hx]
  generalize m__law_odd (cs (k + 1)) = F at hr ⊢
  unfold defM
  simp only [List.length_cons, List.length_nil, Nat.zero_add, if_true, List.cons_append, List.nil_append, Nat.reduceSub, List.replicate, hr, Option.bind_some, mergeS_pd, mergeS_nil]

/-! ### expressions -/
inductive Tree : Nat → D → Prop
  | leaf {n : Nat} {s : Str} (h : Pure 0 (.str s)) : Tree n (.str s)
  | node {n : Nat} {w : Str} {r : List D} (hw : Pure 0 (.str w)) (hl : r.length ≤ 3) (hr : ∀ x ∈ r, Tree n x) : Tree (n + 1) (.tup (.str w :: r))
theorem Tree.pure : ∀ {n : Nat} {d : D}, Tree n d → Pure n d
  | _, _, .leaf h => h.up (Nat.zero_le _)
  | _, _, .node hw hl hr => by
    rename_i n w r
    have hx : ∀ x ∈ D.str w :: r, Pure n x := fun x hx => by
      rcases List.mem_cons.mp hx with z | z
      · rw [z]; exact hw.up (Nat.zero_le _)
      · exact (hr x z).pure
    have a1 : ∀ ys : List D, (∀ x ∈ ys, Pure n x) → PyData.hasDictAll (pyAll ys) = false ∧ noListAll (pyAll ys) = true := by
      intro ys
      induction ys with
      | nil => intro _; exact ⟨rfl, rfl⟩
      | cons y ys ih =>
        intro hy
        obtain ⟨a, b⟩ := ih fun x hx => hy x (List.mem_cons_of_mem _ hx)
        have h0 := hy y List.mem_cons_self
        refine ⟨?_, ?_⟩
        · show (y.py.hasDict || PyData.hasDictAll (pyAll ys)) = false
          rw [h0.nd, a]; rfl
        · show (noList y.py && noListAll (pyAll ys)) = true
          rw [h0.nl, b]; rfl
    obtain ⟨b1, b2⟩ := a1 _ hx
    have te : tells (D.tup (.str w :: r)).py = true := by
      show (!(PyData.hasDictAll (pyAll (D.str w :: r))) || noListAll (pyAll (D.str w :: r))) = true
      rw [b1]; rfl
    exact { nice_tup (fun x h => (hx x h).toNice) (by rw [List.length_cons]; omega) te with nd := b1, nl := b2 }
theorem Tree.up {n m : Nat} {d : D} (h : Tree n d) : n ≤ m → Tree m d := by
  induction h generalizing m with
  | leaf h => exact fun _ => .leaf h
  | node hw hl hr ih =>
    intro hm
    obtain ⟨m, rfl⟩ : ∃ i, m = i + 1 := ⟨m - 1, by omega⟩
    exact .node hw hl fun x hx => ih x hx (by omega)
def cost : Nat → Int
  | 0 => 1
  | n + 1 => 3 + 3 * cost n
theorem cost_pos : ∀ n, 1 ≤ cost n
  | 0 => Int.le_refl _
  | n + 1 => by have := cost_pos n; show 1 ≤ 3 + 3 * cost n; omega
def leafL : List D := [.str "T", .str "Z999", .tup [.str "base.int"]]
theorem tree_leaf {d : D} (h : d ∈ leafL) (n : Nat) : Tree (n + 1) d := by
  have h1 : Pure 0 (.str "T") := pure_of (by decide +kernel)
  have h2 : Pure 0 (.str "Z999") := pure_of (by decide +kernel)
  have h3 : Pure 0 (.str "base.int") := pure_of (by decide +kernel)
  unfold leafL at h
  rcases List.mem_cons.mp h with rfl | h
  · exact .leaf h1
  rcases List.mem_cons.mp h with rfl | h
  · exact .leaf h2
  rw [List.mem_singleton.mp h]
  exact .node h3 (by decide) fun x hx => by cases hx
def menuL : List D := [.str "base.list", .str "base.seq.item", .str "a.b.c", .str "zzzzzzzz.zzzzzzzz.zzzzzzzz", .str "base.pair"]
theorem menu_pure : menuL.all (pureB 0) = true := by decide +kernel
theorem menu_str {d : D} (h : d ∈ menuL) : ∃ w, d = .str w ∧ Pure 0 (.str w) := by
  have hp := pure_of (List.all_eq_true.mp menu_pure d h)
  unfold menuL at h
  simp only [List.mem_cons, List.not_mem_nil, or_false] at h
  rcases h with rfl | rfl | rfl | rfl | rfl <;> exact ⟨_, rfl, hp⟩
end Nv

set_option Elab.async false
set_option linter.all false
set_option maxRecDepth 100000
set_option maxHeartbeats 400000
namespace Nv
open PySem L2 PyProof.Rows PySem.Spec
local macro_rules | `(tactic| walk_at "ev") => `(tactic| try simp only [defM, mSeq, mIf, mOr, mAnd, mNot, mTru, mIs, mVar, mC, mBl, mChain, mCb, mCons, mNil, mRet, mNext, mAndV, mOrV, mNotV, mOp, mAll, mLst, mSz, mTup, mLc, mLc2, mIStr, mIList, mITup, mYes, mSl, mOSome, mONone, mM1, mSet, mCall, mCallK,
  Option.bind_some, Option.bind_none, le_int, lt_int, gt_int, ge_int, sub_int, add_int, iadd_int, mAug, isD1, dOf, dget_left, dget_at, dget_cells, dict_pd, dictTo_pd, put_left, put_at, pk_len, int_int, int_bl, abs_int, mod_int, fdiv_int, mul_int, pow_int, istup_tup, allNo, len_lst, len_tup, isBl_bl, isInt_int, isStr_str, isLst_lst, isTup_tup, data_d, tru_bl, kind_str, kind_tup, kind_lst, kind_bl, kind_int, kind_non, kind_dct, eq_int, in_taken, in_taken2, List.length_cons, List.length_nil, List.cons_append, List.nil_append, List.replicate, List.getElem?_cons_zero, List.getElem?_cons_succ, List.set_cons_zero, List.set_cons_succ, if_true, if_false, Bool.not_true, Bool.not_false, Bool.false_eq_true, Option.any_some, isNo, freeB_succ, freeB_d, freeB_no, freeB_pd, freeB_od, List.map_cons, List.map_nil, allNo, List.all_cons, List.all_nil, Bool.and_true, mergeS_d, mergeS_pd, mergeS_nil, Nat.reduceAdd, Nat.reduceSub, Nat.zero_add])

theorem lc_pen {j : Nat} {m : M D} {T : D → Prop} {xs : List Int} {C LIM : Int} {e : Env} (hj : e[j]? = some .no) (hC : 0 ≤ C)
    (step : ∀ (N : Int) (K : List (Key × D)) (x : D), PenAt xs N K → N + C ≤ LIM → ∃ d K', m (.pd K :: e.set j (.d x)) = some (d, .pd K' :: e.set j (.d x)) ∧ T d ∧ PenAt xs (N + C) K') :
    ∀ (ds acc : List D) (N : Int) (K : List (Key × D)), PenAt xs N K → N + ds.length * C ≤ LIM → acc.length + ds.length ≤ 1000 →
      ∃ rs K', lcGo (j + 1) mYes m ds acc (.pd K :: e) = some (acc ++ rs, .pd K' :: e) ∧ rs.length = ds.length ∧ (∀ r ∈ rs, T r) ∧ PenAt xs (N + ds.length * C) K'
  | [], acc, N, K, h, _, _ => ⟨[], K, (by rw [List.append_nil]; rfl), rfl, (fun _ z => (by cases z)), (by simpa using h)⟩
  | x :: ds, acc, N, K, h, hN, hl => by
    have e1 : (((x :: ds).length : Nat) : Int) * C = C + (ds.length : Int) * C := by rw [List.length_cons, Int.natCast_add, Int.add_mul]; omega
    have hp : 0 ≤ (ds.length : Int) * C := Int.mul_nonneg (by omega) hC
    rw [List.length_cons] at hl
    obtain ⟨d, K1, hm, hT, hK⟩ := step N K x h (by omega)
    obtain ⟨rs, K2, a, b, c, p⟩ := lc_pen hj hC step ds (acc ++ [d]) (N + C) K1 hK (by omega) (by rw [List.length_append]; simp; omega)
    refine ⟨d :: rs, K2, ?_, by rw [List.length_cons, List.length_cons, b], fun r hr => ?_, p.up (by omega)⟩
    · unfold lcGo
      have hz : acc.length < sizeLine := by have : sizeLine = 16777216 := by decide
                                            omega
      simp only [mYes, Option.bind_some, if_true, List.set_cons_succ]
      rw [hm]
      simp only [Option.bind_some, if_pos hz, List.set_cons_succ, set_no hj]
      rw [a, List.append_assoc]
      rfl
    · rcases List.mem_cons.mp hr with z | z
      · rw [z]; exact hT
      · exact c r z
theorem rng_n {n : Int} (h : 0 ≤ n ∧ n ≤ 1000) : rngD [.int n] = some (upto n.toNat) := if_pos ⟨by omega, by omega⟩
theorem upto_len (n : Nat) : (upto n).length = n := by unfold upto; rw [List.length_map, List.length_range]
theorem tupOf_lst (xs : List D) : tupOfD [.lst xs] = some (.tup xs) := rfl
theorem add_tup {a b : List D} (h : a.length + b.length ≤ sizeLine) : addD (.tup a) (.tup b) = some (.tup (a ++ b)) := if_pos h
theorem le_three : ((3 : Nat) ≤ sizeLine) = True := eq_true (by decide)
theorem le_five : ((5 : Nat) ≤ sizeLine) = True := eq_true (by decide)
theorem le_one : ((1 : Nat) ≤ sizeLine) = True := eq_true (by decide)
theorem e_tree {xs : List Int} : ∀ (n k : Nat) (N : Int) (K : List (Key × D)), PenAt xs N K → N + cost n ≤ 4000000 → ∃ d K', cs (k + n + 2) 17 [.pd K, .d (.int n)] = some (d, [.pd K', .d (.int n)]) ∧ Tree (n + 1) d ∧ PenAt xs (N + cost n) K'
  | 0, k, N, K, h, hN => by
    obtain ⟨i, K', hd, h0, h1, hp⟩ := draw0 (m := 3) k h (by decide) (by have := cost_pos 0; omega)
    obtain ⟨d, hx, hm⟩ := ix_at (xs := leafL) h0 (by show i < 3; exact h1)
    refine ⟨d, K', ?_, tree_leaf hm 0, hp⟩
    show defM 2 5 (m__law_expression (cs (k + 1))) [.pd K, .d (.int 0)] = _
    unfold m__law_expression
    walk_at "ev"
    simp only [decide_true, if_true]
    walk_at "ev"
    simp only [le_one, le_three, if_true]
    walk_at "ev"
    simp only [le_one, le_three, if_true]
    walk_at "ev"
    rw [hd]
    walk_at "ev"
    rw [show ixD (.lst [D.str "T", D.str "Z999", D.tup [D.str "base.int"]]) (.int i) = some d from hx]
    walk_at "ev"
    rfl
  | n + 1, k, N, K, h, hN => by
    have hc0 := cost_pos n
    have hcs : cost (n + 1) = 3 + 3 * cost n := rfl
    have hlv : k + (n + 1) + 2 = (k + n + 2) + 1 := by omega
    rw [hlv]
    obtain ⟨i0, K0, hd0, a0, b0, p0⟩ := draw0 (m := 4) (k + n + 1) h (by decide) (by omega)
    show ∃ d K', defM 2 5 (m__law_expression (cs (k + n + 2))) [.pd K, .d (.int (n + 1 : Nat))] = _ ∧ _
    have n0 : ¬ ((n + 1 : Nat) : Int) = 0 := by omega
    have en : ((n + 1 : Nat) : Int) - 1 = (n : Int) := by omega
    have hd0 : ∀ e, mCallP 2 0 (cs (k + n + 2) 8) (mCons (mC (.int 4)) mNil) (.pd K :: e) = some (.int i0, .pd K0 :: e) := hd0
    unfold m__law_expression
    walk_at "ev"
    simp only [n0, decide_false, Bool.false_eq_true, if_false]
    walk_at "ev"
    rw [hd0]
    walk_at "ev"
    by_cases hi : i0 = 0
    · obtain ⟨i1, K1, hd1, a1, b1, p1⟩ := draw0 (m := 3) (k + n + 1) p0 (by decide) (by omega)
      have hd1 : ∀ e, mCallP 2 0 (cs (k + n + 2) 8) (mCons (mC (.int 3)) mNil) (.pd K0 :: e) = some (.int i1, .pd K1 :: e) := hd1
      obtain ⟨d, hx, hm⟩ := ix_at (xs := leafL) a1 (by show i1 < 3; exact b1)
      refine ⟨d, K1, ?_, tree_leaf hm (n + 1), p1.up (by omega)⟩
      simp only [hi, decide_true, if_true]
      walk_at "ev"
      simp only [le_one, le_three, if_true]
      walk_at "ev"
      simp only [le_one, le_three, if_true]
      walk_at "ev"
      rw [hd1]
      walk_at "ev"
      rw [show ixD (.lst [D.str "T", D.str "Z999", D.tup [D.str "base.int"]]) (.int i1) = some d from hx]
      walk_at "ev"
      try rfl
    · obtain ⟨i1, K1, hd1, a1, b1, p1⟩ := draw0 (m := 5) (k + n + 1) p0 (by decide) (by omega)
      have hd1 : ∀ e, mCallP 2 0 (cs (k + n + 2) 8) (mCons (mC (.int 5)) mNil) (.pd K0 :: e) = some (.int i1, .pd K1 :: e) := hd1
      obtain ⟨i2, K2, hd2, a2, b2, p2⟩ := draw0 (m := 3) (k + n + 1) p1 (by decide) (by omega)
      have hd2 : ∀ e, mCallP 2 0 (cs (k + n + 2) 8) (mCons (mC (.int 3)) mNil) (.pd K1 :: e) = some (.int i2, .pd K2 :: e) := hd2
      obtain ⟨dw, hx, hm⟩ := ix_at (xs := menuL) a1 (by show i1 < 5; exact b1)
      obtain ⟨w, rfl, hw⟩ := menu_str hm
      have up3 : (upto (1 + i2).toNat).length ≤ 3 := by rw [upto_len]; omega
      obtain ⟨rs, K3, hlc, hrl, hrt, p3⟩ := lc_pen (j := 3) (m := mCallP 2 0 (cs (k + n + 2) 17) (mCons (mOp (intD fun i j => some (.int (i - j))) (mVar 1) (mC (.int 1))) mNil)) (T := Tree (n + 1)) (xs := xs) (C := cost n) (LIM := 4000000)
        (e := [.d (.int (n + 1 : Nat)), .d (.lst menuL), .d (.str w), .no]) rfl (by omega) (fun N K x hK hN => by
          obtain ⟨d, K', e1, hT, hp⟩ := e_tree n k N K hK hN
          refine ⟨d, K', callP0 (ds := [.int n]) ?_ rfl e1, hT, hp⟩
          show some ([D.int (((n + 1 : Nat) : Int) - 1)], _) = _
          rw [en]
          rfl) (upto (1 + i2).toNat) [] (N + 1 + 1 + 1) K2 p2 (by
            have := Int.mul_le_mul_of_nonneg_right (show (((upto (1 + i2).toNat).length : Nat) : Int) ≤ 3 by omega) (show 0 ≤ cost n by omega)
            omega) (by rw [List.length_nil]; omega)
      refine ⟨.tup (.str w :: rs), K3, ?_, .node hw (by rw [hrl]; exact up3) hrt, p3.up (by
        have := Int.mul_le_mul_of_nonneg_right (show (((upto (1 + i2).toNat).length : Nat) : Int) ≤ 3 by omega) (show 0 ≤ cost n by omega)
        omega)⟩
      simp only [hi, decide_false, Bool.false_eq_true, if_false]
      walk_at "ev"
      simp only [le_five, if_true]
      walk_at "ev"
      rw [hd1]
      walk_at "ev"
      rw [show ixD (.lst [D.str "base.list", D.str "base.seq.item", D.str "a.b.c", D.str "zzzzzzzz.zzzzzzzz.zzzzzzzz", D.str "base.pair"]) (.int i1) = some (.str w) from hx]
      walk_at "ev"
      simp only [le_one, if_true]
      walk_at "ev"
      unfold mIRng
      walk_at "ev"
      rw [hd2]
      walk_at "ev"
      rw [rng_n ⟨by omega, by omega⟩]
      walk_at "ev"
      rw [show lcGo 4 mYes (mCallP 2 0 (cs (k + n + 2) 17) (mCons (mOp (intD fun i j => some (.int (i - j))) (mVar 1) (mC (.int 1))) mNil)) (upto (1 + i2).toNat) [] [.pd K2, .d (.int (n + 1 : Nat)), .d (.lst [D.str "base.list", D.str "base.seq.item", D.str "a.b.c", D.str "zzzzzzzz.zzzzzzzz.zzzzzzzz", D.str "base.pair"]), .d (.str w), .no] = some (rs, [.pd K3, .d (.int (n + 1 : Nat)), .d (.lst [D.str "base.list", D.str "base.seq.item", D.str "a.b.c", D.str "zzzzzzzz.zzzzzzzz.zzzzzzzz", D.str "base.pair"]), .d (.str w), .no]) from hlc]
      walk_at "ev"
      rw [tupOf_lst]
      walk_at "ev"
      rw [add_tup (by rw [hrl]; have : sizeLine = 16777216 := by decide
                      simp only [List.length_cons, List.length_nil]; omega)]
      rfl
end Nv

set_option Elab.async false
set_option linter.all false
set_option maxRecDepth 100000
set_option maxHeartbeats 400000
namespace Nv
open PySem L2 PyProof.Rows PySem.Spec
local macro_rules | `(tactic| walk_at "ev") => `(tactic| try simp only [defM, mSeq, mIf, mOr, mAnd, mNot, mTru, mIs, mVar, mC, mBl, mChain, mCb, mCons, mNil, mRet, mNext, mAndV, mOrV, mNotV, mOp, mAll, mLst, mSz, mTup, mLc, mLc2, mIStr, mIList, mITup, mYes, mSl, mOSome, mONone, mM1, mSet, mCall, mCallK,
  Option.bind_some, Option.bind_none, le_int, lt_int, gt_int, ge_int, sub_int, add_int, iadd_int, mAug, isD1, dOf, dget_left, dget_at, dget_cells, dict_pd, dictTo_pd, put_left, put_at, pk_len, int_int, int_bl, abs_int, mod_int, fdiv_int, mul_int, pow_int, istup_tup, allNo, len_lst, len_tup, isBl_bl, isInt_int, isStr_str, isLst_lst, isTup_tup, data_d, tru_bl, kind_str, kind_tup, kind_lst, kind_bl, kind_int, kind_non, kind_dct, eq_int, in_taken, in_taken2, List.length_cons, List.length_nil, List.cons_append, List.nil_append, List.replicate, List.getElem?_cons_zero, List.getElem?_cons_succ, List.set_cons_zero, List.set_cons_succ, if_true, if_false, Bool.not_true, Bool.not_false, Bool.false_eq_true, Option.any_some, isNo, freeB_succ, freeB_d, freeB_no, freeB_pd, freeB_od, List.map_cons, List.map_nil, allNo, List.all_cons, List.all_nil, Bool.and_true, mergeS_d, mergeS_pd, mergeS_nil, Nat.reduceAdd, Nat.reduceSub, Nat.zero_add])

/-! ### bent -/
theorem cut_take {α : Type} (xs : List α) (a : Nat) : cut xs none (some (a : Int)) = xs.take a := by
  unfold cut
  have h0 : HT.sIx xs.length 0 none = 0 := rfl
  rw [h0, HT.sIx_nat, List.drop_zero, Nat.sub_zero]
  by_cases h : a ≤ xs.length
  · rw [Nat.min_eq_left h]
  · rw [Nat.min_eq_right (by omega), List.take_of_length_le (Nat.le_refl _), List.take_of_length_le (by omega)]
theorem cut_drop {α : Type} (xs : List α) (a : Nat) : cut xs (some (a : Int)) none = xs.drop a := by
  unfold cut
  have h0 : HT.sIx xs.length xs.length none = xs.length := rfl
  rw [h0, HT.sIx_nat]
  by_cases h : a ≤ xs.length
  · rw [Nat.min_eq_left h, List.take_of_length_le (by rw [List.length_drop]; omega)]
  · rw [Nat.min_eq_right (by omega), List.drop_of_length_le (Nat.le_refl _), List.drop_of_length_le (by omega)]
    exact List.take_nil
def hereL : List D := [.str "base.seq.item", .tup [.str "base.seq.item"], .tup [.str "base.seq.self", .str "T"], .tup [.str "base..item", .str "T"], .tup [.str "base.a.b.c", .str "T"]]
theorem here_nice : hereL.all (niceB 2) = true := by decide +kernel
theorem add_lst {a b : List D} (h : a.length + b.length ≤ sizeLine) : addD (.lst a) (.lst b) = some (.lst (a ++ b)) := if_pos h
def bentB (c : Nat → Fm) : MS := (mSeq (mSet 2 (mCallP 2 0 (c 8) (mCons (mC (.int 6)) mNil)))
    (mSeq (mSet 3 (mLst (mSz (mCons (mC (.str "base.seq.item")) (mCons (mTup (mCons (mC (.str "base.seq.item")) mNil)) (mCons (mTup (mCons (mC (.str "base.seq.self")) (mCons (mC (.str "T")) mNil))) (mCons (mTup (mCons (mC (.str "base..item")) (mCons (mC (.str "T")) mNil))) (mCons (mTup (mCons (mC (.str "base.a.b.c")) (mCons (mC (.str "T")) mNil))) mNil))))))))
    (mRet (mOp ixD (mOp addD (mVar 3) (mLst (mSz (mCons (mCallP 1 0 (c 14) mNil) mNil)))) (mVar 2)))))
theorem here_run (c : Nat → Fm) (K : List (Key × D)) (d : D) (i : Int) : (mSet 3 (mLst (mSz (mCons (mC (.str "base.seq.item")) (mCons (mTup (mCons (mC (.str "base.seq.item")) mNil)) (mCons (mTup (mCons (mC (.str "base.seq.self")) (mCons (mC (.str "T")) mNil))) (mCons (mTup (mCons (mC (.str "base..item")) (mCons (mC (.str "T")) mNil))) (mCons (mTup (mCons (mC (.str "base.a.b.c")) (mCons (mC (.str "T")) mNil))) mNil)))))))) [.pd K, .d d, .d (.int i), .no, .no] = some (.nx, [.pd K, .d d, .d (.int i), .d (.lst hereL), .no]) := rfl
theorem bent_base (k : Nat) {xs : List Int} {N : Int} {K : List (Key × D)} {item : D} (h : PenAt xs N K) (hN : N + 2 ≤ 4000000) :
    ∃ r K' e', bentB (cs (k + 2)) [.pd K, .d item, .no, .no, .no] = some (.rt r, .pd K' :: e') ∧ Nice 2 r ∧ PenAt xs (N + 2) K' := by
  obtain ⟨i, K0, hd0, a0, b0, p0⟩ := draw0 (m := 6) (k + 1) h (by decide) (by omega)
  obtain ⟨o, K1, ho, hn, p1⟩ := e_odd k p0 (by omega)
  obtain ⟨r, hx, hm⟩ := ix_at (xs := hereL ++ [o]) a0 (by show i < 6; exact b0)
  refine ⟨r, K1, [.d item, .d (.int i), .d (.lst hereL), .no], ?_, ?_, p1.up (by omega)⟩
  · have hd0 : ∀ e, mCallP 2 0 (cs (k + 2) 8) (mCons (mC (.int 6)) mNil) (.pd K :: e) = some (.int i, .pd K0 :: e) := hd0
    have hco : ∀ e, mCallP 1 0 (cs (k + 2) 14) mNil (.pd K0 :: e) = some (o, .pd K1 :: e) := fun e => callP0 (ds := []) rfl rfl ho
    unfold bentB
    have hr := here_run (cs (k + 2)) K0 item i
    generalize (mSet 3 (mLst (mSz (mCons (mC (.str "base.seq.item")) (mCons (mTup (mCons (mC (.str "base.seq.item")) mNil)) (mCons (mTup (mCons (mC (.str "base.seq.self")) (mCons (mC (.str "T")) mNil))) (mCons (mTup (mCons (mC (.str "base..item")) (mCons (mC (.str "T")) mNil))) (mCons (mTup (mCons (mC (.str "base.a.b.c")) (mCons (mC (.str "T")) mNil))) mNil)))))))) = B at hr ⊢
    have hl : hereL.length = 5 := rfl
    generalize hereL = L at hr hx hl ⊢
    walk_at "ev"
    rw [hd0]
    walk_at "ev"
    rw [hr]
    walk_at "ev"
    rw [hco]
    walk_at "ev"
    simp only [le_one, if_true]
    walk_at "ev"
    rw [add_lst (by rw [hl]; show 5 + 1 ≤ sizeLine; decide)]
    walk_at "ev"
    rw [hx]
    walk_at "ev"
  · rcases List.mem_append.mp hm with z | z
    · exact nice_of (List.all_eq_true.mp here_nice r z)
    · rw [List.mem_singleton.mp z]; exact hn

theorem tells_one {a b : List D} {x : D} (ha : ∀ y ∈ a, y.py.hasDict = false ∧ noList y.py = true) (hb : ∀ y ∈ b, y.py.hasDict = false ∧ noList y.py = true) (hx : tells x.py = true) : tells (D.tup (a ++ [x] ++ b)).py = true := by
  have h0 : ∀ ys zs : List D, PyData.hasDictAll (pyAll (ys ++ zs)) = (PyData.hasDictAll (pyAll ys) || PyData.hasDictAll (pyAll zs)) ∧ noListAll (pyAll (ys ++ zs)) = (noListAll (pyAll ys) && noListAll (pyAll zs)) := by
    intro ys zs
    induction ys with
    | nil => exact ⟨rfl, rfl⟩
    | cons y ys ih =>
      refine ⟨?_, ?_⟩
      · show (y.py.hasDict || PyData.hasDictAll (pyAll (ys ++ zs))) = ((y.py.hasDict || PyData.hasDictAll (pyAll ys)) || _)
        rw [ih.1, Bool.or_assoc]
      · show (noList y.py && noListAll (pyAll (ys ++ zs))) = ((noList y.py && noListAll (pyAll ys)) && _)
        rw [ih.2, Bool.and_assoc]
  have h1 : ∀ ys : List D, (∀ y ∈ ys, y.py.hasDict = false ∧ noList y.py = true) → PyData.hasDictAll (pyAll ys) = false ∧ noListAll (pyAll ys) = true := by
    intro ys
    induction ys with
    | nil => intro _; exact ⟨rfl, rfl⟩
    | cons y ys ih =>
      intro hy
      obtain ⟨a, b⟩ := ih fun x hx => hy x (List.mem_cons_of_mem _ hx)
      have h2 := hy y List.mem_cons_self
      refine ⟨?_, ?_⟩
      · show (y.py.hasDict || PyData.hasDictAll (pyAll ys)) = false
        rw [h2.1, a]; rfl
      · show (noList y.py && noListAll (pyAll ys)) = true
        rw [h2.2, b]; rfl
  obtain ⟨a1, a2⟩ := h1 a ha
  obtain ⟨b1, b2⟩ := h1 b hb
  show (!(PyData.hasDictAll (pyAll (a ++ [x] ++ b))) || noListAll (pyAll (a ++ [x] ++ b))) = true
  rw [(h0 _ _).1, (h0 _ _).1, (h0 _ _).2, (h0 _ _).2, a1, a2, b1, b2]
  have hx : (!x.py.hasDict || noList x.py) = true := hx
  show (!(false || (x.py.hasDict || false) || false) || (true && (noList x.py && true) && true)) = true
  rw [Bool.false_or, Bool.or_false, Bool.or_false, Bool.true_and, Bool.and_true, Bool.and_true]
  exact hx
theorem sl_take (xs : List D) (a : Nat) : slD (.tup xs) none (some (a : Int)) = some (.tup (xs.take a)) := by
  show some (D.tup (cut xs none (some (a : Int)))) = _
  rw [cut_take]
theorem sl_drop (xs : List D) (a : Nat) : slD (.tup xs) (some (a : Int)) none = some (.tup (xs.drop a)) := by
  show some (D.tup (cut xs (some (a : Int)) none)) = _
  rw [cut_drop]
theorem ix_tup' {xs : List D} {a : Nat} (h : a < xs.length) : ixD (.tup xs) (.int (a : Int)) = some xs[a] := by
  show L2.atI xs a = _
  unfold L2.atI ixN
  rw [if_pos (by omega), if_pos (by omega)]
  show xs[(a : Int).toNat]? = _
  rw [Int.toNat_natCast, List.getElem?_eq_getElem h]
theorem istr_tup {xs : List D} : isStrD (.tup xs) = false := rfl
theorem istr_str {s : Str} : isStrD (.str s) = true := rfl
theorem merge_pd {K K' : List (Key × D)} {d : D} {e : Env} : mergeS [.pd K, .d d] (.pd K' :: e) = [.pd K', .d d] := by
  cases e <;> rfl
def bentC (c : Nat → Fm) : MS := (mSeq (mSet 4 (mOp addD (mC (.int 1)) (mCallP 2 0 (c 8) (mCons (mOp (intD fun i j => some (.int (i - j))) (mCb lenD (mCons (mVar 1) mNil)) (mC (.int 1))) mNil))))
    (mRet (mOp addD (mOp addD (mSl (mVar 1) mONone (mOSome (mVar 4))) (mTup (mCons (mCallP 2 0 (c 18) (mCons (mOp ixD (mVar 1) (mVar 4)) mNil)) mNil))) (mSl (mVar 1) (mOSome (mOp addD (mVar 4) (mC (.int 1)))) mONone))))
theorem bent_eq (c : Nat → Fm) : m__law_bent c = mSeq (mIf (mOr (mTru (mIs isStrD (mVar 1))) (mOr (mBl (mOp eqXD (mCb lenD (mCons (mVar 1) mNil)) (mC (.int 1)))) (mBl (mOp eqXD (mCallP 2 0 (c 8) (mCons (mC (.int 3)) mNil)) (mC (.int 0)))))) (bentB c) mNext) (bentC c) := rfl
theorem e_bent_str (k : Nat) {xs : List Int} {N : Int} {K : List (Key × D)} {s : Str} (h : PenAt xs N K) (hN : N + 2 ≤ 4000000) : ∃ r K', cs (k + 3) 18 [.pd K, .d (.str s)] = some (r, [.pd K', .d (.str s)]) ∧ Nice 2 r ∧ PenAt xs (N + 2) K' := by
  obtain ⟨r, K', e', hb, hn, hp⟩ := bent_base k (item := .str s) h hN
  refine ⟨r, K', ?_, hn, hp⟩
  show defM 2 5 (m__law_bent (cs (k + 2))) [.pd K, .d (.str s)] = _
  rw [bent_eq]
  generalize bentB (cs (k + 2)) = B at hb ⊢
  generalize bentC (cs (k + 2)) = C
  walk_at "ev"
  simp only [istr_str, tru_bl]
  walk_at "ev"
  rw [hb]
  simp only [Option.bind_some, merge_pd]
theorem e_bent {xs : List Int} : ∀ (n k : Nat) (d : D) (N : Int) (K : List (Key × D)), Tree n d → PenAt xs N K → N + (2 * n + 4) ≤ 4000000 → ∃ r K', cs (k + n + 3) 18 [.pd K, .d d] = some (r, [.pd K', .d d]) ∧ Nice (n + 2) r ∧ PenAt xs (N + (2 * n + 4)) K' := by
  intro n
  induction n with
  | zero =>
    intro k d N K ht h hN
    cases ht with
    | leaf hs =>
      obtain ⟨r, K', e, hn, hp⟩ := e_bent_str k h (by omega)
      exact ⟨r, K', e, hn, hp.up (by omega)⟩
  | succ n ih =>
    intro k d N K ht h hN
    cases ht with
    | leaf hs =>
      obtain ⟨r, K', e, hn, hp⟩ := e_bent_str (k + (n + 1)) h (by omega)
      exact ⟨r, K', e, hn.up (by omega), hp.up (by omega)⟩
    | node hw hl hr =>
      rename_i w r
      show ∃ r_1 K', defM 2 5 (m__law_bent (cs (k + n + 3))) [.pd K, .d (.tup (.str w :: r))] = _ ∧ _
      rw [bent_eq]
      cases r with
      | nil =>
        obtain ⟨r, K', e', hb, hn, hp⟩ := bent_base (k + n + 1) (item := .tup [.str w]) h (by omega)
        refine ⟨r, K', ?_, hn.up (by omega), hp.up (by omega)⟩
        have hb : bentB (cs (k + n + 3)) [.pd K, .d (.tup [.str w]), .no, .no, .no] = _ := hb
        generalize bentB (cs (k + n + 3)) = B at hb ⊢
        generalize bentC (cs (k + n + 3)) = C
        walk_at "ev"
        simp only [istr_tup, tru_bl]
        walk_at "ev"
        rw [show decide (((0 + 1 : Nat) : Int) = 1) = true from rfl]
        walk_at "ev"
        rw [hb]
        simp only [Option.bind_some, merge_pd]
      | cons r0 rr =>
        obtain ⟨i0, K0, hd0, a0, b0, p0⟩ := draw0 (m := 3) (k + n + 2) h (by decide) (by omega)
        have hd0 : ∀ e, mCallP 2 0 (cs (k + n + 3) 8) (mCons (mC (.int 3)) mNil) (.pd K :: e) = some (.int i0, .pd K0 :: e) := hd0
        have hlen : ¬ (((rr.length + 1 + 1 : Nat)) : Int) = 1 := by omega
        by_cases hi : i0 = 0
        · obtain ⟨r, K', e', hb, hn, hp⟩ := bent_base (k + n + 1) (item := .tup (.str w :: r0 :: rr)) p0 (by omega)
          refine ⟨r, K', ?_, hn.up (by omega), hp.up (by omega)⟩
          have hb : bentB (cs (k + n + 3)) [.pd K0, .d (.tup (.str w :: r0 :: rr)), .no, .no, .no] = _ := hb
          generalize bentB (cs (k + n + 3)) = B at hb ⊢
          generalize bentC (cs (k + n + 3)) = C
          walk_at "ev"
          simp only [istr_tup, tru_bl]
          walk_at "ev"
          simp only [hlen, decide_false, Bool.false_eq_true, if_false]
          walk_at "ev"
          rw [hd0]
          walk_at "ev"
          simp only [hi, decide_true, if_true]
          walk_at "ev"
          rw [hb]
          simp only [Option.bind_some, merge_pd]
        · obtain ⟨i1, K1, e1, a1, b1, p1⟩ := draw (m := ((rr.length + 1 : Nat) : Int)) (k + n + 2) p0 ⟨by omega, by rw [List.length_cons] at hl; omega⟩ (by omega)
          have hm1 : (((rr.length + 1 + 1 : Nat) : Int) - 1) = ((rr.length + 1 : Nat) : Int) := by omega
          obtain ⟨a, ha⟩ : ∃ a : Nat, 1 + i1 = (a : Int) := ⟨(1 + i1).toNat, by omega⟩
          have hlt : a < (D.str w :: r0 :: rr).length := by rw [List.length_cons, List.length_cons]; omega
          have ht : Tree n (D.str w :: r0 :: rr)[a] := by
            have ea : (D.str w :: r0 :: rr)[a] = (r0 :: rr)[a - 1]'(by rw [List.length_cons] at hlt; omega) := by
              obtain ⟨b, rfl⟩ : ∃ b, a = b + 1 := ⟨a - 1, by omega⟩
              rfl
            rw [ea]
            exact hr _ (List.getElem_mem _)
          obtain ⟨x, K2, e2, hx, p2⟩ := ih k _ (N + 1 + 1) K1 ht p1 (by omega)
          refine ⟨.tup ((D.str w :: r0 :: rr).take a ++ [x] ++ (D.str w :: r0 :: rr).drop (a + 1)), K2, ?_, ?_, p2.up (by omega)⟩
          · generalize bentB (cs (k + n + 3)) = B
            unfold bentC
            walk_at "ev"
            simp only [istr_tup, tru_bl]
            walk_at "ev"
            simp only [hlen, decide_false, Bool.false_eq_true, if_false]
            walk_at "ev"
            rw [hd0]
            walk_at "ev"
            simp only [hi, decide_false, Bool.false_eq_true, if_false]
            walk_at "ev"
            have hxs : (D.str w :: r0 :: rr).length ≤ 4 := by rw [List.length_cons]; omega
            have h1 : (mCons (mOp (intD fun i j => some (.int (i - j))) (mCb lenD (mCons (mVar 1) mNil)) (mC (.int 1))) mNil) [.pd K0, .d (.tup (D.str w :: r0 :: rr)), .no, .no, .no] = some ([.int ((rr.length + 1 : Nat) : Int)], [.pd K0, .d (.tup (D.str w :: r0 :: rr)), .no, .no, .no]) := by
              walk_at "ev"
              rw [hm1]
            have h3 : mCallP 2 0 (cs (k + n + 3) 8) (mCons (mOp (intD fun i j => some (.int (i - j))) (mCb lenD (mCons (mVar 1) mNil)) (mC (.int 1))) mNil) [.pd K0, .d (.tup (D.str w :: r0 :: rr)), .no, .no, .no] = some (.int i1, [.pd K1, .d (.tup (D.str w :: r0 :: rr)), .no, .no, .no]) := callP0 h1 rfl e1
            rw [h3]
            walk_at "ev"
            rw [ha]
            walk_at "ev"
            generalize hX : D.str w :: r0 :: rr = X at hlt ht e2 hxs ⊢
            rw [sl_take]
            walk_at "ev"
            have h2 : (mCons (mOp ixD (mVar 1) (mVar 4)) mNil) [.pd K1, .d (.tup X), .no, .no, .d (.int a)] = some ([X[a]], [.pd K1, .d (.tup X), .no, .no, .d (.int a)]) := by
              walk_at "ev"
              rw [ix_tup' hlt]
              rfl
            have h4 : mCallP 2 0 (cs (k + n + 3) 18) (mCons (mOp ixD (mVar 1) (mVar 4)) mNil) [.pd K1, .d (.tup X), .no, .no, .d (.int a)] = some (x, [.pd K2, .d (.tup X), .no, .no, .d (.int a)]) := callP0 h2 rfl e2
            rw [h4]
            walk_at "ev"
            simp only [le_one, if_true]
            walk_at "ev"
            rw [add_tup (by rw [List.length_take]; have : sizeLine = 16777216 := by decide
                            simp only [List.length_cons, List.length_nil]; omega)]
            walk_at "ev"
            rw [show (a : Int) + 1 = ((a + 1 : Nat) : Int) by omega, sl_drop]
            walk_at "ev"
            rw [add_tup (by rw [List.length_append, List.length_take, List.length_drop]; have : sizeLine = 16777216 := by decide
                            simp only [List.length_cons, List.length_nil]; omega)]
            walk_at "ev"
            try rfl
          · have hp : ∀ y ∈ D.str w :: r0 :: rr, Pure n y := fun y hy => by
              rcases List.mem_cons.mp hy with z | z
              · rw [z]; exact hw.up (Nat.zero_le _)
              · exact (hr y z).pure
            have hxs : (D.str w :: r0 :: rr).length ≤ 4 := by rw [List.length_cons]; omega
            generalize D.str w :: r0 :: rr = X at hp hlt hxs
            refine nice_tup (n := n + 2) (fun y hy => ?_) ?_ (tells_one (fun y hy => ⟨(hp y (List.mem_of_mem_take hy)).nd, (hp y (List.mem_of_mem_take hy)).nl⟩) (fun y hy => ⟨(hp y (List.mem_of_mem_drop hy)).nd, (hp y (List.mem_of_mem_drop hy)).nl⟩) hx.te)
            · rcases List.mem_append.mp hy with z | z
              · rcases List.mem_append.mp z with z | z
                · exact (hp y (List.mem_of_mem_take z)).toNice.up (by omega)
                · rw [List.mem_singleton.mp z]; exact hx
              · exact (hp y (List.mem_of_mem_drop z)).toNice.up (by omega)
            · rw [List.length_append, List.length_append, List.length_take, List.length_drop]
              simp only [List.length_cons, List.length_nil]
              omega
end Nv

set_option Elab.async false
set_option linter.all false
set_option maxRecDepth 100000
set_option maxHeartbeats 400000
namespace Nv
open PySem L2 PyProof.Rows PySem.Spec
/-! ### closed values -/
def valOf (o : Option (D × List Sl)) : D := match o with
  | some (d, _) => d
  | none => .non
def bushD (m : Int) : D := valOf (cs 20 16 [.d (.int m), .d (.int 5)])
def towerD (m : Int) : D := valOf (cs 20 15 [.d (.int m)])
theorem tower_run5 : cs 20 15 [.d (.int 5)] = some (towerD 5, [.d (.int 5)]) := by kernel_rfl
theorem tower_run6 : cs 20 15 [.d (.int 6)] = some (towerD 6, [.d (.int 6)]) := by kernel_rfl
theorem tower_run7 : cs 20 15 [.d (.int 7)] = some (towerD 7, [.d (.int 7)]) := by kernel_rfl
theorem bush_run1 : cs 20 16 [.d (.int 1), .d (.int 5)] = some (bushD 1, [.d (.int 1), .d (.int 5)]) := by kernel_rfl
theorem bush_run39 : cs 20 16 [.d (.int 39), .d (.int 5)] = some (bushD 39, [.d (.int 39), .d (.int 5)]) := by kernel_rfl
theorem bush_run40 : cs 20 16 [.d (.int 40), .d (.int 5)] = some (bushD 40, [.d (.int 40), .d (.int 5)]) := by kernel_rfl
theorem bush_run41 : cs 20 16 [.d (.int 41), .d (.int 5)] = some (bushD 41, [.d (.int 41), .d (.int 5)]) := by kernel_rfl

def two (d : D) : D := .tup [.str "a.b.c", d]
def chk (d : D) (a b : Bool) : Bool := fitB d && fitB (two d) && (withinL true 6 [d] 0 == a) && (withinL true 6 [two d] 0 == b)
theorem c1 : chk (bushD 1) true true = true := by decide +kernel
theorem c39 : chk (bushD 39) true true = true := by decide +kernel
theorem c40 : chk (bushD 40) true false = true := by decide +kernel
theorem c41 : chk (bushD 41) false false = true := by decide +kernel
theorem t5 : chk (towerD 5) true true = true := by decide +kernel
theorem t6 : chk (towerD 6) true false = true := by decide +kernel
theorem t7 : chk (towerD 7) false false = true := by decide +kernel
theorem l1 : withinL true 6 [.str "T"] 0 = true := by decide +kernel
theorem l2 : withinL true 6 [.tup [.str "a.b.c"]] 0 = false := by decide +kernel
theorem l3 : withinL true 6 [.tup [.str "a.b"]] 0 = true := by decide +kernel
theorem chk_of {d : D} {a b : Bool} (h : chk d a b = true) : cs 20 7 [.d d] = some (.bl a, [.d d]) ∧ cs 20 7 [.d (two d)] = some (.bl b, [.d (two d)]) := by
  unfold chk at h
  simp only [Bool.and_eq_true, beq_iff_eq] at h
  refine ⟨?_, ?_⟩
  · rw [← h.1.2]
    exact e_expr 14 d (fit_of d h.1.1.1)
  · rw [← h.2]
    exact e_expr 14 (two d) (fit_of _ h.1.1.2)
end Nv

set_option Elab.async false
set_option linter.all false
set_option maxRecDepth 100000
set_option maxHeartbeats 400000
namespace Nv
open PySem L2 PyProof.Rows PySem.Spec
local macro_rules | `(tactic| walk_at "ev") => `(tactic| try simp only [defM, mSeq, mIf, mOr, mAnd, mNot, mTru, mIs, mVar, mC, mBl, mChain, mCb, mCons, mNil, mRet, mNext, mAndV, mOrV, mNotV, mOp, mAll, mLst, mSz, mTup, mLc, mLc2, mIStr, mIList, mITup, mYes, mSl, mOSome, mONone, mM1, mSet, mCall, mCallK,
  Option.bind_some, Option.bind_none, le_int, lt_int, gt_int, ge_int, sub_int, add_int, iadd_int, mAug, isD1, dOf, dget_left, dget_at, dget_cells, dict_pd, dictTo_pd, put_left, put_at, pk_len, int_int, int_bl, abs_int, mod_int, fdiv_int, mul_int, pow_int, istup_tup, allNo, len_lst, len_tup, isBl_bl, isInt_int, isStr_str, isLst_lst, isTup_tup, data_d, tru_bl, kind_str, kind_tup, kind_lst, kind_bl, kind_int, kind_non, kind_dct, eq_int, in_taken, in_taken2, List.length_cons, List.length_nil, List.cons_append, List.nil_append, List.replicate, List.getElem?_cons_zero, List.getElem?_cons_succ, List.set_cons_zero, List.set_cons_succ, if_true, if_false, Bool.not_true, Bool.not_false, Bool.false_eq_true, Option.any_some, isNo, freeB_succ, freeB_d, freeB_no, freeB_pd, freeB_od, List.map_cons, List.map_nil, allNo, List.all_cons, List.all_nil, Bool.and_true, mergeS_d, mergeS_pd, mergeS_nil, Nat.reduceAdd, Nat.reduceSub, Nat.zero_add])

def bodyA (c : Nat → Fm) : MS := (mSeq (mSet 3 (mCallP 2 1 (c 17) (mCons (mOp addD (mC (.int 1)) (mCallP 2 1 (c 8) (mCons (mC (.int 5)) mNil))) mNil)))
    (mSeq (mIf (mOr (mNot (mTru (mCall 1 (c 19) (mCons (mVar 3) mNil)))) (mOr (mNot (mTru (mCall 1 (c 19) (mCons (mCallP 2 1 (c 18) (mCons (mVar 3) mNil)) mNil)))) (mNot (mTru (mCall 1 (c 19) (mCons (mCallP 1 1 (c 14) mNil) mNil)))))) (mRet (mC (.bl false))) mNext)
    (mIf (mOr (mNot (mTru (mCall 1 (c 19) (mCons (mTup (mCons (mC (.str "base.seq.item")) (mCons (mVar 3) mNil))) mNil)))) (mOr (mNot (mTru (mCall 1 (c 19) (mCons (mTup (mCons (mVar 3) mNil)) mNil)))) (mNot (mTru (mCall 1 (c 19) (mCons (mLst (mSz (mCons (mVar 3) mNil))) mNil)))))) (mRet (mC (.bl false))) mNext)))
def bodyB (c : Nat → Fm) : MS := (mSeq (mSet 3 (mCall 2 (c 16) (mCons (mVar 4) (mCons (mC (.int 5)) mNil))))
    (mSeq (mSet 5 (mLst (mSz (mCons (mCall 1 (c 7) (mCons (mVar 3) mNil)) (mCons (mCall 1 (c 7) (mCons (mTup (mCons (mC (.str "a.b.c")) (mCons (mVar 3) mNil))) mNil)) mNil)))))
    (mIf (mBl (mOp neXD (mRepr (mCons (mVar 5) mNil)) (mRepr (mCons (mLst (mSz (mCons (mOp ltD (mVar 4) (mC (.int 41))) (mCons (mOp ltD (mVar 4) (mC (.int 40))) mNil)))) mNil)))) (mRet (mC (.bl false))) mNext)))
def bodyC (c : Nat → Fm) : MS := (mSeq (mSet 5 (mLst (mSz (mCons (mCall 1 (c 7) (mCons (mCall 1 (c 15) (mCons (mVar 4) mNil)) mNil)) (mCons (mCall 1 (c 7) (mCons (mTup (mCons (mC (.str "a.b.c")) (mCons (mCall 1 (c 15) (mCons (mVar 4) mNil)) mNil))) mNil)) mNil)))))
    (mIf (mBl (mOp neXD (mRepr (mCons (mVar 5) mNil)) (mRepr (mCons (mLst (mSz (mCons (mOp ltD (mVar 4) (mC (.int 7))) (mCons (mOp ltD (mVar 4) (mC (.int 6))) mNil)))) mNil)))) (mRet (mC (.bl false))) mNext))
/-! ### the closed loops -/
theorem rok_bl2 (a b : Bool) : repr1 [.lst [.bl a, .bl b]] = some (.str (D.lst [.bl a, .bl b]).py.shown) := repr_ok (rok_two a b)
theorem ne_str (a : Str) : neXD (.str a) (.str a) = some (.bl false) := by
  show some (D.bl (!decide (a = a))) = _
  rw [decide_eq_true rfl]; rfl
theorem stepB {m : Int} {d : D} {a b : Bool} {x0 x1 x2 x3 x5 : Sl} (h3 : Plain x3) (h5 : Plain x5) (hr : cs 20 16 [.d (.int m), .d (.int 5)] = some (d, [.d (.int m), .d (.int 5)])) (hc : chk d a b = true) (ha : decide (m < 41) = a) (hb : decide (m < 40) = b) :
    bodyB (cs 20) [x0, x1, x2, x3, .d (.int m), x5] = some (.nx, [x0, x1, x2, .d d, .d (.int m), .d (.lst [.bl a, .bl b])]) := by
  obtain ⟨e1, e2⟩ := chk_of hc
  unfold two at e2
  unfold bodyB mRepr
  rcases h3 with rfl | ⟨y, rfl⟩ <;> rcases h5 with rfl | ⟨z, rfl⟩
  all_goals
    walk_at "ev"
    rw [hr]
    walk_at "ev"
    rw [e1]
    walk_at "ev"
    simp only [le_two, if_true]
    walk_at "ev"
    rw [e2]
    walk_at "ev"
    simp only [le_two, if_true]
    walk_at "ev"
    rw [rok_bl2]
    walk_at "ev"
    simp only [le_two, if_true, ha, hb]
    walk_at "ev"
    rw [rok_bl2]
    walk_at "ev"
    rw [ne_str]
    rfl
theorem stepC {m : Int} {d : D} {a b : Bool} {x0 x1 x2 x3 x5 : Sl} (h5 : Plain x5) (hr : cs 20 15 [.d (.int m)] = some (d, [.d (.int m)])) (hc : chk d a b = true) (ha : decide (m < 7) = a) (hb : decide (m < 6) = b) :
    bodyC (cs 20) [x0, x1, x2, x3, .d (.int m), x5] = some (.nx, [x0, x1, x2, x3, .d (.int m), .d (.lst [.bl a, .bl b])]) := by
  obtain ⟨e1, e2⟩ := chk_of hc
  unfold two at e2
  unfold bodyC mRepr
  rcases h5 with rfl | ⟨z, rfl⟩
  all_goals
    walk_at "ev"
    rw [hr]
    walk_at "ev"
    rw [e1]
    walk_at "ev"
    rw [hr]
    walk_at "ev"
    simp only [le_two, if_true]
    walk_at "ev"
    rw [e2]
    walk_at "ev"
    simp only [le_two, if_true]
    walk_at "ev"
    rw [rok_bl2]
    walk_at "ev"
    simp only [le_two, if_true, ha, hb]
    walk_at "ev"
    rw [rok_bl2]
    walk_at "ev"
    rw [ne_str]
    rfl
theorem for_cons {j : Nat} {b : MS} {d : D} {ds : List D} {e e' e1 : Env} (hf : freeB e j = true) (he : e.set j (.d d) = e') (h : b e' = some (.nx, e1)) : forGo j b (d :: ds) e = forGo j b ds e1 := by
  subst he
  rw [show forGo j b (d :: ds) e = _ from if_pos hf, h]
  rfl
end Nv

set_option Elab.async false
set_option linter.all false
set_option maxRecDepth 100000
set_option maxHeartbeats 400000
namespace Nv
open PySem L2 PyProof.Rows PySem.Spec
theorem loop4 {B : MS} {x0 x1 x2 x3 x4 x5 : Sl} {m1 m2 m3 m4 : D} (h4 : Plain x4)
    (H : ∀ (m : D), m ∈ [m1, m2, m3, m4] → ∀ z3 z5 : Sl, Plain z3 → Plain z5 → ∃ y3 y5, B [x0, x1, x2, z3, .d m, z5] = some (.nx, [x0, x1, x2, .d y3, .d m, .d y5])) (h3 : Plain x3) (h5 : Plain x5) :
    ∃ y3 y4 y5, forGo 4 B [m1, m2, m3, m4] [x0, x1, x2, x3, x4, x5] = some (.nx, [x0, x1, x2, .d y3, .d y4, .d y5]) := by
  have hf : freeB [x0, x1, x2, x3, x4, x5] 4 = true := by rcases h4 with rfl | ⟨y, rfl⟩ <;> rfl
  obtain ⟨a3, a5, s1⟩ := H m1 (by simp) x3 x5 h3 h5
  obtain ⟨b3, b5, s2⟩ := H m2 (by simp) _ _ (.inr ⟨a3, rfl⟩) (.inr ⟨a5, rfl⟩)
  obtain ⟨c3, c5, s3⟩ := H m3 (by simp) _ _ (.inr ⟨b3, rfl⟩) (.inr ⟨b5, rfl⟩)
  obtain ⟨d3, d5, s4⟩ := H m4 (by simp) _ _ (.inr ⟨c3, rfl⟩) (.inr ⟨c5, rfl⟩)
  rw [for_cons hf rfl s1, for_cons rfl rfl s2, for_cons rfl rfl s3, for_cons rfl rfl s4]
  exact ⟨_, _, _, rfl⟩
theorem loop3 {B : MS} {x0 x1 x2 x3 x4 x5 : Sl} {m1 m2 m3 : D} (h4 : Plain x4)
    (H : ∀ (m : D), m ∈ [m1, m2, m3] → ∀ z5 : Sl, Plain z5 → ∃ y5, B [x0, x1, x2, x3, .d m, z5] = some (.nx, [x0, x1, x2, x3, .d m, .d y5])) (h5 : Plain x5) :
    ∃ y4 y5, forGo 4 B [m1, m2, m3] [x0, x1, x2, x3, x4, x5] = some (.nx, [x0, x1, x2, x3, .d y4, .d y5]) := by
  have hf : freeB [x0, x1, x2, x3, x4, x5] 4 = true := by rcases h4 with rfl | ⟨y, rfl⟩ <;> rfl
  obtain ⟨a5, s1⟩ := H m1 (by simp) x5 h5
  obtain ⟨b5, s2⟩ := H m2 (by simp) _ (.inr ⟨a5, rfl⟩)
  obtain ⟨c5, s3⟩ := H m3 (by simp) _ (.inr ⟨b5, rfl⟩)
  rw [for_cons hf rfl s1, for_cons rfl rfl s2, for_cons rfl rfl s3]
  exact ⟨_, _, rfl⟩
end Nv

set_option Elab.async false
set_option linter.all false
set_option maxRecDepth 100000
set_option maxHeartbeats 400000
namespace Nv
open PySem L2 PyProof.Rows PySem.Spec
local macro_rules | `(tactic| walk_at "ev") => `(tactic| try simp only [defM, mSeq, mIf, mOr, mAnd, mNot, mTru, mIs, mVar, mC, mBl, mChain, mCb, mCons, mNil, mRet, mNext, mAndV, mOrV, mNotV, mOp, mAll, mLst, mSz, mTup, mLc, mLc2, mIStr, mIList, mITup, mYes, mSl, mOSome, mONone, mM1, mSet, mCall, mCallK,
  Option.bind_some, Option.bind_none, le_int, lt_int, gt_int, ge_int, sub_int, add_int, iadd_int, mAug, isD1, dOf, dget_left, dget_at, dget_cells, dict_pd, dictTo_pd, put_left, put_at, pk_len, int_int, int_bl, abs_int, mod_int, fdiv_int, mul_int, pow_int, istup_tup, allNo, len_lst, len_tup, isBl_bl, isInt_int, isStr_str, isLst_lst, isTup_tup, data_d, tru_bl, kind_str, kind_tup, kind_lst, kind_bl, kind_int, kind_non, kind_dct, eq_int, in_taken, in_taken2, List.length_cons, List.length_nil, List.cons_append, List.nil_append, List.replicate, List.getElem?_cons_zero, List.getElem?_cons_succ, List.set_cons_zero, List.set_cons_succ, if_true, if_false, Bool.not_true, Bool.not_false, Bool.false_eq_true, Option.any_some, isNo, freeB_succ, freeB_d, freeB_no, freeB_pd, freeB_od, List.map_cons, List.map_nil, allNo, List.all_cons, List.all_nil, Bool.and_true, mergeS_d, mergeS_pd, mergeS_nil, Nat.reduceAdd, Nat.reduceSub, Nat.zero_add])

theorem loopB {x0 x1 x2 x3 x4 x5 : Sl} (h3 : Plain x3) (h4 : Plain x4) (h5 : Plain x5) : ∃ y3 y4 y5, forGo 4 (bodyB (cs 20)) [.int 1, .int 39, .int 40, .int 41] [x0, x1, x2, x3, x4, x5] = some (.nx, [x0, x1, x2, .d y3, .d y4, .d y5]) := by
  refine loop4 h4 (fun m hm z3 z5 p3 p5 => ?_) h3 h5
  simp only [List.mem_cons, List.not_mem_nil, or_false] at hm
  rcases hm with rfl | rfl | rfl | rfl
  · exact ⟨_, _, stepB p3 p5 bush_run1 c1 rfl rfl⟩
  · exact ⟨_, _, stepB p3 p5 bush_run39 c39 rfl rfl⟩
  · exact ⟨_, _, stepB p3 p5 bush_run40 c40 rfl rfl⟩
  · exact ⟨_, _, stepB p3 p5 bush_run41 c41 rfl rfl⟩
theorem loopC {x0 x1 x2 x3 x4 x5 : Sl} (h4 : Plain x4) (h5 : Plain x5) : ∃ y4' y5', forGo 4 (bodyC (cs 20)) [.int 5, .int 6, .int 7] [x0, x1, x2, x3, x4, x5] = some (.nx, [x0, x1, x2, x3, .d y4', .d y5']) := by
  refine loop3 h4 (fun m hm z5 p5 => ?_) h5
  simp only [List.mem_cons, List.not_mem_nil, or_false] at hm
  rcases hm with rfl | rfl | rfl
  · exact ⟨_, stepC p5 tower_run5 t5 rfl rfl⟩
  · exact ⟨_, stepC p5 tower_run6 t6 rfl rfl⟩
  · exact ⟨_, stepC p5 tower_run7 t7 rfl rfl⟩
/-! ### a turn -/
theorem r_ok {n : Nat} {d : D} (h : Nice n d) (hn : n ≤ 8) : cs 20 19 [.d d] = some (.bl true, [.d d]) := e_right 10 d h.fit (h.rok hn)
theorem list1_len (t : Str) : (listText [t]).length = t.length + 2 := by
  show ((("[" : String) : Str) ++ (("" : String) : Str) ++ t ++ (("]" : String) : Str)).length = _
  rw [strLen_append, strLen_append, strLen_append]
  have h1 : (("[" : String) : Str).length = 1 := rfl
  have h2 : (("]" : String) : Str).length = 1 := rfl
  have h3 : (("" : String) : Str).length = 0 := rfl
  omega
theorem r_list {n : Nat} {d : D} (h : Pure n d) (hn : n ≤ 7) : cs 20 19 [.d (.lst [d])] = some (.bl true, [.d (.lst [d])]) := by
  refine e_right 10 _ ⟨⟨rfl, fun _ z => by cases z⟩, fun _ z => by cases z⟩ (rokB_iff ⟨?_, ?_, ?_, ?_, ?_⟩)
  · show (d.plain && true) = true
    rw [h.plain]; rfl
  · show (!(d.py.hasDict || false) || false) = true
    rw [h.nd]; rfl
  · show (d.py.showable && true) = true
    rw [h.sh]; rfl
  · show max d.py.depth 0 + 1 ≤ 60
    have := h.dep
    omega
  · show (listText [d.py.shown]).length ≤ sizeLine
    rw [list1_len]
    have h1 : 4 ^ n ≤ 4 ^ 7 := Nat.pow_le_pow_right (by decide) hn
    have h2 := h.len
    have h3 : (4 : Nat) ^ 7 = 16384 := by decide
    have h4 : sizeLine = 16777216 := by decide
    omega
theorem pure_tup {n : Nat} {xs : List D} (h : ∀ x ∈ xs, Pure n x) (hl : xs.length ≤ 4) : Nice (n + 1) (.tup xs) := by
  have a1 : ∀ ys : List D, (∀ x ∈ ys, Pure n x) → PyData.hasDictAll (pyAll ys) = false := by
    intro ys
    induction ys with
    | nil => intro _; rfl
    | cons y ys ih =>
      intro hy
      show (y.py.hasDict || PyData.hasDictAll (pyAll ys)) = false
      rw [(hy y List.mem_cons_self).nd, ih fun x hx => hy x (List.mem_cons_of_mem _ hx)]
      rfl
  refine nice_tup (fun x hx => (h x hx).toNice) hl ?_
  show (!(PyData.hasDictAll (pyAll xs)) || _) = true
  rw [a1 xs h]
  rfl
end Nv

set_option Elab.async false
set_option linter.all false
set_option maxRecDepth 100000
set_option maxHeartbeats 400000
namespace Nv
open PySem L2 PyProof.Rows PySem.Spec
local macro_rules | `(tactic| walk_at "ev") => `(tactic| try simp only [defM, mSeq, mIf, mOr, mAnd, mNot, mTru, mIs, mVar, mC, mBl, mChain, mCb, mCons, mNil, mRet, mNext, mAndV, mOrV, mNotV, mOp, mAll, mLst, mSz, mTup, mLc, mLc2, mIStr, mIList, mITup, mYes, mSl, mOSome, mONone, mM1, mSet, mCall, mCallK,
  Option.bind_some, Option.bind_none, le_int, lt_int, gt_int, ge_int, sub_int, add_int, iadd_int, mAug, isD1, dOf, dget_left, dget_at, dget_cells, dict_pd, dictTo_pd, put_left, put_at, pk_len, int_int, int_bl, abs_int, mod_int, fdiv_int, mul_int, pow_int, istup_tup, allNo, len_lst, len_tup, isBl_bl, isInt_int, isStr_str, isLst_lst, isTup_tup, data_d, tru_bl, kind_str, kind_tup, kind_lst, kind_bl, kind_int, kind_non, kind_dct, eq_int, in_taken, in_taken2, List.length_cons, List.length_nil, List.cons_append, List.nil_append, List.replicate, List.getElem?_cons_zero, List.getElem?_cons_succ, List.set_cons_zero, List.set_cons_succ, if_true, if_false, Bool.not_true, Bool.not_false, Bool.false_eq_true, Option.any_some, isNo, freeB_succ, freeB_d, freeB_no, freeB_pd, freeB_od, List.map_cons, List.map_nil, allNo, List.all_cons, List.all_nil, Bool.and_true, mergeS_d, mergeS_pd, mergeS_nil, Nat.reduceAdd, Nat.reduceSub, Nat.zero_add])

theorem cost5 {n : Nat} (h : n ≤ 5) : cost n ≤ 606 := by
  have : n = 0 ∨ n = 1 ∨ n = 2 ∨ n = 3 ∨ n = 4 ∨ n = 5 := by omega
  rcases this with rfl | rfl | rfl | rfl | rfl | rfl <;> decide
theorem stepA {ns : List Int} {N : Int} {K : List (Key × D)} {x0 x3 x4 x5 : Sl} {t : D} (h : PenAt ns N K) (hN : N + 1000 ≤ 4000000) (h3 : Plain x3) :
    ∃ K' d, bodyA (cs 20) [x0, .od K, .d t, x3, x4, x5] = some (.nx, [x0, .od K', .d t, .d d, x4, x5]) ∧ PenAt ns (N + 1000) K' := by
  obtain ⟨i, K1, e1, a1, b1, p1⟩ := draw (m := 5) 19 h (by decide) (by omega)
  obtain ⟨n, hn⟩ : ∃ n : Nat, 1 + i = (n : Int) := ⟨(1 + i).toNat, by omega⟩
  have hn5 : n ≤ 5 := by omega
  have hc := cost5 hn5
  have hc0 := cost_pos n
  obtain ⟨d, K2, e2, ht, p2⟩ := e_tree n (18 - n) (N + 1) K1 p1 (by omega)
  rw [show 18 - n + n + 2 = 20 by omega] at e2
  have ht6 : Tree 6 d := ht.up (by omega)
  have hp6 := ht6.pure
  obtain ⟨r, K3, e3, hr, p3⟩ := e_bent 6 11 d (N + 1 + cost n) K2 ht6 p2 (by omega)
  obtain ⟨o, K4, e4, ho, p4⟩ := e_odd 18 p3 (by omega)
  refine ⟨K4, d, ?_, p4.up (by omega)⟩
  have q1 : ∀ e, mCallP 2 1 (cs 20 8) (mCons (mC (.int 5)) mNil) (x0 :: .od K :: e) = some (.int i, x0 :: .od K1 :: e) := fun e => callP1 (ds := [.int 5]) rfl rfl e1
  have q2 : ∀ e, mCallP 2 1 (cs 20 17) (mCons (mOp addD (mC (.int 1)) (mCallP 2 1 (cs 20 8) (mCons (mC (.int 5)) mNil))) mNil) (x0 :: .od K :: e) = some (d, x0 :: .od K2 :: e) := fun e => by
    have ha : (mCons (mOp addD (mC (.int 1)) (mCallP 2 1 (cs 20 8) (mCons (mC (.int 5)) mNil))) mNil) (x0 :: .od K :: e) = some ([.int n], x0 :: .od K1 :: e) := by
      walk_at "ev"
      rw [q1]
      walk_at "ev"
      rw [hn]
    exact callP1 ha rfl e2
  have q3 : mCallP 2 1 (cs 20 18) (mCons (mVar 3) mNil) [x0, .od K2, .d t, .d d, x4, x5] = some (r, [x0, .od K3, .d t, .d d, x4, x5]) := callP1 (ds := [d]) rfl rfl e3
  have q4 : mCallP 1 1 (cs 20 14) mNil [x0, .od K3, .d t, .d d, x4, x5] = some (o, [x0, .od K4, .d t, .d d, x4, x5]) := callP1 (ds := []) rfl rfl e4
  have r1 := r_ok hp6.toNice (by decide)
  have r2 := r_ok hr (by decide)
  have r3 := r_ok ho (by decide)
  have hseq : Pure 6 (.str "base.seq.item") := (pure_of (n := 0) (by decide +kernel)).up (by decide)
  have r4 : cs 20 19 [.d (.tup [.str "base.seq.item", d])] = some (.bl true, [.d (.tup [.str "base.seq.item", d])]) := r_ok (pure_tup (n := 6) (fun x hx => by
    rcases List.mem_cons.mp hx with z | z
    · rw [z]; exact hseq
    · rw [List.mem_singleton.mp z]; exact hp6) (by simp)) (by decide)
  have r5 : cs 20 19 [.d (.tup [d])] = some (.bl true, [.d (.tup [d])]) := r_ok (pure_tup (n := 6) (fun x hx => by rw [List.mem_singleton.mp hx]; exact hp6) (by simp)) (by decide)
  have r6 : cs 20 19 [.d (.lst [d])] = some (.bl true, [.d (.lst [d])]) := r_list hp6 (by decide)
  unfold bodyA
  generalize cs 20 = c at q1 q2 q3 q4 r1 r2 r3 r4 r5 r6 ⊢
  rcases h3 with rfl | ⟨y, rfl⟩
  all_goals
    walk_at "ev"
    rw [q2]
    walk_at "ev"
    rw [r1]
    walk_at "ev"
    rw [q3]
    walk_at "ev"
    rw [r2]
    walk_at "ev"
    rw [q4]
    walk_at "ev"
    rw [r3]
    walk_at "ev"
    simp only [le_two, if_true]
    walk_at "ev"
    rw [r4]
    walk_at "ev"
    simp only [le_one, if_true]
    walk_at "ev"
    rw [r5]
    walk_at "ev"
    simp only [le_one, if_true]
    walk_at "ev"
    rw [r6]
    walk_at "ev"
    try rfl
end Nv

set_option Elab.async false
set_option linter.all false
set_option maxRecDepth 100000
set_option maxHeartbeats 400000
namespace Nv
open PySem L2 PyProof.Rows PySem.Spec
local macro_rules | `(tactic| walk_at "ev") => `(tactic| try simp only [defM, mSeq, mIf, mOr, mAnd, mNot, mTru, mIs, mVar, mC, mBl, mChain, mCb, mCons, mNil, mRet, mNext, mAndV, mOrV, mNotV, mOp, mAll, mLst, mSz, mTup, mLc, mLc2, mIStr, mIList, mITup, mYes, mSl, mOSome, mONone, mM1, mSet, mCall, mCallK,
  Option.bind_some, Option.bind_none, le_int, lt_int, gt_int, ge_int, sub_int, add_int, iadd_int, mAug, isD1, dOf, dget_left, dget_at, dget_cells, dict_pd, dictTo_pd, put_left, put_at, pk_len, int_int, int_bl, abs_int, mod_int, fdiv_int, mul_int, pow_int, istup_tup, allNo, len_lst, len_tup, isBl_bl, isInt_int, isStr_str, isLst_lst, isTup_tup, data_d, tru_bl, kind_str, kind_tup, kind_lst, kind_bl, kind_int, kind_non, kind_dct, eq_int, in_taken, in_taken2, List.length_cons, List.length_nil, List.cons_append, List.nil_append, List.replicate, List.getElem?_cons_zero, List.getElem?_cons_succ, List.set_cons_zero, List.set_cons_succ, if_true, if_false, Bool.not_true, Bool.not_false, Bool.false_eq_true, Option.any_some, isNo, freeB_succ, freeB_d, freeB_no, freeB_pd, freeB_od, List.map_cons, List.map_nil, allNo, List.all_cons, List.all_nil, Bool.and_true, mergeS_d, mergeS_pd, mergeS_nil, Nat.reduceAdd, Nat.reduceSub, Nat.zero_add])

theorem loopA {B : MS} {ns : List Int} {x0 x4 x5 : Sl} (H : ∀ (N : Int) (K : List (Key × D)) (x3 : Sl) (t : D), PenAt ns N K → N + 1000 ≤ 4000000 → Plain x3 → ∃ K' d, B [x0, .od K, .d t, x3, x4, x5] = some (.nx, [x0, .od K', .d t, .d d, x4, x5]) ∧ PenAt ns (N + 1000) K') :
    ∀ (ds : List D) (N : Int) (K : List (Key × D)) (x2 x3 : Sl), PenAt ns N K → N + 1000 * ds.length ≤ 4000000 → Plain x2 → Plain x3 →
      ∃ K' x2' x3', forGo 2 B ds [x0, .od K, x2, x3, x4, x5] = some (.nx, [x0, .od K', x2', x3', x4, x5]) ∧ Plain x2' ∧ Plain x3'
  | [], N, K, x2, x3, h, _, h2, h3 => ⟨K, x2, x3, rfl, h2, h3⟩
  | t :: ds, N, K, x2, x3, h, hN, h2, h3 => by
    rw [List.length_cons] at hN
    obtain ⟨K1, d, e, h1⟩ := H N K x3 t h (by omega) h3
    have hf : freeB [x0, .od K, x2, x3, x4, x5] 2 = true := by rcases h2 with rfl | ⟨y, rfl⟩ <;> rfl
    obtain ⟨K2, y2, y3, e2, p2, p3⟩ := loopA H ds (N + 1000) K1 (.d t) (.d d) h1 (by omega) (.inr ⟨_, rfl⟩) (.inr ⟨_, rfl⟩)
    exact ⟨K2, y2, y3, by rw [for_cons hf rfl e]; exact e2, p2, p3⟩
def endE (c : Nat → Fm) : MS := (mRet (mAndV (mOp isD (mCall 1 (c 7) (mCons (mC (.str "T")) mNil)) (mC (.bl true))) (mAndV (mOp isD (mCall 1 (c 7) (mCons (mTup (mCons (mC (.str "a.b.c")) mNil)) mNil)) (mC (.bl false))) (mOp isD (mCall 1 (c 7) (mCons (mTup (mCons (mC (.str "a.b")) mNil)) mNil)) (mC (.bl true))))))
theorem law_eq (c : Nat → Fm) : m_law c = mSeq (mPen 0 1) (mSeq (mFor (mIRng (mCons (mC (.int 8)) mNil)) 2 (bodyA c)) (mSeq (mFor (mITup (mTup (mCons (mC (.int 1)) (mCons (mC (.int 39)) (mCons (mC (.int 40)) (mCons (mC (.int 41)) mNil)))))) 4 (bodyB c)) (mSeq (mFor (mITup (mTup (mCons (mC (.int 5)) (mCons (mC (.int 6)) (mCons (mC (.int 7)) mNil))))) 4 (bodyC c)) (endE c)))) := rfl
theorem is_bl (a b : Bool) : isD (.bl a) (.bl b) = some (.bl (decide (a = b))) := rfl
theorem end_ok (e : Env) : endE (cs 20) e = some (.rt (.bl true), e) := by
  have h1 : cs 20 7 [.d (.str "T")] = some (.bl true, [.d (.str "T")]) := by rw [← l1]; exact e_expr 14 _ (fit_of _ (by decide +kernel))
  have h2 : cs 20 7 [.d (.tup [.str "a.b.c"])] = some (.bl false, [.d (.tup [.str "a.b.c"])]) := by rw [← l2]; exact e_expr 14 _ (fit_of _ (by decide +kernel))
  have h3 : cs 20 7 [.d (.tup [.str "a.b"])] = some (.bl true, [.d (.tup [.str "a.b"])]) := by rw [← l3]; exact e_expr 14 _ (fit_of _ (by decide +kernel))
  unfold endE
  generalize cs 20 = c at h1 h2 h3 ⊢
  walk_at "ev"
  rw [h1]
  walk_at "ev"
  rw [is_bl, decide_eq_true rfl]
  walk_at "ev"
  try simp only [le_one, if_true]
  walk_at "ev"
  rw [h2]
  walk_at "ev"
  rw [is_bl, decide_eq_true rfl]
  walk_at "ev"
  try simp only [le_one, if_true]
  walk_at "ev"
  rw [h3]
  walk_at "ev"
  rw [is_bl, decide_eq_true rfl]
  rfl
theorem pen0_pk (ns : List Int) : pen0 (ns.map D.int) = pk (ns.take 63) 0 0 := by
  unfold pen0 pk
  rw [List.map_take]
theorem law_true (ns : List Int) (h : ns.length ≤ 63) : ∃ as, lawF [.d (.frl (ns.map .int))] = some (.bl true, as) := by
  have hp : PenAt (ns.take 63) 0 (pk (ns.take 63) 0 0) := ⟨0, 0, rfl, by decide, by decide, by decide⟩
  have hA := fun x0 x4 x5 => loopA (B := bodyA (cs 20)) (ns := ns.take 63) (x0 := x0) (x4 := x4) (x5 := x5) (fun N K x3 t h hN h3 => stepA h hN h3)
  have hB := fun x0 x1 x2 x3 x4 x5 => @loopB x0 x1 x2 x3 x4 x5
  have hC := fun x0 x1 x2 x3 x4 x5 => @loopC x0 x1 x2 x3 x4 x5
  have hE := end_ok
  show ∃ as, defM 1 6 (m_law (cs 20)) _ = _
  rw [law_eq]
  generalize bodyA (cs 20) = A at hA ⊢
  generalize bodyB (cs 20) = B at hB ⊢
  generalize bodyC (cs 20) = C at hC ⊢
  generalize endE (cs 20) = E at hE ⊢
  obtain ⟨K', x2, x3, a1, a2, a3⟩ := hA (.d (.frl (ns.map .int))) .no .no (upto 8) 0 _ .no .no hp (by rw [upto_len]; decide) (.inl rfl) (.inl rfl)
  obtain ⟨y3, y4, y5, b1⟩ := hB (.d (.frl (ns.map .int))) (.od K') x2 x3 .no .no a3 (.inl rfl) (.inl rfl)
  obtain ⟨z4, z5, g1⟩ := hC (.d (.frl (ns.map .int))) (.od K') x2 (.d y3) (.d y4) (.d y5) (.inr ⟨_, rfl⟩) (.inr ⟨_, rfl⟩)
  have hpen : mPen 0 1 [.d (.frl (ns.map .int)), .no, .no, .no, .no, .no] = some (.nx, [.d (.frl (ns.map .int)), .od (pk (ns.take 63) 0 0), .no, .no, .no, .no]) := by
    show some (Out.nx, [Sl.d (.frl (ns.map .int)), Sl.od (pen0 (ns.map D.int)), .no, .no, .no, .no]) = _
    rw [pen0_pk]
  refine ⟨[.d (.frl (ns.map .int))], ?_⟩
  unfold mFor mIRng
  walk_at "ev"
  rw [hpen]
  walk_at "ev"
  rw [rng_n (by decide)]
  walk_at "ev"
  rw [show upto (Int.toNat 8) = upto 8 from rfl, a1]
  walk_at "ev"
  rw [if_pos (by decide : (4 : Nat) ≤ sizeLine)]
  walk_at "ev"
  rw [b1]
  walk_at "ev"
  simp only [le_three, if_true]
  walk_at "ev"
  rw [g1]
  walk_at "ev"
  rw [hE]
  rfl
end Nv

set_option Elab.async false
set_option linter.all false
set_option maxRecDepth 100000
set_option maxHeartbeats 4000000
namespace Nv
open PySem L2 PyProof.Rows PySem.Spec
theorem sp_law (K : PySem.W.Frag) (H : Hp) (a : Addr) (ns : List Int) (hl : ns.length ≤ 63) (hS : SqL K H a (ns.map V.int)) : SpD ⟨K, fun _ => 0⟩ 1 (PhiF lawF) [.ref a] H (fun v _ => v = .bl true) E0 := by
  obtain ⟨as, ha⟩ := law_true ns hl
  refine ⟨H, [.d (.frl (ns.map .int))], fun d _ => d = .bl true, rfl, ?_, args_ok (ds := [.frl (ns.map .int)]), ⟨_, _, ha, rfl⟩, fun v d G' H' as' S T r e => ?_⟩
  · exact St.data (vs := [.ref a]) (ds := [.frl (ns.map .int)]) (Same.refl H) (.cons (.frl hS (RpAll.ints ns)) .nil)
  · subst e
    exact r.bl_inv
end Nv
open PySem PySem.W PyProof.Rows
set_option maxHeartbeats 0 in
theorem PySem.Challenge.cw_nevermet_k18_member_expressions_holds : PySem.Challenge.rw_nevermet_k18_member_expressions.Holds := by
  w_on; o_law; k_head; (case hw => w_witness2)
  k_fill
  refine Nv.walk_g (l := PySem.Challenge.rw_nevermet_k18_member_expressions) (n := 63) (k := 21) (x := "_law_script") (sp := fun K => Nv.SpD ⟨K, fun _ => 0⟩ 1 (Nv.PhiF Nv.lawF)) rfl (by decide) rfl ⟨rfl, by decide, by decide⟩ (fun w h Y => PySem.W.kIn_of Y) ?F (fun K H a ns hl hS => Nv.sp_law K H a ns hl hS)
  case F =>
    intro w mg fa h KX G hmg
    refine' Nv.facts KX G hmg ?a_is_name ?l_is_name ?c_is_name ?k_is_name ?a_is_dotted ?l_is_dotted ?c_is_dotted ?k_is_dotted ?a_is_word ?l_is_word ?c_is_word ?k_is_word ?a_is_member_word ?l_is_member_word ?c_is_member_word ?k_is_member_word ?a_is_variable ?l_is_variable ?c_is_variable ?k_is_variable ?a_is_piece ?l_is_piece ?c_is_piece ?k_is_piece ?a_is_within ?l_is_within ?c_is_within ?k_is_within ?a_is_expression ?l_is_expression ?c_is_expression ?k_is_expression ?a__law_pen ?l__law_pen ?c__law_pen ?k__law_pen ?a__law_draw ?l__law_draw ?c__law_draw ?k__law_draw ?a__law_is_name ?l__law_is_name ?c__law_is_name ?k__law_is_name ?a__law_is_word ?l__law_is_word ?c__law_is_word ?k__law_is_word ?a__law_is_variable ?l__law_is_variable ?c__law_is_variable ?k__law_is_variable ?a__law_is_member_word ?l__law_is_member_word ?c__law_is_member_word ?k__law_is_member_word ?a__law_symbols ?l__law_symbols ?c__law_symbols ?k__law_symbols ?a__law_odd ?l__law_odd ?c__law_odd ?k__law_odd ?a__law_tower ?l__law_tower ?c__law_tower ?k__law_tower ?a__law_bush ?l__law_bush ?c__law_bush ?k__law_bush ?a__law_expression ?l__law_expression ?c__law_expression ?k__law_expression ?a__law_bent ?l__law_bent ?c__law_bent ?k__law_bent ?a__law_right ?l__law_right ?c__law_right ?k__law_right ?a_law ?l_law ?c_law ?k_law ?z_range ?z_repr ?z_all ?z_isinstance ?z_str ?z_len ?z_list ?z_int ?z_tuple ?z_abs ?z_min ?a_LONGEST_NAME ?a_LONGEST_VARIABLE ?a_SMALL ?a_LARGE ?a_DIGITS ?a_TAKEN ?l_TAKEN ?a_MOST_SYMBOLS ?a_MOST_DEEP ?a_MOST_PARTS
    (case a_is_name => k_is); (case l_is_name => k_is); (case c_is_name => k_is); (case k_is_name => k_is); (case a_is_dotted => k_is); (case l_is_dotted => k_is); (case c_is_dotted => k_is); (case k_is_dotted => k_is); (case a_is_word => k_is); (case l_is_word => k_is); (case c_is_word => k_is); (case k_is_word => k_is); (case a_is_member_word => k_is); (case l_is_member_word => k_is); (case c_is_member_word => k_is); (case k_is_member_word => k_is); (case a_is_variable => k_is); (case l_is_variable => k_is); (case c_is_variable => k_is); (case k_is_variable => k_is); (case a_is_piece => k_is); (case l_is_piece => k_is); (case c_is_piece => k_is); (case k_is_piece => k_is); (case a_is_within => k_is); (case l_is_within => k_is); (case c_is_within => k_is); (case k_is_within => k_is); (case a_is_expression => k_is); (case l_is_expression => k_is); (case c_is_expression => k_is); (case k_is_expression => k_is); (case a__law_pen => k_is); (case l__law_pen => k_is); (case c__law_pen => k_is); (case k__law_pen => k_is); (case a__law_draw => k_is); (case l__law_draw => k_is); (case c__law_draw => k_is); (case k__law_draw => k_is); (case a__law_is_name => k_is); (case l__law_is_name => k_is); (case c__law_is_name => k_is); (case k__law_is_name => k_is); (case a__law_is_word => k_is); (case l__law_is_word => k_is); (case c__law_is_word => k_is); (case k__law_is_word => k_is); (case a__law_is_variable => k_is); (case l__law_is_variable => k_is); (case c__law_is_variable => k_is); (case k__law_is_variable => k_is); (case a__law_is_member_word => k_is); (case l__law_is_member_word => k_is); (case c__law_is_member_word => k_is); (case k__law_is_member_word => k_is); (case a__law_symbols => k_is); (case l__law_symbols => k_is); (case c__law_symbols => k_is); (case k__law_symbols => k_is); (case a__law_odd => k_is); (case l__law_odd => k_is); (case c__law_odd => k_is); (case k__law_odd => k_is); (case a__law_tower => k_is); (case l__law_tower => k_is); (case c__law_tower => k_is); (case k__law_tower => k_is); (case a__law_bush => k_is); (case l__law_bush => k_is); (case c__law_bush => k_is); (case k__law_bush => k_is); (case a__law_expression => k_is); (case l__law_expression => k_is); (case c__law_expression => k_is); (case k__law_expression => k_is); (case a__law_bent => k_is); (case l__law_bent => k_is); (case c__law_bent => k_is); (case k__law_bent => k_is); (case a__law_right => k_is); (case l__law_right => k_is); (case c__law_right => k_is); (case k__law_right => k_is); (case a_law => k_is); (case l_law => k_is); (case c_law => k_is); (case k_law => k_is); (case z_range => k_is); (case z_repr => k_is); (case z_all => k_is); (case z_isinstance => k_is); (case z_str => k_is); (case z_len => k_is); (case z_list => k_is); (case z_int => k_is); (case z_tuple => k_is); (case z_abs => k_is); (case z_min => k_is); (case a_LONGEST_NAME => k_is); (case a_LONGEST_VARIABLE => k_is); (case a_SMALL => k_is); (case a_LARGE => k_is); (case a_DIGITS => k_is); (case a_TAKEN => k_is); (case l_TAKEN => k_is); (case a_MOST_SYMBOLS => k_is); (case a_MOST_DEEP => k_is); (case a_MOST_PARTS => k_is);

