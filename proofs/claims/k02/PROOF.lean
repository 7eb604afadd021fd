import PyProof.Rows.All
import Wide.All
import OpenK.AllK
import Wide.FinOn
import HandS.ForMost
import PyProof.ReprRoads
import HandS.IsInst
import HandS.TupAny
import HandS.Style
import HandS.Steps
import HandS.Zip
import HandS.FStr
import HandS.RaiseMore
import PyProof.ReprLen
import PyProof.StrLawsRepr
import PyProof.FitsInt
import PySem.Challenge.RW_nevermet_k02_what_terms_and_questions_ar
set_option Elab.async false
set_option linter.all false
set_option maxRecDepth 100000
set_option maxHeartbeats 4000000
/-! NvG: defs that are called where no repr is under way (the stack's guards are none), so that repr of data can be told. -/
namespace Nv
open PySem L2 PyProof.Rows PySem.Spec

/-- a def's promise, given that no repr is under way where it is called -/
structure FnG (P : Program) (w : World) (K : PySem.W.Frag) (mg : Str → Option Value) (base : Heap) (k : Nat) (f : Addr) (fd : FuncData) (ps : List Str) (sp : Sp) : Prop where
  len : ∀ vs H Q E, sp vs H Q E → vs.length = ps.length
  run : ∀ (A : Around) (outer : List Env) (s : Shared) (H : Hp) (args : Args) (us : List Value) (vs : List V) (Q : VK) (E : XK), A.guards = some [] → Room k A →
    Env0 P w K mg base A outer s H → BindsTo s fd args (ps.zip us) → Vals vs us → sp vs H Q E → codeAny (model P w) A (.call (.ref f) args) (CR CX0 outer P w H s Q E) s

section
variable {P : Program} {w : World} {K : PySem.W.Frag} {mg : Str → Option Value} {base : Heap} {k : Nat} {f : Addr} {fd : FuncData} {ps : List Str} {sp sp' : Sp}

theorem FnG.mono {j : Nat} (F : FnG P w K mg base j f fd ps sp) (h : j ≤ k) : FnG P w K mg base k f fd ps sp :=
  ⟨F.len, fun A outer s H args us vs Q E hg hr => F.run A outer s H args us vs Q E hg (hr.mono h)⟩
theorem FnG.imp (F : FnG P w K mg base k f fd ps sp) (h : ∀ vs H Q E, sp' vs H Q E → sp vs H Q E) : FnG P w K mg base k f fd ps sp' :=
  ⟨fun vs H Q E q => F.len vs H Q E (h _ _ _ _ q), fun A outer s H args us vs Q E hg hr he hb hv hs => F.run A outer s H args us vs Q E hg hr he hb hv (h _ _ _ _ hs)⟩

/-- a def by its body -/
theorem fn_g {x qual : Str} {st : Stmt} {N : List Str} (F : Fun K x qual st f fd) (S : FnScope N ps (defScope st)) (len : ∀ vs H Q E, sp vs H Q E → vs.length = ps.length)
    (hbody : ∀ (cdv : Value) (A : Around) (outer : List Env) (s : Shared) (H : Hp) (vs : List V) (Q : VK) (E : XK), A.guards = some [] →
      Room k (A.deeper (envOfC qual (defScope st) s.heap.objs.size f cdv)) → sp vs H Q E →
      ∃ t, PSs (cxOf CX0 P w K mg base N qual (defScope st) f cdv A outer s H E) (defBody st) t ∧ t { nx := fun _ H' => Q .non H', rt := Q } (start N vs) H) :
    FnG P w K mg base (k + 1) f fd ps sp := by
  obtain ⟨oc, od, kV, doc, pm, an, cdv, ct, osl, rfl, lk, hcd⟩ := F.ex
  refine ⟨len, fun A outer s H args us vs Q E hg hr e0 hb r hsp => ?_⟩
  have up : ∀ b o, base.get? b = some o → s.heap.get? b = some o := fun b o e => (e0.bs b o e).1
  have kx := e0.mod.kin.keeps up
  have limit := e0.mod.nolimit.keeps up
  have kinds : ∀ y ∈ ps.zip us, (defScope st).names.lookup y.1 = some .local ∨ ((defScope st).names.lookup y.1 = some .cell ∧ ((cellsFrom (s.heap.objs.size + 1) (defScope st).names []).lookup y.1).isSome = true) := by
    rintro ⟨n, v⟩ hy
    rcases S.par n (List.of_mem_zip hy).1 with q | q
    · exact Or.inl q
    · exact Or.inr ⟨q, PySem.W.cellsFrom_some _ _ _ (.inl q)⟩
  refine codeAny_call_function hr.depth (kx _ _ lk) rfl S.co S.gen rfl (PySem.W.codeRec_of kx hcd) (hb _ _ _ _ ?_)
  refine wpAny_newFunctionEnv_cells S.kind kinds fun env he s1 x => ?_
  subst he
  refine ⟨limit.keeps x.toInCall.keep, codeAny_func ?_⟩
  obtain ⟨t, ht, hq⟩ := hbody cdv A outer s H vs Q E hg (hr.deeper _) hsp
  have I : Inv (cxOf CX0 P w K mg base N qual (defScope st) f cdv A outer s H E) [] (start N vs) H s1 := inv_start S hr.hd e0 (len _ _ _ _ hsp) r x
  refine wpAny_mono (ht.run [] s1 (start N vs) H _ I hq) (fun fl s' hs => ?_) fun e s' hs => hs
  cases fl with
  | brk => obtain ⟨_, _, _, q⟩ := hs; exact q.elim
  | cont => obtain ⟨_, _, _, q⟩ := hs; exact q.elim
  | next =>
    obtain ⟨σ', H', J, q⟩ := hs
    exact ⟨V.non, H', J.os, J.bare, J.base, J.hok, rfl, q⟩
  | ret u =>
    obtain ⟨v, σ', H', J, rv, q⟩ := hs
    exact ⟨v, H', J.os, J.bare, J.base, J.hok, rv, q⟩
end

section
variable {X : Cx} {k : Nat} {f : Addr} {fd : FuncData} {ps : List Str} {sp : Sp} {x : Str} {p pos : Pos} {e : Expr} {es : List Expr} {t : TA}

/-- the callee runs; E0: nothing is wanted of an exception, since none comes -/
theorem run_g {pins : List (Addr × Obj)} {σ : L2.St} {H : Hp} {s : Shared} {Q : VK} {args : Args} {us : List Value} {vs : List V} (F : FnG X.prog X.w X.K X.mg X.base k f fd ps sp) (hg : X.A.guards = some []) (hr : Room k X.A)
    (I : Inv X pins σ H s) (hb : BindsTo s fd args (ps.zip us)) (r : Vals vs us) (h : sp vs H Q E0) : codeAny (model X.prog X.w) X.A (.call (.ref f) args) (fun r s' => match r with | .ok (.ret u) => EP X pins σ Q u s' | _ => False) s := by
  refine codeAny_mono (F.run X.A X.stack s H args us vs Q E0 hg hr I.env0 hb r h) fun r s' hq => ?_
  cases r with
  | error e => exact hq
  | ok fl =>
    cases fl with
    | ret u => exact I.after hq
    | next => exact hq
    | brk => exact hq
    | cont => exact hq
theorem call_g {pins : List (Addr × Obj)} {σ : L2.St} {H : Hp} {s : Shared} {Q : VK} {kw : List (Str × Value)} {us0 us : List Value} {vs : List V} (F : FnG X.prog X.w X.K X.mg X.base k f fd ps sp) (hg : X.A.guards = some []) (hr : Room k X.A)
    (I : Inv X pins σ H s) (hb : BindsTo s fd ⟨us0, kw⟩ (ps.zip us)) (r : Vals vs us) (h : sp vs H Q E0) : wpAny (model X.prog X.w) X.A (call (.ref f) us0 kw) (EP X pins σ Q) X.xe s := by
  refine wpAny_call (codeAny_mono (run_g F hg hr I hb r h) fun r s' hq => ?_)
  cases r with
  | error e => exact hq.elim
  | ok fl =>
    cases fl with
    | ret u => exact hq
    | next => exact hq.elim
    | brk => exact hq.elim
    | cont => exact hq.elim
/-- f(e, ..) -/
def tG (sp : Sp) (t : TA) : TE := fun σ H Q => t σ H fun vs H1 => sp vs H1 Q E0
theorem pe_g (F : FnG X.prog X.w X.K X.mg X.base k f fd ps sp) (hg : X.A.guards = some []) (hr : Room k X.A) (hx : Gl X x) (hm : X.mg x = some (.ref f)) (hk : PySem.W.keepIn X.K (.ref f) = true) (hb : Binds X.K fd ps [])
    (ha : PA X (e :: es) t) (hdb : (x == ("__debug__" : Str)) = false := by decide) (he : starEach (e :: es) X.env = (false, eval e X.env) :: starEach es X.env := by rfl)
    (hpl : (backTo pos (starEach es X.env)).any (·.1) = false := by rfl) : PE X (.Call (.Name x p) (e :: es) [] pos) (tG sp t) := by
  refine ⟨fun pins s σ H Q I h => ?_⟩
  refine wpAny_Call_Name_kw (ld_glob I hx hm ?_ hdb)
  refine PySem.W.callWith_K (h₀ := X.base) I.ok.mod.kin hk (thn (ha.run pos pins s σ H _ I h) fun us s1 ⟨vs, H1, I1, r, q⟩ => ⟨I1.kIn, ?_⟩) he hpl
  have hl : us.length = ps.length := by rw [← r.length]; exact F.len _ _ _ _ q
  have b := hb s1 us I1.kIn (by rw [List.append_nil]; exact hl)
  rw [List.append_nil] at b
  exact call_g F hg hr I1 b r q
/-- f() -/
theorem pe_g0 (F : FnG X.prog X.w X.K X.mg X.base k f fd ps sp) (hg : X.A.guards = some []) (hr : Room k X.A) (hx : Gl X x) (hm : X.mg x = some (.ref f)) (hk : PySem.W.keepIn X.K (.ref f) = true) (hb : Binds X.K fd ps [])
    (hdb : (x == ("__debug__" : Str)) = false := by decide) : PE X (.Call (.Name x p) [] [] pos) (tG sp tNil) := by
  refine ⟨fun pins s σ H Q I h => ?_⟩
  refine wpAny_Call_Name_kw (ld_glob I hx hm ?_ hdb)
  have hl : ([] : List Value).length = ps.length := F.len _ _ _ _ h
  have b := hb s [] I.kIn hl
  exact PySem.W.callWith_K0 I.kIn hk (call_g (us0 := []) F hg hr I b .nil h)
/-- how keywords alone bind: pm puts their values (in the order in which they stand) in the parameters' order -/
structure KwB (K : PySem.W.Frag) (fd : FuncData) (ps ks : List Str) (pm : List Nat) : Prop where
  to : ∀ (s : Shared) (ws : List Value), K.In s.heap → ws.length = ks.length → BindsTo s fd ⟨[], ks.zip ws⟩ (ps.zip (pm.filterMap (ws[·]?)))
def permV (pm : List Nat) (zs : List V) : List V := pm.filterMap (zs[·]?)
theorem Vals.perm {zs : List V} {ws : List Value} (r : Vals zs ws) : ∀ pm : List Nat, Vals (permV pm zs) (pm.filterMap (ws[·]?))
  | [] => .nil
  | i :: pm => by
    have ih := Vals.perm r pm
    unfold permV at ih ⊢
    rw [List.filterMap_cons, List.filterMap_cons]
    cases e : zs[i]? with
    | none => rw [r.none_of e]; exact ih
    | some x =>
      obtain ⟨u, h1, h2⟩ := r.get e
      rw [h1]
      exact .cons h2 ih
/-- f(k = e, ..), keywords alone -/
def tGK (n : Nat) (pm : List Nat) (sp : Sp) (tk : TA) : TE := fun σ H Q => tk σ H fun zs H1 => zs.length = n ∧ sp (permV pm zs) H1 Q E0
theorem pe_gK {ks : List Str} {pm : List Nat} {kws : List Keyword} {tk : TA} (F : FnG X.prog X.w X.K X.mg X.base k f fd ps sp) (hg : X.A.guards = some []) (hr : Room k X.A) (hx : Gl X x) (hm : X.mg x = some (.ref f)) (hk : PySem.W.keepIn X.K (.ref f) = true) (hb : KwB X.K fd ps ks pm)
    (hkw : PK X kws tk) (hall : (backToKw pos (keywordEach kws X.env)).all (·.1.isSome) = true := by rfl) (hks : (backToKw pos (keywordEach kws X.env)).filterMap (·.1) = ks := by rfl)
    (hdb : (x == ("__debug__" : Str)) = false := by decide) (hpl : ((backTo pos (starEach [] X.env)).any (·.1) || (backToKw pos (keywordEach kws X.env)).any (·.1.isNone)) = false := by rfl) :
    PE X (.Call (.Name x p) [] kws pos) (tGK ks.length pm sp tk) := by
  refine ⟨fun pins s σ H Q I h => ?_⟩
  refine wpAny_Call_Name_kw (ld_glob I hx hm ?_ hdb)
  refine PySem.W.callWith_KW0 (h₀ := X.base) I.ok.mod.kin hk hall (thn (hkw.run pos pins s σ H _ I h) fun ws s1 ⟨zs, H1, I1, r, hz, q⟩ => ⟨I1.kIn, ?_⟩) hpl
  rw [hks]
  exact call_g (us0 := [] ++ []) F hg hr I1 (hb.to s1 ws I1.kIn (by rw [← r.length]; exact hz)) (Vals.perm r pm) q
end

/-! ### data of any depth, dicts too -/
mutual
inductive Dt (K : PySem.W.Frag) (H : Hp) : V → PyData → Prop
  | non : Dt K H .non .none
  | bl (b : Bool) : Dt K H (.bl b) (.bool b)
  | int (i : Int) : Dt K H (.int i) (.int i)
  | str (x : Str) : Dt K H (.str x) (.str x)
  | lst {a : Addr} {xs : List V} {ds : List PyData} : SqL K H a xs → DtAll K H xs ds → Dt K H (.ref a) (.list ds)
  | tup {a : Addr} {xs : List V} {ds : List PyData} : SqT K H a xs → DtAll K H xs ds → Dt K H (.ref a) (.tuple ds)
  | dct {a : Addr} {kvs : List (Key × V)} {ds : List (PyData × PyData)} : Rd H a (.dK kvs) → DtKv K H kvs ds → Dt K H (.ref a) (.dict ds)
inductive DtAll (K : PySem.W.Frag) (H : Hp) : List V → List PyData → Prop
  | nil : DtAll K H [] []
  | cons {v : V} {vs : List V} {d : PyData} {ds : List PyData} : Dt K H v d → DtAll K H vs ds → DtAll K H (v :: vs) (d :: ds)
inductive DtKv (K : PySem.W.Frag) (H : Hp) : List (Key × V) → List (PyData × PyData) → Prop
  | nil : DtKv K H [] []
  | int {i : Int} {v : V} {vs : List (Key × V)} {d : PyData} {ds : List (PyData × PyData)} : Dt K H v d → DtKv K H vs ds → DtKv K H ((.inl i, v) :: vs) ((.int i, d) :: ds)
  | str {x : Str} {v : V} {vs : List (Key × V)} {d : PyData} {ds : List (PyData × PyData)} : Dt K H v d → DtKv K H vs ds → DtKv K H ((.inr x, v) :: vs) ((.str x, d) :: ds)
end
end Nv

set_option Elab.async false
set_option linter.all false
set_option maxRecDepth 100000
set_option maxHeartbeats 4000000
/-! NvR: repr of data; the law's end. -/
namespace Nv
open PySem L2 PyProof.Rows PySem.Spec

/-! ### data stay when the heap grows -/
section
variable {K : PySem.W.Frag} {H H' : Hp}
theorem Same.rd {a : Addr} {u : HO} (e : Same H H') (h : Rd H a u) : Rd H' a u := by
  rcases h with h | ⟨o, h⟩
  · exact .inl (e _ _ h)
  · exact .inr ⟨o, e _ _ h⟩
theorem Same.tup {a : Addr} {xs : List V} (e : Same H H') (h : SqT K H a xs) : SqT K H' a xs := by
  rcases h with h | h
  · exact .inl (Same.rd e h)
  · exact .inr h
theorem Same.lst {a : Addr} {xs : List V} (e : Same H H') (h : SqL K H a xs) : SqL K H' a xs := L2.Same.seq e h
mutual
theorem Dt.up (e : Same H H') : ∀ (d : PyData) (v : V), Dt K H v d → Dt K H' v d
  | .none, _, h => by cases h; exact .non
  | .bool b, _, h => by cases h; exact .bl b
  | .int i, _, h => by cases h; exact .int i
  | .str x, _, h => by cases h; exact .str x
  | .list ds, _, h => by
    cases h with
    | lst hs ha => exact .lst (Same.lst e hs) (DtAll.up e ds _ ha)
  | .tuple ds, _, h => by
    cases h with
    | tup hs ha => exact .tup (Same.tup e hs) (DtAll.up e ds _ ha)
  | .dict ds, _, h => by
    cases h with
    | dct hs ha => exact .dct (Same.rd e hs) (DtKv.up e ds _ ha)
theorem DtAll.up (e : Same H H') : ∀ (ds : List PyData) (vs : List V), DtAll K H vs ds → DtAll K H' vs ds
  | [], _, h => by cases h; exact .nil
  | d :: ds, _, h => by
    cases h with
    | cons h1 h2 => exact .cons (Dt.up e d _ h1) (DtAll.up e ds _ h2)
theorem DtKv.up (e : Same H H') : ∀ (ds : List (PyData × PyData)) (vs : List (Key × V)), DtKv K H vs ds → DtKv K H' vs ds
  | [], _, h => by cases h; exact .nil
  | (_, d) :: ds, _, h => by
    cases h with
    | int h1 h2 => exact .int (Dt.up e d _ h1) (DtKv.up e ds _ h2)
    | str h1 h2 => exact .str (Dt.up e d _ h1) (DtKv.up e ds _ h2)
end
end

/-! ### a dict within a list wants to know that the list is not the table of modules: where there is a dict, no list is told -/
mutual
def noList : PyData → Bool
  | .list _ => false
  | .tuple xs => noListAll xs
  | .dict kvs => noListKv kvs
  | _ => true
def noListAll : List PyData → Bool
  | [] => true
  | d :: ds => noList d && noListAll ds
def noListKv : List (PyData × PyData) → Bool
  | [] => true
  | (_, d) :: ds => noList d && noListKv ds
end
def tells (d : PyData) : Bool := !d.hasDict || noList d

def plain1 : PyData → Bool
  | .none | .bool _ | .int _ | .str _ => true
  | _ => false
theorem reads_plain {h : Heap} {v : Value} {as : List Addr} : ∀ {d : PyData}, plain1 d = true → Reads h v d as → as = []
  | .none, _, r => by cases r; rfl
  | .bool _, _, r => by cases r; rfl
  | .int _, _, r => by cases r; rfl
  | .str _, _, r => by cases r; rfl
theorem readsAll_plain {h : Heap} : ∀ {ds : List PyData} {vs : List Value} {as : List Addr}, ds.all plain1 = true → ReadsAll h vs ds as → as = []
  | [], _, _, _, r => by cases r; rfl
  | d :: ds, _, _, p, r => by
    rw [List.all_cons, Bool.and_eq_true] at p
    cases r with
    | cons r1 r2 => rw [reads_plain p.1 r1, readsAll_plain p.2 r2]; rfl
theorem keys_plain {K : PySem.W.Frag} {H : Hp} : ∀ {ds : List (PyData × PyData)} {kvs : List (Key × V)}, DtKv K H kvs ds → (ds.map (·.1)).all plain1 = true
  | _, _, .nil => rfl
  | _, _, .int _ h => by rw [List.map_cons, List.all_cons, keys_plain h]; rfl
  | _, _, .str _ h => by rw [List.map_cons, List.all_cons, keys_plain h]; rfl

section
variable {X : Cx} {pins : List (Addr × Obj)} {σ : L2.St} {H : Hp} {s : Shared}
mutual
theorem Dt.reads (I : Inv X pins σ H s) : ∀ (d : PyData) (v : V) (u : Value), Dt X.K H v d → RelV v u → ∃ as, Reads s.heap u d as
  | .none, _, _, h, r => by
    cases h; cases r
    exact ⟨_, .none⟩
  | .bool b, _, _, h, r => by
    cases h; cases r
    exact ⟨_, .bool b⟩
  | .int i, _, _, h, r => by
    cases h
    obtain ⟨t, rfl⟩ := r
    exact ⟨_, .int i t⟩
  | .str x, _, _, h, r => by
    cases h
    obtain ⟨t, rfl⟩ := r
    exact ⟨_, .str x t⟩
  | .list ds, _, _, h, r => by
    cases h with
    | lst hs ha =>
      cases r
      obtain ⟨its, rv, ⟨o, n, ho, hc, _, hd⟩, _⟩ := I.list hs
      obtain ⟨as, q⟩ := DtAll.reads I ds _ its ha rv
      exact ⟨_, .list ho hc hd q⟩
  | .tuple ds, _, _, h, r => by
    cases h with
    | tup hs ha =>
      cases r
      obtain ⟨its, rv, ⟨o, ho, hc, n, hd⟩, _⟩ := I.tuple hs
      obtain ⟨as, q⟩ := DtAll.reads I ds _ its ha rv
      exact ⟨_, .tuple ho hc hd q⟩
  | .dict ds, _, _, h, r => by
    cases h with
    | dct hs ha =>
      cases r
      obtain ⟨_, _, vs, rv, o, es, ep, ho, hx, hd, _, hp, _⟩ := dk_rd I.hok hs
      obtain ⟨as, bs, q1, q2⟩ := DtKv.reads I ds _ vs es.toList ha rv hp
      exact ⟨_, .dict ho hx.1 hd q1 q2⟩
theorem DtAll.reads (I : Inv X pins σ H s) : ∀ (ds : List PyData) (vs : List V) (us : List Value), DtAll X.K H vs ds → Vals vs us → ∃ as, ReadsAll s.heap us ds as
  | [], _, _, h, r => by
    cases h; cases r
    exact ⟨_, .nil⟩
  | d :: ds, _, _, h, r => by
    cases h with
    | cons h1 h2 =>
      cases r with
      | cons r1 r2 =>
        obtain ⟨as, q1⟩ := Dt.reads I d _ _ h1 r1
        obtain ⟨bs, q2⟩ := DtAll.reads I ds _ _ h2 r2
        exact ⟨_, .cons q1 q2⟩
theorem DtKv.reads (I : Inv X pins σ H s) : ∀ (ds : List (PyData × PyData)) (kvs : List (Key × V)) (vs : List (Key × Value)) (es : List DictEntry), DtKv X.K H kvs ds → KV kvs vs → Pairs (mixKind X.prog X.w) es vs →
    ∃ as bs, ReadsAll s.heap (es.map (·.key)) (ds.map (·.1)) as ∧ ReadsAll s.heap (es.map (·.val)) (ds.map (·.2)) bs
  | [], _, _, _, h, r, p => by
    cases h; cases r; cases p
    exact ⟨_, _, .nil, .nil⟩
  | (_, d) :: ds, _, _, _, h, r, p => by
    cases r with
    | nil => cases h
    | cons r1 r2 =>
      cases p with
      | cons p1 p2 p3 =>
        have p1' : keyIs _ _ = true := p1
        obtain ⟨e1, e2⟩ := r1
        rw [← p2] at e2
        rw [← e1] at p1'
        cases h with
        | int h1 h2 =>
          obtain ⟨as, q1⟩ := Dt.reads I d _ _ h1 e2
          obtain ⟨bs, cs, q2, q3⟩ := DtKv.reads I ds _ _ _ h2 r2 p3
          rcases keyIs_shape p1' with ⟨i, t, z1, z2⟩ | ⟨i, t, z1, z2⟩
          · cases z1
            exact ⟨_, _, .cons (d := .int _) (as := []) (by show Reads s.heap (DictEntry.key _) _ _; rw [z2]; exact .int _ t) q2, .cons q1 q3⟩
          · cases z1
        | str h1 h2 =>
          obtain ⟨as, q1⟩ := Dt.reads I d _ _ h1 e2
          obtain ⟨bs, cs, q2, q3⟩ := DtKv.reads I ds _ _ _ h2 r2 p3
          rcases keyIs_shape p1' with ⟨i, t, z1, z2⟩ | ⟨i, t, z1, z2⟩
          · cases z1
          · cases z1
            exact ⟨_, _, .cons (d := .str _) (as := []) (by show Reads s.heap (DictEntry.key _) _ _; rw [z2]; exact .str _ t) q2, .cons q1 q3⟩
end
mutual
theorem as_ok (I : Inv X pins σ H s) : ∀ (d : PyData) (v : V) (u : Value) (as : List Addr), Dt X.K H v d → RelV v u → Reads s.heap u d as → noList d = true → sysModules ∉ as
  | .none, _, _, _, _, _, r, _ => by cases r; simp
  | .bool b, _, _, _, _, _, r, _ => by cases r; simp
  | .int i, _, _, _, _, _, r, _ => by cases r; simp
  | .str x, _, _, _, _, _, r, _ => by cases r; simp
  | .list ds, _, _, _, _, _, _, t => by cases t
  | .tuple ds, _, _, _, h, ru, r, t => by
    cases h with
    | tup hs ha =>
      cases ru
      obtain ⟨its, rv, ⟨o, ho, hc, n, hd⟩, _⟩ := I.tuple hs
      cases r with
      | tuple h1 h2 h3 h4 =>
        rw [ho] at h1
        cases h1
        rw [hd] at h3
        cases h3
        exact as_okAll I ds _ _ _ ha rv (by simpa using h4) t
  | .dict ds, _, _, _, h, ru, r, t => by
    cases h with
    | dct hs ha =>
      cases ru
      obtain ⟨_, hx, vs, rv, o, es, ep, ho, _, hd, _, hp, _⟩ := dk_rd I.hok hs
      cases r with
      | dict h1 h2 h3 h4 h5 =>
        rw [ho] at h1
        cases h1
        rw [hd] at h3
        cases h3
        have e1 := readsAll_plain (keys_plain ha) h4
        subst e1
        have e2 := as_okKv I ds _ vs _ _ ha rv hp h5 t
        intro hm
        rcases List.mem_append.mp hm with hm | hm
        · have e3 := List.mem_singleton.mp hm
          rw [← e3] at hx
          simp at hx
        · exact e2 hm
theorem as_okAll (I : Inv X pins σ H s) : ∀ (ds : List PyData) (vs : List V) (us : List Value) (as : List Addr), DtAll X.K H vs ds → Vals vs us → ReadsAll s.heap us ds as → noListAll ds = true → sysModules ∉ as
  | [], _, _, _, _, _, r, _ => by cases r; simp
  | d :: ds, _, _, _, h, rv, r, t => by
    have t : (noList d && noListAll ds) = true := t
    rw [Bool.and_eq_true] at t
    cases h with
    | cons h1 h2 =>
      cases rv with
      | cons r1 r2 =>
        cases r with
        | cons q1 q2 =>
          intro hm
          rcases List.mem_append.mp hm with hm | hm
          · exact as_ok I d _ _ _ h1 r1 q1 t.1 hm
          · exact as_okAll I ds _ _ _ h2 r2 q2 t.2 hm
theorem as_okKv (I : Inv X pins σ H s) : ∀ (ds : List (PyData × PyData)) (kvs : List (Key × V)) (vs : List (Key × Value)) (es : List DictEntry) (bs : List Addr), DtKv X.K H kvs ds → KV kvs vs → Pairs (mixKind X.prog X.w) es vs →
    ReadsAll s.heap (es.map (·.val)) (ds.map (·.2)) bs → noListKv ds = true → sysModules ∉ bs
  | [], _, _, _, _, h, rv, p, r, _ => by cases h; cases rv; cases p; cases r; simp
  | (_, d) :: ds, _, _, _, _, h, rv, p, r, tt => by
    have t : (noList d && noListKv ds) = true := tt
    clear tt
    rw [Bool.and_eq_true] at t
    cases rv with
    | nil => cases h
    | cons r1 r2 =>
      cases p with
      | cons p1 p2 p3 =>
        obtain ⟨e1, e2⟩ := r1
        rw [← p2] at e2
        cases r with
        | cons q1 q2 =>
          cases h with
          | int h1 h2 =>
            intro hm
            rcases List.mem_append.mp hm with hm | hm
            · exact as_ok I d _ _ _ h1 e2 q1 t.1 hm
            · exact as_okKv I ds _ _ _ _ h2 r2 p3 q2 t.2 hm
          | str h1 h2 =>
            intro hm
            rcases List.mem_append.mp hm with hm | hm
            · exact as_ok I d _ _ _ h1 e2 q1 t.1 hm
            · exact as_okKv I ds _ _ _ _ h2 r2 p3 q2 t.2 hm
end
theorem sys_not {a : Addr} {d : PyData} {as : List Addr} (I : Inv X pins σ H s) (h : Dt X.K H (.ref a) d) (r : Reads s.heap (.ref a) d as) (t : tells d = true) : d.hasDict = true → sysModules ∉ as := by
  intro hd
  unfold tells at t
  rw [hd] at t
  exact as_ok I d _ _ _ h rfl r t
end

/-- repr(x), x any data -/
def rRepr (K : PySem.W.Frag) : List V → Hp → VK → Prop := fun xs H Q => ∃ v d, xs = [v] ∧ Dt K H v d ∧ tells d = true ∧ d.showable = true ∧ d.depth ≤ 60 ∧ d.shown.length ≤ sizeLine ∧ Q (.str d.shown) H
theorem cr_repr {X : Cx} (hg : X.A.guards = some []) (hu : X.A.units + 64 < cLine) : CallR X (.builtin "repr") (rRepr X.K) := by
  intro pins s σ H xs us Q I r h
  obtain ⟨v, d, rfl, hd, ht, hs, hz, hl, q⟩ := h
  obtain ⟨u, rfl, ru⟩ := vals1 r
  obtain ⟨as, rd⟩ := Dt.reads I d v u hd ru
  cases hd with
  | non =>
    cases ru
    exact PySem.P.repr_of_none ⟨.str (PyData.none).shown, H, I.tok _, ⟨_, rfl⟩, q⟩
  | bl b =>
    cases ru
    exact PySem.P.repr_of_bool ⟨.str (if b then "True" else "False"), H, I.tok _, ⟨_, by cases b <;> rfl⟩, q⟩
  | int i =>
    obtain ⟨t, rfl⟩ := ru
    exact PySem.P.repr_of_int (by simpa [PyData.showable] using hs) ⟨.str (PyData.int i).shown, H, I.tok _, ⟨_, rfl⟩, q⟩
  | str x =>
    obtain ⟨t, rfl⟩ := ru
    exact PySem.P.repr_of_str ⟨.str (PyData.str x).shown, H, I.tok _, ⟨_, rfl⟩, q⟩ hl
  | _ =>
    cases ru
    refine repr_of_reads' rd hs (sys_not I (by first | exact .lst (by assumption) (by assumption) | exact .tup (by assumption) (by assumption) | exact .dct (by assumption) (by assumption)) rd ht) hg (by omega) (fun _ _ e => e) (fun h' u tk hk => ?_) hl
    exact ⟨.str _, H, I.kept hk, ⟨u, rfl⟩, q⟩
end Nv

set_option Elab.async false
set_option linter.all false
set_option maxRecDepth 100000
set_option maxHeartbeats 4000000
/-! NvE: the end of a law whose def is promised by FnG. -/
namespace Nv
open PySem L2 PyProof.Rows PySem.Spec

/-- the script alone is tracked, and that as a thing that is known -/
def frozen (a : Addr) (vs : List Value) (ns : List Int) : Hp := fun b => if b = a then some (.frz { cls := .type "list", data := .seq vs.toArray } (.lst (ns.map V.int))) else none

section
variable {P : Program} {w : World} {K : PySem.W.Frag} {mg mb : Str → Option Value} {k : Nat} {fa a : Addr} {fd : FuncData} {x : Str} {sp : Sp} {s₁ : Shared} {vs : List Value} {ns : List Int}

/-- from a heap in which at most the script is tracked, and that frozen -/
theorem law_core {H : Hp} (KX : K.In s₁.heap) (hns : s₁.heap.Ns mainGlobals mg) (hb : s₁.heap.Ns builtinsNs mb) (hbb : ∀ x : Str, x ≠ "__name__" → mb x = bootBuiltins x) (hlim : s₁.heap.NoLimit) (hg : s₁.gens = #[])
    (ha : s₁.heap.get? a = some { cls := .type "list", data := .seq vs.toArray }) (hr : Room k callerA)
    (F : ∀ base : Heap, K.In base → base.Ns mainGlobals mg → FnG P w K mg base k fa fd [x] sp) (hbind : ∀ (s : Shared) (u : Value), BindsTo s fd ⟨[u], []⟩ [(x, u)])
    (hsp : sp [.ref a] H (fun v _ => v = .bl true) E0) (hok : HOk P w H s₁.heap) (hA : ∀ b o, H b = some o → b = a ∧ ∃ ob xs, o = .frz ob (.lst xs)) (hK : ∀ o, H a = some o → K.lookup a = none) :
    codeAny (model P w) callerA (.call (.ref fa) ⟨[.ref a], []⟩) (fun r s' => r = .ok (.ret (.bool true)) ∧ OldK s₁.heap s'.heap ∧ s'.os = s₁.os ∧ AllBare s'.gens) s₁ := by
  have offDict : ∀ {b : Addr} {o : Obj} {es : Array DictEntry} {ep : Nat}, s₁.heap.get? b = some o → o.data = .dict es ep → (hidT s₁.heap H).get? b = some o := by
    intro b o es ep e d
    refine hidT_get e ?_
    cases q : H b with
    | none => rfl
    | some u =>
      obtain ⟨rfl, _⟩ := hA b u q
      rw [ha] at e
      cases e
      cases d
  have ns' : ∀ {b : Addr} {m : Str → Option Value}, s₁.heap.Ns b m → (hidT s₁.heap H).Ns b m := by
    rintro b m ⟨o, es, ep, e, d, r⟩
    exact ⟨o, es, ep, offDict e d, d, r⟩
  have kin : K.In (hidT s₁.heap H) := by
    intro b o e
    refine hidT_get (KX b o e) ?_
    cases q : H b with
    | none => rfl
    | some u =>
      obtain ⟨rfl, _⟩ := hA b u q
      rw [hK u q] at e
      cases e
  have md : Mod K mg (hidT s₁.heap H) := by
    obtain ⟨mc, h1, h2⟩ := hlim
    exact ⟨kin, ns' hns, ⟨mb, ns' hb, hbb⟩, mc, ns' h1, h2⟩
  have e0 : Env0 P w K mg (hidT s₁.heap H) callerA [] s₁ H :=
    ⟨rfl, md, fun b o e => of_hidT e, Nat.le_of_eq (hidT_size _ _), trivial, fun b hb => absurd hb List.not_mem_nil, hok, .of_eq hg⟩
  refine codeAny_mono ((F _ kin (ns' hns)).run callerA [] s₁ H ⟨[.ref a], []⟩ [.ref a] [.ref a] _ _ rfl hr e0 (hbind s₁ (.ref a)) (.cons rfl .nil) hsp) fun r s' h => ?_
  cases r with
  | error e => exact h.elim
  | ok fl =>
    cases fl with
    | next => exact h.elim
    | brk => exact h.elim
    | cont => exact h.elim
    | ret u =>
      obtain ⟨v, H', os, bare, un, hok', r', q⟩ := h
      have qv : v = .bl true := q
      subst qv
      have qu : u = Value.bool true := r'
      subst qu
      refine ⟨rfl, OldK.of_keep ?_, os, bare⟩
      intro b o e
      cases z : H b with
      | none => exact un.keep b o e z List.not_mem_nil List.not_mem_nil
      | some u =>
        obtain ⟨_, ob, xs, rfl⟩ := hA b u z
        have e1 := (hok b _ z).1
        have e2 := (hok' b _ (un.frzs b ob _ z)).1
        rw [e] at e1
        cases e1
        exact e2

theorem law_g (KX : K.In s₁.heap) (hns : s₁.heap.Ns mainGlobals mg) (hb : s₁.heap.Ns builtinsNs mb) (hbb : ∀ x : Str, x ≠ "__name__" → mb x = bootBuiltins x) (hlim : s₁.heap.NoLimit) (hg : s₁.gens = #[])
    (ha : s₁.heap.get? a = some { cls := .type "list", data := .seq vs.toArray }) (hi : IntsAre vs ns) (hl : ns.length ≤ sizeLine) (hr : Room k callerA)
    (F : ∀ base : Heap, K.In base → base.Ns mainGlobals mg → FnG P w K mg base k fa fd [x] sp) (hbind : ∀ (s : Shared) (u : Value), BindsTo s fd ⟨[u], []⟩ [(x, u)])
    (hsp : ∀ H : Hp, SqL K H a (ns.map V.int) → sp [.ref a] H (fun v _ => v = .bl true) E0) :
    codeAny (model P w) callerA (.call (.ref fa) ⟨[.ref a], []⟩) (fun r s' => r = .ok (.ret (.bool true)) ∧ OldK s₁.heap s'.heap ∧ s'.os = s₁.os ∧ AllBare s'.gens) s₁ := by
  have rv := vals_ints hi
  have lv := hi.length
  cases hk : K.lookup a with
  | some o =>
    have e := KX a o hk
    rw [ha] at e
    cases e
    have sq : SqL K (fun _ => none) a (ns.map V.int) := .inr ⟨_, vs.toArray, _, hk, rfl, rfl, rfl, by rw [List.size_toArray, lv]; exact hl, by simpa using rv⟩
    exact law_core KX hns hb hbb hlim hg ha hr F hbind (hsp _ sq) (fun b o z => nomatch z) (fun b o z => nomatch z) fun o z => nomatch z
  | none =>
    have at_a : frozen a vs ns a = some (.frz { cls := .type "list", data := .seq vs.toArray } (.lst (ns.map V.int))) := if_pos rfl
    have off : ∀ b o, frozen a vs ns b = some o → b = a ∧ o = .frz { cls := .type "list", data := .seq vs.toArray } (.lst (ns.map V.int)) := by
      intro b o z
      by_cases hb : b = a
      · subst hb
        rw [at_a] at z
        exact ⟨rfl, (Option.some.inj z).symm⟩
      · rw [show frozen a vs ns b = none from if_neg hb] at z
        cases z
    refine law_core (H := frozen a vs ns) KX hns hb hbb hlim hg ha hr F hbind (hsp _ (.inl (.inr ⟨_, at_a⟩))) (fun b o z => ?_) (fun b o z => ?_) fun _ _ => hk
    · obtain ⟨rfl, rfl⟩ := off b o z
      exact ⟨ha, by rw [List.length_map]; exact hl, vs, _, rv, ha⟩
    · obtain ⟨rfl, rfl⟩ := off b o z
      exact ⟨rfl, _, _, rfl⟩
end

theorem walk_g {l : PySem.W.OpenLaw} {n k : Nat} {q : Program} {loose : List Str} {XP : (Str → Option Value) → Heap → Prop} {YP : World → Heap → Prop} {d : DefRec} {K : Params → PySem.W.Frag} {sp : PySem.W.Frag → Sp} {x : Str}
    (hn : l.most = some n) (hn2 : n ≤ sizeLine) (hdf : d.params.defaults = []) (hr : Room k callerA) (hY : ∀ (w : World) (h : Heap), YP w h → (K w.params).In h)
    (F : ∀ (w : World) (mg : Str → Option Value) (fa : Addr) (h : Heap), (K w.params).In h → h.Ns mainGlobals mg → mg d.name = some (.ref fa) →
      ∃ fd : FuncData, (∀ (s : Shared) (u : Value), BindsTo s fd ⟨[u], []⟩ [(x, u)]) ∧ ∀ base : Heap, (K w.params).In base → base.Ns mainGlobals mg → FnG l.prog w (K w.params) mg base k fa fd [x] (sp (K w.params)))
    (hsp : ∀ (K : PySem.W.Frag) (H : Hp) (a : Addr) (ns : List Int), ns.length ≤ n → SqL K H a (ns.map V.int) → sp K [.ref a] H (fun v _ => v = .bl true) E0) :
    PySem.W.WalkO q loose XP YP l.row.toRowW d [] (fun f vs => PySem.call f vs) := by
  refine Att.attach_call hn hdf ?_
  intro w s₀ s₁ mg mb fa o pm cd doc a vs ns G Y ho hd hcd hmg hobj hints hlen hg
  obtain ⟨fd, hb, hF⟩ := F w mg fa _ (hY w _ Y) G.T.g hmg
  exact law_g (hY w _ Y) G.T.g G.T.b G.T.builtins G.T.nolimit hg hobj hints (Nat.le_trans hlen hn2) hr hF hb fun H hS => hsp _ H a ns hlen hS
end Nv

set_option Elab.async false
set_option linter.all false
set_option maxRecDepth 100000
set_option maxHeartbeats 4000000
/-! NvD: defs told by data. D: what a value is worth; Sl: what a slot holds (data that stays; a list or a dict of one's own, that changes; the pen that draws).
Ev, EvT, EvA, EvI: expressions, tests, arguments, what is walked; Run: statements. Each is a weakest precondition over the slots' data: no heap is seen outside this file. -/
namespace Nv
open PySem L2 PyProof.Rows PySem.Spec

/-! ### data -/
inductive D where
  | non | bl (b : Bool) | int (i : Int) | str (x : Str) | lst (xs : List D) | tup (xs : List D) | dct (kvs : List (Key × D)) | ins (c : Nat) (fs : List (Str × D)) | ty (n : String)
  /-- a list that is known from without (the script) -/
  | frl (xs : List D)

structure Wd where
  K : PySem.W.Frag
  cl : Nat → Addr

mutual
/-- the value v is the data d, by what G tells -/
inductive Rp (W : Wd) (G : Hp) : V → D → Prop
  | non : Rp W G .non .non
  | bl (b : Bool) : Rp W G (.bl b) (.bl b)
  | int (i : Int) : Rp W G (.int i) (.int i)
  | str (x : Str) : Rp W G (.str x) (.str x)
  | ty (n : String) : Rp W G (.ty n) (.ty n)
  | lst {a : Addr} {xs : List V} {ds : List D} : G a = some (.lst xs) → RpAll W G xs ds → Rp W G (.ref a) (.lst ds)
  | tup {a : Addr} {xs : List V} {ds : List D} : SqT W.K G a xs → RpAll W G xs ds → Rp W G (.ref a) (.tup ds)
  | dct {a : Addr} {kvs : List (Key × V)} {ds : List (Key × D)} : Rd G a (.dK kvs) → kvs.map (·.1) = ds.map (·.1) → RpAll W G (kvs.map (·.2)) (ds.map (·.2)) → Rp W G (.ref a) (.dct ds)
  | ins {a dx : Addr} {c : Nat} {fs : List (Str × V)} {ds : List (Str × D)} : G a = some (.ins (W.cl c) dx fs) → fs.map (·.1) = ds.map (·.1) → RpAll W G (fs.map (·.2)) (ds.map (·.2)) → Rp W G (.ref a) (.ins c ds)
  | frl {a : Addr} {xs : List V} {ds : List D} : SqL W.K G a xs → RpAll W G xs ds → Rp W G (.ref a) (.frl ds)
inductive RpAll (W : Wd) (G : Hp) : List V → List D → Prop
  | nil : RpAll W G [] []
  | cons {v : V} {vs : List V} {d : D} {ds : List D} : Rp W G v d → RpAll W G vs ds → RpAll W G (v :: vs) (d :: ds)
end

section
variable {W : Wd} {G G' H : Hp}
mutual
theorem Rp.up (e : Same G G') : ∀ {v : V} {d : D}, Rp W G v d → Rp W G' v d
  | _, _, .non => .non
  | _, _, .bl b => .bl b
  | _, _, .int i => .int i
  | _, _, .str x => .str x
  | _, _, .ty n => .ty n
  | _, _, .lst h k => .lst (e _ _ h) (RpAll.up e k)
  | _, _, .tup h k => .tup (Same.tup e h) (RpAll.up e k)
  | _, _, .dct h q k => .dct (Same.rd e h) q (RpAll.up e k)
  | _, _, .ins h q k => .ins (e _ _ h) q (RpAll.up e k)
  | _, _, .frl h k => .frl (Same.lst e h) (RpAll.up e k)
theorem RpAll.up (e : Same G G') : ∀ {vs : List V} {ds : List D}, RpAll W G vs ds → RpAll W G' vs ds
  | _, _, .nil => .nil
  | _, _, .cons h k => .cons (Rp.up e h) (RpAll.up e k)
end
theorem RpAll.length : ∀ {vs : List V} {ds : List D}, RpAll W G vs ds → vs.length = ds.length
  | _, _, .nil => rfl
  | _, _, .cons _ k => congrArg Nat.succ k.length
theorem RpAll.append : ∀ {vs ws : List V} {ds es : List D}, RpAll W G vs ds → RpAll W G ws es → RpAll W G (vs ++ ws) (ds ++ es)
  | _, _, _, _, .nil, k => k
  | _, _, _, _, .cons h k, l => .cons h (k.append l)
theorem RpAll.get : ∀ {vs : List V} {ds : List D} {i : Nat} {d : D}, RpAll W G vs ds → ds[i]? = some d → ∃ v, vs[i]? = some v ∧ Rp W G v d
  | _, _, _, _, .nil, h => by simp at h
  | _, _, 0, _, .cons h k, e => by
    simp at e
    subst e
    exact ⟨_, rfl, h⟩
  | _, _, i + 1, _, .cons h k, e => by
    obtain ⟨v, q, r⟩ := k.get (i := i) (by simpa using e)
    exact ⟨v, by simpa using q, r⟩
theorem RpAll.take : ∀ {vs : List V} {ds : List D} (n : Nat), RpAll W G vs ds → RpAll W G (vs.take n) (ds.take n)
  | _, _, 0, _ => .nil
  | _, _, _ + 1, .nil => .nil
  | _, _, n + 1, .cons h k => .cons h (k.take n)
theorem RpAll.drop : ∀ {vs : List V} {ds : List D} (n : Nat), RpAll W G vs ds → RpAll W G (vs.drop n) (ds.drop n)
  | _, _, 0, h => h
  | _, _, _ + 1, .nil => .nil
  | _, _, n + 1, .cons h k => k.drop n
theorem RpAll.ints : ∀ (ns : List Int), RpAll W G (ns.map V.int) (ns.map D.int)
  | [] => .nil
  | n :: ns => .cons (.int n) (RpAll.ints ns)
theorem RpAll.reverse : ∀ {vs : List V} {ds : List D}, RpAll W G vs ds → RpAll W G vs.reverse ds.reverse
  | _, _, .nil => .nil
  | _, _, .cons h k => by
    rw [List.reverse_cons, List.reverse_cons]
    exact k.reverse.append (.cons h .nil)
theorem RpAll.set {x : V} {d : D} (r : Rp W G x d) : ∀ {vs : List V} {ds : List D} (i : Nat), RpAll W G vs ds → RpAll W G (vs.set i x) (ds.set i d)
  | _, _, _, .nil => .nil
  | _, _, 0, .cons _ k => .cons r k
  | _, _, i + 1, .cons h k => .cons h (RpAll.set r i k)

theorem Rp.non_inv {v : V} (h : Rp W G v .non) : v = .non := by cases h; rfl
theorem Rp.bl_inv {v : V} {b : Bool} (h : Rp W G v (.bl b)) : v = .bl b := by cases h; rfl
theorem Rp.int_inv {v : V} {i : Int} (h : Rp W G v (.int i)) : v = .int i := by cases h; rfl
theorem Rp.str_inv {v : V} {x : Str} (h : Rp W G v (.str x)) : v = .str x := by cases h; rfl
theorem Rp.lst_inv {v : V} {ds : List D} (h : Rp W G v (.lst ds)) : ∃ a xs, v = .ref a ∧ G a = some (.lst xs) ∧ RpAll W G xs ds := by
  cases h with
  | lst h k => exact ⟨_, _, rfl, h, k⟩
theorem Rp.frl_inv {v : V} {ds : List D} (h : Rp W G v (.frl ds)) : ∃ a xs, v = .ref a ∧ SqL W.K G a xs ∧ RpAll W G xs ds := by
  cases h with
  | frl h k => exact ⟨_, _, rfl, h, k⟩
theorem Rp.tup_inv {v : V} {ds : List D} (h : Rp W G v (.tup ds)) : ∃ a xs, v = .ref a ∧ SqT W.K G a xs ∧ RpAll W G xs ds := by
  cases h with
  | tup h k => exact ⟨_, _, rfl, h, k⟩
theorem Rp.dct_inv {v : V} {ds : List (Key × D)} (h : Rp W G v (.dct ds)) : ∃ a kvs, v = .ref a ∧ Rd G a (.dK kvs) ∧ kvs.map (·.1) = ds.map (·.1) ∧ RpAll W G (kvs.map (·.2)) (ds.map (·.2)) := by
  cases h with
  | dct h q k => exact ⟨_, _, rfl, h, q, k⟩
end

/-! ### slots -/
inductive Sl where
  | no
  | d (x : D)
  /-- a list of one's own, that changes; pl: one that the caller handed in -/
  | ol (xs : List D) | pl (xs : List D)
  /-- a dict of one's own -/
  | od (kvs : List (Key × D))
  | pd (kvs : List (Key × D))
def Sl.owned : Sl → Bool
  | .no => false
  | .d _ => false
  | _ => true
def Sl.pinned : Sl → Bool
  | .pl _ => true
  | .pd _ => true
  | _ => false
def OkS (W : Wd) (G H : Hp) (ov : Option (Option V)) : Sl → Prop
  | .no => True
  | .d x => ∃ v, ov = some (some v) ∧ Rp W G v x
  | .ol xs => ∃ l vs, ov = some (some (.ref l)) ∧ G l = none ∧ H l = some (.lst vs) ∧ RpAll W G vs xs
  | .pl xs => ∃ l vs, ov = some (some (.ref l)) ∧ G l = none ∧ H l = some (.lst vs) ∧ RpAll W G vs xs
  | .od kvs => ∃ l vs, ov = some (some (.ref l)) ∧ G l = none ∧ H l = some (.dK vs) ∧ vs.map (·.1) = kvs.map (·.1) ∧ RpAll W G (vs.map (·.2)) (kvs.map (·.2))
  | .pd kvs => ∃ l vs, ov = some (some (.ref l)) ∧ G l = none ∧ H l = some (.dK vs) ∧ vs.map (·.1) = kvs.map (·.1) ∧ RpAll W G (vs.map (·.2)) (kvs.map (·.2))
/-- the addresses of one's own -/
def own (σ : L2.St) (env : List Sl) (l : Addr) : Prop := ∃ (i : Nat) (s : Sl), env[i]? = some s ∧ s.owned = true ∧ σ[i]? = some (some (.ref l))

structure St (W : Wd) (G H : Hp) (σ : L2.St) (env : List Sl) : Prop where
  gh : Same G H
  len : σ.length = env.length
  ok : ∀ (i : Nat) (s : Sl), env[i]? = some s → OkS W G H σ[i]? s
  ds : ∀ (i j : Nat) (s t : Sl) (l : Addr), env[i]? = some s → s.owned = true → σ[i]? = some (some (.ref l)) → env[j]? = some t → t.owned = true → σ[j]? = some (some (.ref l)) → i = j
/-- what happens between two states -/
structure Tr (σ : L2.St) (env : List Sl) (G H : Hp) (σ' : L2.St) (env' : List Sl) (G' H' : Hp) : Prop where
  gg : Same G G'
  fr : ∀ b o, ¬ own σ env b → H b = some o → H' b = some o
  nw : ∀ b, ¬ own σ env b → H b ≠ none → G b = none → G' b = none
  ow : ∀ b, own σ' env' b → own σ env b ∨ H b = none
  kp : ∀ b, H b ≠ none → H' b ≠ none
  pn : ∀ (i : Nat) (s : Sl), env[i]? = some s → s.pinned = true → σ'[i]? = σ[i]? ∧ ∃ s', env'[i]? = some s' ∧ s'.pinned = true

theorem Sl.pinned_owned {s : Sl} (h : s.pinned = true) : s.owned = true := by
  cases s <;> first | rfl | cases h

section
variable {W : Wd} {G H G1 H1 G2 H2 : Hp} {σ σ1 σ2 : L2.St} {env env1 env2 : List Sl}
theorem OkS.there {ov : Option (Option V)} {s : Sl} {l : Addr} (h : OkS W G H ov s) (ho : s.owned = true) (e : ov = some (some (.ref l))) : G l = none ∧ ∃ o, H l = some o := by
  cases s with
  | no => cases ho
  | d x => cases ho
  | ol xs =>
    obtain ⟨m, vs, e1, g, h, _⟩ := h
    rw [e] at e1
    cases e1
    exact ⟨g, _, h⟩
  | pl xs =>
    obtain ⟨m, vs, e1, g, h, _⟩ := h
    rw [e] at e1
    cases e1
    exact ⟨g, _, h⟩
  | od kvs =>
    obtain ⟨m, vs, e1, g, h, _⟩ := h
    rw [e] at e1
    cases e1
    exact ⟨g, _, h⟩
  | pd kvs =>
    obtain ⟨m, vs, e1, g, h, _⟩ := h
    rw [e] at e1
    cases e1
    exact ⟨g, _, h⟩
theorem St.own_at (S : St W G H σ env) {l : Addr} (h : own σ env l) : G l = none ∧ ∃ o, H l = some o := by
  obtain ⟨i, s, e, ho, ev⟩ := h
  exact (S.ok i s e).there ho ev
theorem Tr.refl (S : St W G H σ env) : Tr σ env G H σ env G H :=
  ⟨Same.refl G, fun _ _ _ h => h, fun _ _ _ h => h, fun _ h => .inl h, fun _ h => h, fun i s e h => ⟨rfl, s, e, h⟩⟩
theorem Tr.trans (S : St W G H σ env) (a : Tr σ env G H σ1 env1 G1 H1) (b : Tr σ1 env1 G1 H1 σ2 env2 G2 H2) : Tr σ env G H σ2 env2 G2 H2 where
  gg := a.gg.trans b.gg
  fr := fun c o n h => b.fr c o (fun z => by
    rcases a.ow c z with z | z
    · exact n z
    · rw [h] at z
      cases z) (a.fr c o n h)
  nw := fun c m n h => b.nw c (fun z => (a.ow c z).elim m fun y => n y) (a.kp c n) (a.nw c m n h)
  ow := fun c h => by
    rcases b.ow c h with h | h
    · exact a.ow c h
    · refine .inr ?_
      cases q : H c with
      | none => rfl
      | some o => exact absurd h (a.kp c (by rw [q]; exact fun z => nomatch z))
  kp := fun c n => b.kp c (a.kp c n)
  pn := fun i s e h => by
    obtain ⟨e1, s1, f1, h1⟩ := a.pn i s e h
    obtain ⟨e2, s2, f2, h2⟩ := b.pn i s1 f1 h1
    exact ⟨e2.trans e1, s2, f2, h2⟩

/-- only new things come -/
structure Gr (G H G1 H1 : Hp) : Prop where
  gg : Same G G1
  gh : Same G1 H1
  hh : Same H H1
  nw : ∀ b, H b ≠ none → G b = none → G1 b = none
theorem Gr.refl (e : Same G H) : Gr G H G H := ⟨Same.refl G, e, Same.refl H, fun _ _ h => h⟩
theorem Gr.trans (a : Gr G H G1 H1) (b : Gr G1 H1 G2 H2) : Gr G H G2 H2 :=
  ⟨a.gg.trans b.gg, b.gh, a.hh.trans b.hh, fun c n h => b.nw c (fun z => n (a.hh.free z)) (a.nw c n h)⟩
theorem Gr.new {p : Addr} {o : HO} (e : Same G H) (hp : H p = none) : Gr G H (upd G p o) (upd H p o) where
  gg := fun b u h => by rw [upd_ne (ne_of_none h (e.free hp))]; exact h
  gh := fun b u h => by
    by_cases hb : b = p
    · subst hb
      rw [upd_same] at h ⊢
      exact h
    · rw [upd_ne hb] at h ⊢
      exact e b u h
  hh := fun b u h => by rw [upd_ne (ne_of_none h hp)]; exact h
  nw := fun b n h => by rw [upd_ne (fun z => n (by rw [z]; exact hp))]; exact h
theorem OkS.up {ov : Option (Option V)} {s : Sl} (g : Gr G H G1 H1) (h : OkS W G H ov s) : OkS W G1 H1 ov s := by
  cases s with
  | no => exact h
  | d x =>
    obtain ⟨v, e, r⟩ := h
    exact ⟨v, e, r.up g.gg⟩
  | ol xs =>
    obtain ⟨l, vs, e, a, b, r⟩ := h
    exact ⟨l, vs, e, g.nw l (by rw [b]; exact fun z => nomatch z) a, g.hh _ _ b, r.up g.gg⟩
  | pl xs =>
    obtain ⟨l, vs, e, a, b, r⟩ := h
    exact ⟨l, vs, e, g.nw l (by rw [b]; exact fun z => nomatch z) a, g.hh _ _ b, r.up g.gg⟩
  | od kvs =>
    obtain ⟨l, vs, e, a, b, q, r⟩ := h
    exact ⟨l, vs, e, g.nw l (by rw [b]; exact fun z => nomatch z) a, g.hh _ _ b, q, r.up g.gg⟩
  | pd kvs =>
    obtain ⟨l, vs, e, a, b, q, r⟩ := h
    exact ⟨l, vs, e, g.nw l (by rw [b]; exact fun z => nomatch z) a, g.hh _ _ b, q, r.up g.gg⟩
theorem St.up (S : St W G H σ env) (g : Gr G H G1 H1) : St W G1 H1 σ env := ⟨g.gh, S.len, fun i s e => (S.ok i s e).up g, S.ds⟩
theorem Tr.up (S : St W G H σ env) (g : Gr G H G1 H1) : Tr σ env G H σ env G1 H1 :=
  ⟨g.gg, fun b o _ h => g.hh b o h, fun b _ => g.nw b, fun _ h => .inl h, fun b n z => n (g.hh.free z), fun i s e h => ⟨rfl, s, e, h⟩⟩
/-- a slot takes data -/
theorem St.set (S : St W G H σ env) {j : Nat} {v : V} {d : D} (r : Rp W G v d) : St W G H (σ.set j (some v)) (env.set j (.d d)) where
  gh := S.gh
  len := by rw [List.length_set, List.length_set]; exact S.len
  ok := fun i s e => by
    by_cases h : j = i
    · subst h
      by_cases hl : j < env.length
      · rw [List.getElem?_set_self hl] at e
        cases e
        exact ⟨v, by rw [List.getElem?_set_self (by rw [S.len]; exact hl)], r⟩
      · rw [List.getElem?_eq_none (by rw [List.length_set]; omega)] at e
        cases e
    · rw [List.getElem?_set_ne h] at e
      rw [List.getElem?_set_ne h]
      exact S.ok i s e
  ds := fun i k s t l e1 o1 v1 e2 o2 v2 => by
    have off : ∀ {m : Nat} {u : Sl}, (env.set j (.d d))[m]? = some u → u.owned = true → j ≠ m := fun {m u} e o z => by
      subst z
      by_cases hl : j < env.length
      · rw [List.getElem?_set_self hl] at e
        cases e
        cases o
      · rw [List.getElem?_eq_none (by rw [List.length_set]; omega)] at e
        cases e
    have h1 := off e1 o1
    have h2 := off e2 o2
    rw [List.getElem?_set_ne h1] at e1 v1
    rw [List.getElem?_set_ne h2] at e2 v2
    exact S.ds i k s t l e1 o1 v1 e2 o2 v2
theorem own_set {j : Nat} {v : V} {d : D} {b : Addr} (h : own (σ.set j (some v)) (env.set j (.d d)) b) : own σ env b := by
  obtain ⟨i, s, e, o, ev⟩ := h
  have hj : j ≠ i := fun z => by
    subst z
    by_cases hl : j < env.length
    · rw [List.getElem?_set_self hl] at e
      cases e
      cases o
    · rw [List.getElem?_eq_none (by rw [List.length_set]; omega)] at e
      cases e
  rw [List.getElem?_set_ne hj] at e ev
  exact ⟨i, s, e, o, ev⟩
/-- the slot j may be stored over -/
def Free (env : List Sl) (j : Nat) : Prop := ∀ s, env[j]? = some s → s.pinned = false
theorem Tr.set (S : St W G H σ env) {j : Nat} {v : V} {d : D} (hf : Free env j) : Tr σ env G H (σ.set j (some v)) (env.set j (.d d)) G H where
  gg := Same.refl G
  fr := fun _ _ _ h => h
  nw := fun _ _ _ h => h
  ow := fun b h => .inl (own_set h)
  kp := fun _ h => h
  pn := fun i s e h => by
    have hj : j ≠ i := fun z => by
      subst z
      rw [hf s e] at h
      cases h
    rw [List.getElem?_set_ne hj, List.getElem?_set_ne hj]
    exact ⟨rfl, s, e, h⟩
/-- slots of which nothing is told may hold anything -/
theorem St.reslot (S : St W G H σ env) (hl : σ1.length = σ.length) (h : ∀ (i : Nat) (s : Sl), env[i]? = some s → (s = .no ∨ σ1[i]? = σ[i]?)) : St W G H σ1 env where
  gh := S.gh
  len := by rw [hl]; exact S.len
  ok := fun i s e => by
    rcases h i s e with q | q
    · subst q
      exact trivial
    · rw [q]
      exact S.ok i s e
  ds := fun i k s t l e1 o1 v1 e2 o2 v2 => by
    have q1 : σ1[i]? = σ[i]? := by
      rcases h i s e1 with q | q
      · subst q
        cases o1
      · exact q
    have q2 : σ1[k]? = σ[k]? := by
      rcases h k t e2 with q | q
      · subst q
        cases o2
      · exact q
    rw [q1] at v1
    rw [q2] at v2
    exact S.ds i k s t l e1 o1 v1 e2 o2 v2
theorem own_reslot (h : ∀ (i : Nat) (s : Sl), env[i]? = some s → (s = .no ∨ σ1[i]? = σ[i]?)) {b : Addr} (q : own σ1 env b) : own σ env b := by
  obtain ⟨i, s, e, o, ev⟩ := q
  rcases h i s e with z | z
  · subst z
    cases o
  · rw [z] at ev
    exact ⟨i, s, e, o, ev⟩
end

/-! ### what is told of expressions, tests, arguments, statements -/
def Ev (W : Wd) (te : TE) (env : List Sl) (R : D → List Sl → Prop) : Prop :=
  ∀ (G H : Hp) (σ : L2.St), St W G H σ env → ∀ Q : VK, (∀ v d G' H' env', St W G' H' σ env' → Tr σ env G H σ env' G' H' → Rp W G' v d → R d env' → Q v H') → te σ H Q
def EvT (W : Wd) (tt : TT) (env : List Sl) (R : Bool → List Sl → Prop) : Prop :=
  ∀ (G H : Hp) (σ : L2.St), St W G H σ env → ∀ Q : Bool → Hp → Prop, (∀ b G' H' env', St W G' H' σ env' → Tr σ env G H σ env' G' H' → R b env' → Q b H') → tt σ H Q
def EvA (W : Wd) (ta : TA) (env : List Sl) (R : List D → List Sl → Prop) : Prop :=
  ∀ (G H : Hp) (σ : L2.St), St W G H σ env → ∀ Q : List V → Hp → Prop, (∀ vs ds G' H' env', St W G' H' σ env' → Tr σ env G H σ env' G' H' → RpAll W G' vs ds → R ds env' → Q vs H') → ta σ H Q
/-- J goes through the data ds, whatever is new in the meantime -/
structure IsW (W : Wd) (J : It) (G : Hp) (ds : List D) : Prop where
  go : ∀ i G' H', Same G G' → Same G' H' → i < ds.length → J.go i H'
  stop : ∀ G' H', Same G G' → Same G' H' → J.stop ds.length H'
  yld : ∀ i G' H' x H'' d, Same G G' → Same G' H' → ds[i]? = some d → J.yld i H' x H'' → ∃ G'', Gr G' H' G'' H'' ∧ Rp W G'' x d
theorem IsW.up {W : Wd} {J : It} {G G1 : Hp} {ds : List D} (e : Same G G1) (h : IsW W J G ds) : IsW W J G1 ds :=
  ⟨fun i G' H' a b => h.go i G' H' (e.trans a) b, fun G' H' a b => h.stop G' H' (e.trans a) b, fun i G' H' x H'' d a b => h.yld i G' H' x H'' d (e.trans a) b⟩
def EvI (W : Wd) (wi : TI) (env : List Sl) (R : List D → List Sl → Prop) : Prop :=
  ∀ (G H : Hp) (σ : L2.St), St W G H σ env → ∀ Q : It → Hp → Prop, (∀ J ds G' H' env', St W G' H' σ env' → Tr σ env G H σ env' G' H' → IsW W J G' ds → R ds env' → Q J H') → wi σ H Q
structure Post where
  nx : List Sl → Prop
  rt : D → List Sl → Prop
  bk : List Sl → Prop := fun _ => False
  ct : List Sl → Prop := fun _ => False
def Run (W : Wd) (ts : TS) (env : List Sl) (P : Post) : Prop :=
  ∀ (G H : Hp) (σ : L2.St) (E : Ends), St W G H σ env →
    (∀ G' H' σ' env', St W G' H' σ' env' → Tr σ env G H σ' env' G' H' → P.nx env' → E.nx σ' H') →
    (∀ v d G' H' σ' env', St W G' H' σ' env' → Tr σ env G H σ' env' G' H' → Rp W G' v d → P.rt d env' → E.rt v H') →
    (∀ G' H' σ' env', St W G' H' σ' env' → Tr σ env G H σ' env' G' H' → P.bk env' → E.bk σ' H') →
    (∀ G' H' σ' env', St W G' H' σ' env' → Tr σ env G H σ' env' G' H' → P.ct env' → E.ct σ' H') → ts E σ H
/-- a target takes data -/
def Tg (W : Wd) (g : TG) (d : D) (env : List Sl) (R : List Sl → Prop) : Prop :=
  ∀ (G H : Hp) (σ : L2.St) (v : V), St W G H σ env → Rp W G v d → ∀ Q : L2.St → Hp → Prop,
    (∀ G' H' σ' env', St W G' H' σ' env' → Tr σ env G H σ' env' G' H' → R env' → Q σ' H') → g v σ H Q

section
variable {W : Wd} {env : List Sl} {ta tb te tx : TE} {t u : TT} {R : D → List Sl → Prop}

theorem Ev.mono {R' : D → List Sl → Prop} (h : Ev W te env R) (k : ∀ d e, R d e → R' d e) : Ev W te env R' := fun G H σ S Q q =>
  h G H σ S Q fun v d G' H' env' S' T r z => q v d G' H' env' S' T r (k d env' z)

/-! #### names, constants -/
theorem ev_var {i : Nat} {x : D} (h : env[i]? = some (.d x)) (k : R x env) : Ev W (tVar i) env R := fun G H σ S Q q => by
  obtain ⟨v, e, r⟩ := S.ok i _ h
  exact ⟨v, e, q v x G H env S (Tr.refl S) r k⟩
theorem ev_c {v : V} {x : D} (h : ∀ G, Rp W G v x) (k : R x env) : Ev W (tC v) env R := fun G H σ S Q q => q v x G H env S (Tr.refl S) (h G) k
theorem ev_int {i : Int} (k : R (.int i) env) : Ev W (tC (.int i)) env R := ev_c (fun _ => .int i) k
theorem ev_str {x : Str} (k : R (.str x) env) : Ev W (tC (.str x)) env R := ev_c (fun _ => .str x) k
theorem ev_bl {b : Bool} (k : R (.bl b) env) : Ev W (tC (.bl b)) env R := ev_c (fun _ => .bl b) k
theorem ev_non (k : R .non env) : Ev W (tC .non) env R := ev_c (fun _ => .non) k

/-! #### operators by data -/
/-- r does on values what o does on data -/
def OpD (W : Wd) (r : R2) (o : D → D → Option D) : Prop :=
  ∀ (G H : Hp) (x y : V) (dx dy dz : D), Same G H → Rp W G x dx → Rp W G y dy → o dx dy = some dz → ∀ Q : VK, (∀ v G' H', Gr G H G' H' → Rp W G' v dz → Q v H') → r x y H Q
theorem ev_op {r : R2} {o : D → D → Option D} (ho : OpD W r o) (h : Ev W ta env fun x e1 => Ev W tb e1 fun y e2 => ∃ z, o x y = some z ∧ R z e2) : Ev W (tOp r ta tb) env R := fun G H σ S Q q =>
  h G H σ S _ fun x dx G1 H1 e1 S1 T1 r1 h1 => h1 G1 H1 σ S1 _ fun y dy G2 H2 e2 S2 T2 r2 ⟨z, hz, k⟩ =>
    ho G2 H2 x y dx dy z S2.gh (r1.up T2.gg) r2 hz Q fun v G3 H3 g r3 => q v z G3 H3 e2 (S2.up g) ((T1.trans S T2).trans S (Tr.up S2 g)) r3 k
def UnD (W : Wd) (r : V → Hp → VK → Prop) (o : D → Option D) : Prop :=
  ∀ (G H : Hp) (x : V) (dx dz : D), Same G H → Rp W G x dx → o dx = some dz → ∀ Q : VK, (∀ v G' H', Gr G H G' H' → Rp W G' v dz → Q v H') → r x H Q
theorem ev_un {r : V → Hp → VK → Prop} {o : D → Option D} (ho : UnD W r o) (h : Ev W ta env fun x e1 => ∃ z, o x = some z ∧ R z e1) : Ev W (tUn r ta) env R := fun G H σ S Q q =>
  h G H σ S _ fun x dx G1 H1 e1 S1 T1 r1 ⟨z, hz, k⟩ => ho G1 H1 x dx z S1.gh r1 hz Q fun v G3 H3 g r3 => q v z G3 H3 e1 (S1.up g) (T1.trans S (Tr.up S1 g)) r3 k

/-! #### arguments, displays, built-ins -/
theorem ea_nil {R : List D → List Sl → Prop} (k : R [] env) : EvA W tNil env R := fun G H σ S Q q => q [] [] G H env S (Tr.refl S) .nil k
theorem ea_cons {tr : TA} {R : List D → List Sl → Prop} (h : Ev W ta env fun x e1 => EvA W tr e1 fun xs e2 => R (x :: xs) e2) : EvA W (tCons ta tr) env R := fun G H σ S Q q =>
  h G H σ S _ fun x dx G1 H1 e1 S1 T1 r1 h1 => h1 G1 H1 σ S1 _ fun ys dys G2 H2 e2 S2 T2 r2 k => q _ _ G2 H2 e2 S2 (T1.trans S T2) (.cons (r1.up T2.gg) r2) k
def CallD (W : Wd) (r : List V → Hp → VK → Prop) (o : List D → Option D) : Prop :=
  ∀ (G H : Hp) (xs : List V) (ds : List D) (dz : D), Same G H → RpAll W G xs ds → o ds = some dz → ∀ Q : VK, (∀ v G' H', Gr G H G' H' → Rp W G' v dz → Q v H') → r xs H Q
theorem ev_cb {r : List V → Hp → VK → Prop} {tr : TA} {o : List D → Option D} (ho : CallD W r o) (h : EvA W tr env fun xs e1 => ∃ z, o xs = some z ∧ R z e1) : Ev W (tCB r tr) env R := fun G H σ S Q q =>
  h G H σ S _ fun xs ds G1 H1 e1 S1 T1 r1 ⟨z, hz, k⟩ => ho G1 H1 xs ds z S1.gh r1 hz Q fun v G3 H3 g r3 => q v z G3 H3 e1 (S1.up g) (T1.trans S (Tr.up S1 g)) r3 k
theorem ev_tup {tr : TA} (h : EvA W tr env fun xs e1 => xs.length ≤ sizeLine ∧ R (.tup xs) e1) : Ev W (tTup tr) env R := fun G H σ S Q q =>
  h G H σ S _ fun xs ds G1 H1 e1 S1 T1 r1 ⟨hz, k⟩ => ⟨by rw [r1.length]; exact hz, fun p hp => by
    have g : Gr G1 H1 (upd G1 p (.tup xs)) (upd H1 p (.tup xs)) := Gr.new S1.gh hp
    exact q (.ref p) _ _ _ e1 (S1.up g) (T1.trans S (Tr.up S1 g)) (.tup (.inl (.inl upd_same)) (r1.up g.gg)) k⟩
theorem ev_lst {tr : TA} (h : EvA W tr env fun xs e1 => xs.length ≤ sizeLine ∧ R (.lst xs) e1) : Ev W (tLst tr) env R := fun G H σ S Q q =>
  h G H σ S _ fun xs ds G1 H1 e1 S1 T1 r1 ⟨hz, k⟩ => ⟨by rw [r1.length]; exact hz, fun p hp => by
    have g : Gr G1 H1 (upd G1 p (.lst xs)) (upd H1 p (.lst xs)) := Gr.new S1.gh hp
    exact q (.ref p) _ _ _ e1 (S1.up g) (T1.trans S (Tr.up S1 g)) (.lst upd_same (r1.up g.gg)) k⟩

/-! #### tests -/
theorem et_test {R : Bool → List Sl → Prop} (h : Ev W te env fun d e1 => ∃ b, d = .bl b ∧ R b e1) : EvT W (tTest te) env R := fun G H σ S Q q =>
  h G H σ S _ fun v d G1 H1 e1 S1 T1 r1 ⟨b, e, k⟩ => by
    subst e
    exact ⟨b, r1.bl_inv, q b G1 H1 e1 S1 T1 k⟩
theorem et_B {R : Bool → List Sl → Prop} (h : Ev W te env fun d e1 => ∃ b, d = .bl b ∧ R b e1) : EvT W (tB te) env R := fun G H σ S Q q =>
  h G H σ S _ fun v d G1 H1 e1 S1 T1 r1 ⟨b, e, k⟩ => by
    subst e
    exact ⟨b, r1.bl_inv, q b G1 H1 e1 S1 T1 k⟩
theorem et_not {R : Bool → List Sl → Prop} (h : EvT W t env fun b e1 => R (!b) e1) : EvT W (tNot t) env R := fun G H σ S Q q =>
  h G H σ S _ fun b G1 H1 e1 S1 T1 k => q (!b) G1 H1 e1 S1 T1 k
theorem et_and {R : Bool → List Sl → Prop} (h : EvT W t env fun b e1 => if b = true then EvT W u e1 R else R false e1) : EvT W (tAnd t u) env R := fun G H σ S Q q =>
  h G H σ S _ fun b G1 H1 e1 S1 T1 k => by
    cases b with
    | true =>
      have k : EvT W u e1 R := k
      show u σ H1 Q
      exact k G1 H1 σ S1 Q fun b G2 H2 e2 S2 T2 k2 => q b G2 H2 e2 S2 (T1.trans S T2) k2
    | false =>
      have k : R false e1 := k
      show Q false H1
      exact q false G1 H1 e1 S1 T1 k
theorem et_or {R : Bool → List Sl → Prop} (h : EvT W t env fun b e1 => if b = true then R true e1 else EvT W u e1 R) : EvT W (tOr t u) env R := fun G H σ S Q q =>
  h G H σ S _ fun b G1 H1 e1 S1 T1 k => by
    cases b with
    | true =>
      have k : R true e1 := k
      show Q true H1
      exact q true G1 H1 e1 S1 T1 k
    | false =>
      have k : EvT W u e1 R := k
      show u σ H1 Q
      exact k G1 H1 σ S1 Q fun b G2 H2 e2 S2 T2 k2 => q b G2 H2 e2 S2 (T1.trans S T2) k2
theorem ev_if (h : EvT W t env fun b e1 => if b = true then Ev W ta e1 R else Ev W tb e1 R) : Ev W (tIf t ta tb) env R := fun G H σ S Q q =>
  h G H σ S _ fun b G1 H1 e1 S1 T1 k => by
    cases b with
    | true =>
      have k : Ev W ta e1 R := k
      show ta σ H1 Q
      exact k G1 H1 σ S1 Q fun v d G2 H2 e2 S2 T2 r k2 => q v d G2 H2 e2 S2 (T1.trans S T2) r k2
    | false =>
      have k : Ev W tb e1 R := k
      show tb σ H1 Q
      exact k G1 H1 σ S1 Q fun v d G2 H2 e2 S2 T2 r k2 => q v d G2 H2 e2 S2 (T1.trans S T2) r k2
/-- and, or, not of bools as values -/
theorem ev_andV (h : Ev W ta env fun x e1 => ∃ b, x = .bl b ∧ if b = true then Ev W tb e1 R else R (.bl false) e1) : Ev W (tAndV ta tb) env R := fun G H σ S Q q =>
  h G H σ S _ fun v d G1 H1 e1 S1 T1 r1 ⟨b, e, k⟩ => by
    subst e
    refine ⟨b, r1.bl_inv, ?_⟩
    cases b with
    | true =>
      have k : Ev W tb e1 R := k
      show tb σ H1 Q
      exact k G1 H1 σ S1 Q fun v d G2 H2 e2 S2 T2 r k2 => q v d G2 H2 e2 S2 (T1.trans S T2) r k2
    | false =>
      have k : R (.bl false) e1 := k
      show Q (.bl false) H1
      exact q _ _ G1 H1 e1 S1 T1 (.bl false) k
theorem ev_orV (h : Ev W ta env fun x e1 => ∃ b, x = .bl b ∧ if b = true then R (.bl true) e1 else Ev W tb e1 R) : Ev W (tOrV ta tb) env R := fun G H σ S Q q =>
  h G H σ S _ fun v d G1 H1 e1 S1 T1 r1 ⟨b, e, k⟩ => by
    subst e
    refine ⟨b, r1.bl_inv, ?_⟩
    cases b with
    | false =>
      have k : Ev W tb e1 R := k
      show tb σ H1 Q
      exact k G1 H1 σ S1 Q fun v d G2 H2 e2 S2 T2 r k2 => q v d G2 H2 e2 S2 (T1.trans S T2) r k2
    | true =>
      have k : R (.bl true) e1 := k
      show Q (.bl true) H1
      exact q _ _ G1 H1 e1 S1 T1 (.bl true) k
theorem ev_notV (h : Ev W ta env fun x e1 => ∃ b, x = .bl b ∧ R (.bl (!b)) e1) : Ev W (tNotV ta) env R := fun G H σ S Q q =>
  h G H σ S _ fun v d G1 H1 e1 S1 T1 r1 ⟨b, e, k⟩ => by
    subst e
    exact ⟨b, r1.bl_inv, q _ _ G1 H1 e1 S1 T1 (.bl _) k⟩

/-! #### statements -/
variable {P : Post} {t1 t2 : TS}
theorem run_seq (h : Run W t1 env { P with nx := fun e1 => Run W t2 e1 P }) : Run W (tSeq t1 t2) env P := fun G H σ E S n r b c =>
  h G H σ { E with nx := t2 E } S
    (fun G1 H1 σ1 e1 S1 T1 k => k G1 H1 σ1 E S1 (fun G2 H2 σ2 e2 S2 T2 z => n G2 H2 σ2 e2 S2 (T1.trans S T2) z) (fun v d G2 H2 σ2 e2 S2 T2 q z => r v d G2 H2 σ2 e2 S2 (T1.trans S T2) q z)
      (fun G2 H2 σ2 e2 S2 T2 z => b G2 H2 σ2 e2 S2 (T1.trans S T2) z) (fun G2 H2 σ2 e2 S2 T2 z => c G2 H2 σ2 e2 S2 (T1.trans S T2) z)) r b c
theorem run_next (k : P.nx env) : Run W tNext env P := fun G H σ E S n r b c => n G H σ env S (Tr.refl S) k
theorem run_brk (k : P.bk env) : Run W tBreak env P := fun G H σ E S n r b c => b G H σ env S (Tr.refl S) k
theorem run_cont (k : P.ct env) : Run W tCont env P := fun G H σ E S n r b c => c G H σ env S (Tr.refl S) k
theorem run_ret (h : Ev W te env P.rt) : Run W (tRet te) env P := fun G H σ E S n r b c => h G H σ S _ fun v d G1 H1 e1 S1 T1 q k => r v d G1 H1 σ e1 S1 T1 q k
theorem run_retN (k : P.rt .non env) : Run W tRetN env P := fun G H σ E S n r b c => r .non .non G H σ env S (Tr.refl S) .non k
theorem run_drop (h : Ev W te env fun _ e1 => P.nx e1) : Run W (tDrop te) env P := fun G H σ E S n r b c => h G H σ S _ fun v d G1 H1 e1 S1 T1 q k => n G1 H1 σ e1 S1 T1 k
theorem run_if (h : EvT W t env fun b e1 => if b = true then Run W t1 e1 P else Run W t2 e1 P) : Run W (tIfS t t1 t2) env P := fun G H σ E S n r b c =>
  h G H σ S _ fun x G1 H1 e1 S1 T1 k => by
    have go : ∀ {tz : TS}, Run W tz e1 P → tz E σ H1 := fun {tz} k => k G1 H1 σ E S1 (fun G2 H2 σ2 e2 S2 T2 z => n G2 H2 σ2 e2 S2 (T1.trans S T2) z) (fun v d G2 H2 σ2 e2 S2 T2 q z => r v d G2 H2 σ2 e2 S2 (T1.trans S T2) q z)
      (fun G2 H2 σ2 e2 S2 T2 z => b G2 H2 σ2 e2 S2 (T1.trans S T2) z) (fun G2 H2 σ2 e2 S2 T2 z => c G2 H2 σ2 e2 S2 (T1.trans S T2) z)
    cases x with
    | true => exact go k
    | false => exact go k
theorem tg_name {j : Nat} {d : D} {R : List Sl → Prop} (hf : Free env j) (k : R (env.set j (.d d))) : Tg W (gName j) d env R := fun G H σ v S r Q q =>
  q G H _ _ (S.set r) (Tr.set S hf) k
theorem run_asg {g : TG} (h : Ev W te env fun d e1 => Tg W g d e1 P.nx) : Run W (tAsg te g) env P := fun G H σ E S n r b c =>
  h G H σ S _ fun v d G1 H1 e1 S1 T1 q k => k G1 H1 σ v S1 q _ fun G2 H2 σ2 e2 S2 T2 z => n G2 H2 σ2 e2 S2 (T1.trans S T2) z
/-- name = e -/
theorem run_set {j : Nat} (h : Ev W te env fun d e1 => Free e1 j ∧ P.nx (e1.set j (.d d))) : Run W (tAsg te (gName j)) env P := run_asg (h.mono fun d e1 k => tg_name k.1 k.2)
end
end Nv

set_option Elab.async false
set_option linter.all false
set_option maxRecDepth 100000
set_option maxHeartbeats 4000000
/-! NvL: loops, comprehensions, lists and dicts of one's own, calls of defs that are told by data. -/
namespace Nv
open PySem L2 PyProof.Rows PySem.Spec

section
variable {W : Wd} {G H G1 H1 G2 H2 : Hp} {σ σ1 σ2 : L2.St} {env env1 env2 : List Sl}
theorem own_no {j : Nat} (hj : env[j]? = some .no) {x : Option V} {b : Addr} : own (σ.set j x) env b ↔ own σ env b := by
  have off : ∀ {i : Nat} {s : Sl}, env[i]? = some s → s.owned = true → j ≠ i := fun {i s} e o z => by
    subst z
    rw [hj] at e
    cases e
    cases o
  constructor
  · rintro ⟨i, s, e, o, v⟩
    rw [List.getElem?_set_ne (off e o)] at v
    exact ⟨i, s, e, o, v⟩
  · rintro ⟨i, s, e, o, v⟩
    exact ⟨i, s, e, o, by rw [List.getElem?_set_ne (off e o)]; exact v⟩
/-- an address that is nobody's changes, or becomes known -/
theorem St.mut (S : St W G H σ env) {p : Addr} {o : HO} (hg : G p = none) (ho : ¬ own σ env p) : St W G (upd H p o) σ env where
  gh := fun b u h => by
    rw [upd_ne (ne_of_none h hg)]
    exact S.gh b u h
  len := S.len
  ok := fun i s e => by
    have q := S.ok i s e
    have off : ∀ l, σ[i]? = some (some (.ref l)) → s.owned = true → l ≠ p := fun l e1 e2 z => ho (by subst z; exact ⟨i, s, e, e2, e1⟩)
    cases s with
    | no => exact trivial
    | d x => exact q
    | ol xs =>
      obtain ⟨l, vs, e1, a, b, r⟩ := q
      exact ⟨l, vs, e1, a, by rw [upd_ne (off l e1 rfl)]; exact b, r⟩
    | pl xs =>
      obtain ⟨l, vs, e1, a, b, r⟩ := q
      exact ⟨l, vs, e1, a, by rw [upd_ne (off l e1 rfl)]; exact b, r⟩
    | od kvs =>
      obtain ⟨l, vs, e1, a, b, r⟩ := q
      exact ⟨l, vs, e1, a, by rw [upd_ne (off l e1 rfl)]; exact b, r⟩
    | pd kvs =>
      obtain ⟨l, vs, e1, a, b, r⟩ := q
      exact ⟨l, vs, e1, a, by rw [upd_ne (off l e1 rfl)]; exact b, r⟩
  ds := S.ds
theorem St.freeze (S : St W G H σ env) {p : Addr} {o : HO} (hh : H p = some o) (hg : G p = none) (ho : ¬ own σ env p) : St W (upd G p o) H σ env where
  gh := fun b u h => by
    by_cases z : b = p
    · subst z
      rw [upd_same] at h
      rw [← h]
      exact hh
    · rw [upd_ne z] at h
      exact S.gh b u h
  len := S.len
  ok := fun i s e => by
    have q := S.ok i s e
    have gg : Same G (upd G p o) := fun b u h => by
      rw [upd_ne (ne_of_none h hg)]
      exact h
    have off : ∀ l, σ[i]? = some (some (.ref l)) → s.owned = true → G l = none → upd G p o l = none := fun l e1 e2 z => by
      rw [upd_ne (fun y => ho (by subst y; exact ⟨i, s, e, e2, e1⟩))]
      exact z
    cases s with
    | no => exact trivial
    | d x =>
      obtain ⟨v, e1, r⟩ := q
      exact ⟨v, e1, r.up gg⟩
    | ol xs =>
      obtain ⟨l, vs, e1, a, b, r⟩ := q
      exact ⟨l, vs, e1, off l e1 rfl a, b, r.up gg⟩
    | pl xs =>
      obtain ⟨l, vs, e1, a, b, r⟩ := q
      exact ⟨l, vs, e1, off l e1 rfl a, b, r.up gg⟩
    | od kvs =>
      obtain ⟨l, vs, e1, a, b, q, r⟩ := q
      exact ⟨l, vs, e1, off l e1 rfl a, b, q, r.up gg⟩
    | pd kvs =>
      obtain ⟨l, vs, e1, a, b, q, r⟩ := q
      exact ⟨l, vs, e1, off l e1 rfl a, b, q, r.up gg⟩
  ds := S.ds
/-- the same between two states in which nothing is told of the slot j -/
theorem Tr.off {j : Nat} {x : Option V} (S : St W G H σ env) (hj : env[j]? = some .no) (hj1 : env1[j]? = some .no) (T : Tr (σ.set j x) env G H (σ1.set j x) env1 G1 H1) (hs : ∀ i, i ≠ j → σ1[i]? = σ[i]?) : Tr σ env G H σ1 env1 G1 H1 where
  gg := T.gg
  fr := fun b o n h => T.fr b o (fun z => n ((own_no hj).mp z)) h
  nw := fun b m => T.nw b fun z => m ((own_no hj).mp z)
  ow := fun b h => (T.ow b ((own_no hj1).mpr h)).imp (fun z => (own_no hj).mp z) id
  kp := T.kp
  pn := fun i s e h => by
    have ne : i ≠ j := fun z => by
      subst z
      rw [hj] at e
      cases e
      cases h
    exact ⟨hs i ne, (T.pn i s e h).2⟩

/-- something that was not there ahead has come, has changed, has become known -/
theorem Tr.late (T : Tr σ env G H σ1 env1 G1 H1) {p : Addr} {o : HO} (hp : H p = none) : Tr σ env G H σ1 env1 G1 (upd H1 p o) where
  gg := T.gg
  fr := fun b u n h => by
    rw [upd_ne (ne_of_none h hp)]
    exact T.fr b u n h
  nw := T.nw
  ow := T.ow
  kp := fun b n => by
    rw [upd_ne (fun z => n (by rw [z]; exact hp))]
    exact T.kp b n
  pn := T.pn
theorem Tr.told (S : St W G H σ env) (T : Tr σ env G H σ1 env1 G1 H1) {p : Addr} {o : HO} (hp : H p = none) : Tr σ env G H σ1 env1 (upd G1 p o) H1 where
  gg := fun b u h => by
    rw [upd_ne (ne_of_none (S.gh b u h) hp)]
    exact T.gg b u h
  fr := T.fr
  nw := fun b m n h => by
    rw [upd_ne (fun z => n (by rw [z]; exact hp))]
    exact T.nw b m n h
  ow := T.ow
  kp := T.kp
  pn := T.pn
end

/-- te makes a new list, that nobody has yet -/
def EvF (W : Wd) (te : TE) (env : List Sl) (R : List D → List Sl → Prop) : Prop :=
  ∀ (G H : Hp) (σ : L2.St), St W G H σ env → ∀ Q : VK, (∀ p vs ds G' H' env', St W G' H' σ env' → Tr σ env G H σ env' G' H' → H p = none → H' p = some (.lst vs) → G' p = none → ¬ own σ env' p → RpAll W G' vs ds → R ds env' → Q (.ref p) H') → te σ H Q
theorem ev_f {W : Wd} {te : TE} {env : List Sl} {R : D → List Sl → Prop} (h : EvF W te env fun ds e1 => R (.lst ds) e1) : Ev W te env R := fun G H σ S Q q =>
  h G H σ S Q fun p vs ds G1 H1 e1 S1 T1 h0 h1 g1 no r k => by
    have gg : Same G1 (upd G1 p (.lst vs)) := fun b u z => by
      rw [upd_ne (ne_of_none z g1)]
      exact z
    exact q (.ref p) (.lst ds) (upd G1 p (.lst vs)) H1 e1 (S1.freeze h1 g1 no) (T1.told S h0) (.lst upd_same (r.up gg)) k
theorem evf_lst {W : Wd} {tr : TA} {env : List Sl} {R : List D → List Sl → Prop} (h : EvA W tr env fun xs e1 => xs.length ≤ sizeLine ∧ R xs e1) : EvF W (tLst tr) env R := fun G H σ S Q q =>
  h G H σ S _ fun xs ds G1 H1 e1 S1 T1 r1 ⟨hz, k⟩ => ⟨by rw [r1.length]; exact hz, fun p hp => by
    have no : ¬ own σ e1 p := fun z => by
      obtain ⟨_, o, ho⟩ := S1.own_at z
      rw [hp] at ho
      cases ho
    have h0 : H p = none := by
      cases z : H p with
      | none => rfl
      | some o => exact absurd hp (T1.kp p (by rw [z]; exact fun y => nomatch y))
    exact q p xs ds G1 _ e1 (S1.mut (S1.gh.free hp) no) (T1.late h0) h0 upd_same (S1.gh.free hp) no r1 k⟩

/-! ### for -/
def ForR (W : Wd) (g : TG) (tb : TS) (P : Post) : List D → List Sl → Prop
  | [], env => P.nx env
  | d :: ds, env => Tg W g d env fun e1 => Run W tb e1 { nx := ForR W g tb P ds, rt := P.rt, bk := P.nx, ct := ForR W g tb P ds }
theorem run_for {W : Wd} {wi : TI} {g : TG} {tb : TS} {env : List Sl} {P : Post} (h : EvI W wi env fun ds e1 => ForR W g tb P ds e1) : Run W (tFor wi g tb) env P := fun G H σ E S n r b c => by
  refine h G H σ S _ fun J ds G1 H1 e1 S1 T1 hw k => ?_
  let I : Nat → L2.St → Hp → Prop := fun i σ2 H2 => i ≤ ds.length ∧ ∃ G2 e2, St W G2 H2 σ2 e2 ∧ Tr σ e1 G1 H1 σ2 e2 G2 H2 ∧ ForR W g tb P (ds.drop i) e2
  refine ⟨fun i m σ2 H2 => m = ds.length - i ∧ I i σ2 H2, ⟨ds.length, by simp, Nat.zero_le _, G1, e1, S1, Tr.refl S1, k⟩, ?_⟩
  rintro i m σ2 H2 ⟨rfl, hi, G2, e2, S2, T2, k2⟩
  by_cases hlt : i < ds.length
  · refine .inr ⟨hw.go i G2 H2 T2.gg S2.gh hlt, I (i + 1), fun σ3 H3 q => ⟨ds.length - (i + 1), by omega, rfl, q⟩, fun x H3 y => ?_⟩
    obtain ⟨G3, g3, r3⟩ := hw.yld i G2 H2 x H3 ds[i] T2.gg S2.gh (by simp [hlt]) y
    have e : ds.drop i = ds[i] :: ds.drop (i + 1) := by simp [hlt]
    rw [e] at k2
    have k2 : Tg W g ds[i] e2 _ := k2
    have T3 := Tr.up S2 g3
    have S3 := S2.up g3
    refine k2 G3 H3 σ2 x S3 r3 _ fun G4 H4 σ4 e4 S4 T4 k4 => ?_
    have T4' := (T2.trans S1 T3).trans S1 T4
    refine k4 G4 H4 σ4 _ S4 (fun G5 H5 σ5 e5 S5 T5 k5 => ⟨hlt, G5, e5, S5, T4'.trans S1 T5, k5⟩) (fun v d G5 H5 σ5 e5 S5 T5 r5 k5 => ?_) (fun G5 H5 σ5 e5 S5 T5 k5 => ?_) fun G5 H5 σ5 e5 S5 T5 k5 => ⟨hlt, G5, e5, S5, T4'.trans S1 T5, k5⟩
    · exact r v d G5 H5 σ5 e5 S5 (T1.trans S (T4'.trans S1 T5)) r5 k5
    · exact n G5 H5 σ5 e5 S5 (T1.trans S (T4'.trans S1 T5)) k5
  · have e : i = ds.length := by omega
    subst e
    rw [List.drop_length] at k2
    exact .inl ⟨hw.stop G2 H2 T2.gg S2.gh, n G2 H2 σ2 e2 S2 (T1.trans S T2) k2⟩

/-! ### while: a word over the slots, and a number that falls -/
theorem run_while {W : Wd} {t : TT} {tb : TS} {env : List Sl} {P : Post} (I : Nat → List Sl → Prop) (m0 : Nat) (h0 : I m0 env)
    (hs : ∀ m e, I m e → EvT W t e fun b e1 => if b = true then Run W tb e1 { nx := fun e2 => ∃ m', m' < m ∧ I m' e2, rt := P.rt, bk := P.nx, ct := fun e2 => ∃ m', m' < m ∧ I m' e2 } else P.nx e1) : Run W (tWhile t tb) env P := fun G H σ E S n r b c => by
  refine ⟨fun m σ2 H2 => ∃ G2 e2, St W G2 H2 σ2 e2 ∧ Tr σ env G H σ2 e2 G2 H2 ∧ I m e2, ⟨m0, G, env, S, Tr.refl S, h0⟩, ?_⟩
  rintro m σ2 H2 ⟨G2, e2, S2, T2, k2⟩
  refine hs m e2 k2 G2 H2 σ2 S2 _ fun x G3 H3 e3 S3 T3 k3 => ?_
  have T3' := T2.trans S T3
  cases x with
  | false => exact n G3 H3 σ2 e3 S3 T3' k3
  | true =>
    have k3 : Run W tb e3 _ := k3
    refine ⟨fun σ4 H4 => ∃ m', m' < m ∧ ∃ G4 e4, St W G4 H4 σ4 e4 ∧ Tr σ env G H σ4 e4 G4 H4 ∧ I m' e4, fun σ4 H4 q => q, ?_⟩
    refine k3 G3 H3 σ2 _ S3 (fun G5 H5 σ5 e5 S5 T5 k5 => ?_) (fun v d G5 H5 σ5 e5 S5 T5 r5 k5 => r v d G5 H5 σ5 e5 S5 (T3'.trans S T5) r5 k5) (fun G5 H5 σ5 e5 S5 T5 k5 => n G5 H5 σ5 e5 S5 (T3'.trans S T5) k5) (fun G5 H5 σ5 e5 S5 T5 k5 => ?_)
    all_goals
      obtain ⟨m', hm, k5⟩ := k5
      exact ⟨m', hm, G5, e5, S5, T3'.trans S T5, k5⟩

/-! ### a comprehension with one for, its name in the slot j -/
def CmpR (W : Wd) (j : Nat) (tt : TT) (te : TE) (R : List D → List Sl → Prop) : List D → List D → List Sl → Prop
  | [], acc, env => R acc env
  | d :: ds, acc, env => EvT W tt (env.set j (.d d)) fun b e1 =>
    if b = true then Ev W te e1 fun y e2 => acc.length < sizeLine ∧ CmpR W j tt te R ds (acc ++ [y]) (e2.set j .no) else CmpR W j tt te R ds acc (e1.set j .no)
theorem evf_lc {W : Wd} {wi : TI} {tt : TT} {te : TE} {j : Nat} {env : List Sl} {R : List D → List Sl → Prop} (h : EvI W wi env fun ds e1 => e1[j]? = some .no ∧ CmpR W j tt te R ds [] e1) : EvF W (tLc wi (gName j) tt te [j]) env R := fun G H σ S Q q => by
  refine h G H σ S _ fun J ds G1 H1 e1 S1 T1 hw ⟨hj, k⟩ => fun A hA => ?_
  have jl : j < e1.length := (List.getElem?_eq_some_iff.mp hj).1
  -- the new list at A, nobody's
  have nA : ∀ l, own σ e1 l → l ≠ A := fun l hl z => by
    obtain ⟨_, o, ho⟩ := S1.own_at hl
    rw [z, hA] at ho
    cases ho
  have g0 : ∀ b o, G1 b = some o → b ≠ A := fun b o hb => ne_of_none (S1.gh b o hb) hA
  have gA : G1 A = none := S1.gh.free hA
  let I : Nat → Hp → Prop := fun i H2 => i ≤ ds.length ∧ ∃ G2 e2 acc av, St W G2 H2 (σ.set j none) e2 ∧ Tr σ e1 G1 H1 σ e2 G2 H2 ∧ e2[j]? = some .no ∧ H2 A = some (.lst av) ∧ G2 A = none ∧ RpAll W G2 av acc ∧ (∀ l, own σ e2 l → l ≠ A) ∧ CmpR W j tt te R (ds.drop i) acc e2
  have S1' : St W G1 (upd H1 A (.lst [])) σ e1 := S1.mut gA fun z => nA A z rfl
  have clr : ∀ {G2 H2 : Hp} {e2 : List Sl} {x : Option V}, e2[j]? = some .no → St W G2 H2 σ e2 → St W G2 H2 (σ.set j x) e2 := fun {G2 H2 e2 x} hz S2 => S2.reslot (by rw [List.length_set]) fun i s e => by
    by_cases z : j = i
    · subst z
      rw [hz] at e
      cases e
      exact .inl rfl
    · exact .inr (List.getElem?_set_ne z)
  have unclr : ∀ {G2 H2 : Hp} {e2 : List Sl} {x : Option V}, e2[j]? = some .no → St W G2 H2 (σ.set j x) e2 → St W G2 H2 σ e2 := fun {G2 H2 e2 x} hz S2 => S2.reslot (by rw [List.length_set]) fun i s e => by
    by_cases z : j = i
    · subst z
      rw [hz] at e
      cases e
      exact .inl rfl
    · exact .inr (List.getElem?_set_ne z).symm
  refine ⟨fun i m H2 => m = ds.length - i ∧ I i H2, ⟨ds.length, by simp, Nat.zero_le _, G1, e1, [], [], clr hj S1', (Tr.refl S1).late hA, hj, upd_same, gA, .nil, nA, k⟩, ?_⟩
  rintro i m H2 ⟨rfl, hi, G2, e2, acc, av, S2, T2, hj2, hA2, gA2, ra, nO, k2⟩
  have nA2 : ¬ own σ e2 A := fun z => by
    obtain ⟨_, o, ho⟩ := (unclr hj2 S2).own_at z
    obtain ⟨i0, s0, a0, b0, c0⟩ := z
    exact nO A ⟨i0, s0, a0, b0, c0⟩ rfl
  by_cases hlt : i < ds.length
  · refine .inr ⟨hw.go i G2 H2 T2.gg S2.gh hlt, I (i + 1), fun H3 z => ⟨ds.length - (i + 1), by omega, rfl, z⟩, fun x H3 y => ?_⟩
    obtain ⟨G3, g3, r3⟩ := hw.yld i G2 H2 x H3 ds[i] T2.gg S2.gh (by simp [hlt]) y
    have e : ds.drop i = ds[i] :: ds.drop (i + 1) := by simp [hlt]
    rw [e] at k2
    have k2 : EvT W tt (e2.set j (.d ds[i])) _ := k2
    have jl2 : j < e2.length := (List.getElem?_eq_some_iff.mp hj2).1
    have hA3 : H3 A = some (.lst av) := g3.hh _ _ hA2
    have gA3 : G3 A = none := g3.nw A (by rw [hA2]; exact fun z => nomatch z) gA2
    have S3 : St W G3 H3 ((σ.set j none).set j (some x)) (e2.set j (.d ds[i])) := (S2.up g3).set r3
    rw [List.set_set] at S3
    have T3 : Tr σ e1 G1 H1 σ e2 G3 H3 := T2.trans S1 (Tr.up (unclr hj2 S2) g3)
    show (fun σ2 H2 => wipe σ2 [j] = wipe σ [j] ∧ _) ((σ.set j none).set j (some x)) H3
    refine ⟨by show ((σ.set j none).set j (some x)).set j none = σ.set j none; rw [List.set_set, List.set_set], ?_⟩
    show tt ((σ.set j none).set j (some x)) H3 fun b H3 => if b = true then te ((σ.set j none).set j (some x)) H3 fun y H4 => ∃ acc, H4 A = some (.lst acc) ∧ acc.length < sizeLine ∧ I (i + 1) (upd H4 A (.lst (acc ++ [y]))) else I (i + 1) H3
    rw [List.set_set]
    -- what the element leaves
    have back : ∀ {G5 H5 : Hp} {e5 : List Sl}, St W G5 H5 (σ.set j (some x)) e5 → Tr (σ.set j (some x)) (e2.set j (.d ds[i])) G3 H3 (σ.set j (some x)) e5 G5 H5 →
        St W G5 H5 σ (e5.set j .no) ∧ Tr σ e2 G3 H3 σ (e5.set j .no) G5 H5 ∧ (e5.set j .no)[j]? = some .no ∧ H5 A = some (.lst av) ∧ G5 A = none ∧ ¬ own σ (e5.set j .no) A := fun {G5 H5 e5} S5 T5 => by
      have l5 : e5.length = e2.length := by
        have a := S5.len
        have b := S2.len
        rw [List.length_set] at a b
        omega
      have hno : (e5.set j .no)[j]? = some .no := by rw [List.getElem?_set_self (by omega)]
      have lower : ∀ b, own σ (e5.set j .no) b → own (σ.set j (some x)) e5 b := fun b ⟨i, s, e, o, v⟩ => by
        have ne : j ≠ i := fun z => by
          subst z
          rw [hno] at e
          cases e
          cases o
        rw [List.getElem?_set_ne ne] at e
        exact ⟨i, s, e, o, by rw [List.getElem?_set_ne ne]; exact v⟩
      have down : ∀ b, own (σ.set j (some x)) (e2.set j (.d ds[i])) b → own σ e2 b := fun b z => own_set z
      have S6 : St W G5 H5 σ (e5.set j .no) := by
        refine ⟨S5.gh, by rw [List.length_set, l5]; have := S2.len; rw [List.length_set] at this; exact this, fun i s e => ?_, fun i1 k1 s1 t1 l a1 o1 v1 a2 o2 v2 => ?_⟩
        · by_cases z : j = i
          · subst z
            rw [hno] at e
            cases e
            exact trivial
          · rw [List.getElem?_set_ne z] at e
            have := S5.ok i s e
            rw [List.getElem?_set_ne z] at this
            exact this
        · have ne1 : j ≠ i1 := fun z => by
            subst z
            rw [hno] at a1
            cases a1
            cases o1
          have ne2 : j ≠ k1 := fun z => by
            subst z
            rw [hno] at a2
            cases a2
            cases o2
          rw [List.getElem?_set_ne ne1] at a1
          rw [List.getElem?_set_ne ne2] at a2
          exact S5.ds i1 k1 s1 t1 l a1 o1 (by rw [List.getElem?_set_ne ne1]; exact v1) a2 o2 (by rw [List.getElem?_set_ne ne2]; exact v2)
      have nA5 : ¬ own σ (e5.set j .no) A := fun z => by
        rcases T5.ow A (lower A z) with z | z
        · exact nA2 (down A z)
        · rw [hA3] at z
          cases z
      refine ⟨S6, ⟨T5.gg, fun b o n h => T5.fr b o (fun z => n (down b z)) h, fun b m => T5.nw b fun z => m (down b z), fun b z => (T5.ow b (lower b z)).imp (down b) id, T5.kp, fun i s e h => ?_⟩, hno, T5.fr A _ (fun z => nA2 (down A z)) hA3, T5.nw A (fun z => nA2 (down A z)) (by rw [hA3]; exact fun z => nomatch z) gA3, nA5⟩
      have ne : j ≠ i := fun z => by
        subst z
        rw [hj2] at e
        cases e
        cases h
      obtain ⟨_, s', e', h'⟩ := T5.pn i s (by rw [List.getElem?_set_ne ne]; exact e) h
      exact ⟨rfl, s', by rw [List.getElem?_set_ne ne]; exact e', h'⟩
    refine k2 G3 H3 _ S3 _ fun bb G4 H4 e4 S4 T4 k4 => ?_
    cases bb with
    | false =>
      have k4 : CmpR W j tt te R (ds.drop (i + 1)) acc (e4.set j .no) := k4
      obtain ⟨S6, T6, z1, z2, z3, z4⟩ := back S4 T4
      exact ⟨hlt, G4, _, acc, av, clr z1 S6, T3.trans S1 T6, z1, z2, z3, ra.up ((g3.gg).trans T4.gg), fun l hl z => z4 (z ▸ hl), k4⟩
    | true =>
      have k4 : Ev W te e4 _ := k4
      show te (σ.set j (some x)) H4 _
      refine k4 G4 H4 _ S4 _ fun y dy G5 H5 e5 S5 T5 r5 ⟨hz, k5⟩ => ?_
      obtain ⟨S6, T6, z1, z2, z3, z4⟩ := back S5 (T4.trans S3 T5)
      exact ⟨av, z2, by rw [ra.length]; exact hz, hlt, G5, _, acc ++ [dy], av ++ [y], clr z1 (S6.mut z3 z4), (T3.trans S1 T6).late hA, z1, upd_same, z3, (ra.up ((g3.gg).trans (T4.gg.trans T5.gg))).append (.cons r5 .nil), fun l hl z => z4 (z ▸ hl), k5⟩
  · have e : i = ds.length := by omega
    subst e
    rw [List.drop_length] at k2
    have k2 : R acc e2 := k2
    have hA0 : H A = none := by
      cases z : H A with
      | none => rfl
      | some o => exact absurd hA (T1.kp A (by rw [z]; exact fun y => nomatch y))
    exact .inl ⟨hw.stop G2 H2 T2.gg S2.gh, q A av acc G2 H2 e2 (unclr hj2 S2) (T1.trans S T2) hA0 hA2 gA2 nA2 ra k2⟩
theorem ev_lc {W : Wd} {wi : TI} {tt : TT} {te : TE} {j : Nat} {env : List Sl} {R : D → List Sl → Prop} (h : EvI W wi env fun ds e1 => e1[j]? = some .no ∧ CmpR W j tt te (fun xs e2 => R (.lst xs) e2) ds [] e1) : Ev W (tLc wi (gName j) tt te [j]) env R := ev_f (evf_lc h)

/-! ### what is one's own -/
section
variable {W : Wd} {G H : Hp} {σ : L2.St} {env : List Sl} {P : Post}
/-- what stands at an owned slot changes -/
theorem St.chg (S : St W G H σ env) {i : Nat} {l : Addr} {s s' : Sl} {o : HO} (e : env[i]? = some s) (ho : s.owned = true) (ev : σ[i]? = some (some (.ref l))) (ok' : OkS W G (upd H l o) (some (some (.ref l))) s') : St W G (upd H l o) σ (env.set i s') := by
  have il : i < env.length := (List.getElem?_eq_some_iff.mp e).1
  have g := (S.own_at ⟨i, s, e, ho, ev⟩).1
  refine ⟨fun b u h => by rw [upd_ne (ne_of_none h g)]; exact S.gh b u h, by rw [List.length_set]; exact S.len, fun k t f => ?_, fun a b s1 t1 m e1 o1 v1 e2 o2 v2 => ?_⟩
  · by_cases z : i = k
    · subst z
      rw [List.getElem?_set_self il] at f
      cases f
      rw [ev]
      exact ok'
    · rw [List.getElem?_set_ne z] at f
      have q := S.ok k t f
      have off : ∀ m, σ[k]? = some (some (.ref m)) → t.owned = true → m ≠ l := fun m e1 e2 y => z (S.ds i k s t l e ho ev f e2 (by rw [← y]; exact e1))
      cases t with
      | no => exact trivial
      | d x => exact q
      | ol xs =>
        obtain ⟨m, vs, e1, a, b, r⟩ := q
        exact ⟨m, vs, e1, a, by rw [upd_ne (off m e1 rfl)]; exact b, r⟩
      | pl xs =>
        obtain ⟨m, vs, e1, a, b, r⟩ := q
        exact ⟨m, vs, e1, a, by rw [upd_ne (off m e1 rfl)]; exact b, r⟩
      | od kvs =>
        obtain ⟨m, vs, e1, a, b, r⟩ := q
        exact ⟨m, vs, e1, a, by rw [upd_ne (off m e1 rfl)]; exact b, r⟩
      | pd kvs =>
        obtain ⟨m, vs, e1, a, b, r⟩ := q
        exact ⟨m, vs, e1, a, by rw [upd_ne (off m e1 rfl)]; exact b, r⟩
  · have was : ∀ {k : Nat} {t : Sl}, (env.set i s')[k]? = some t → t.owned = true → ∃ t', env[k]? = some t' ∧ t'.owned = true := fun {k t} f q => by
      by_cases z : i = k
      · subst z
        exact ⟨s, e, ho⟩
      · rw [List.getElem?_set_ne z] at f
        exact ⟨t, f, q⟩
    obtain ⟨s2, f1, q1⟩ := was e1 o1
    obtain ⟨t2, f2, q2⟩ := was e2 o2
    exact S.ds a b s2 t2 m f1 q1 v1 f2 q2 v2
theorem Tr.chg (S : St W G H σ env) {i : Nat} {l : Addr} {s s' : Sl} {o : HO} (e : env[i]? = some s) (ho : s.owned = true) (ev : σ[i]? = some (some (.ref l))) (hp : s.pinned = true → s'.pinned = true) : Tr σ env G H σ (env.set i s') G (upd H l o) where
  gg := Same.refl G
  fr := fun b u n h => by
    rw [upd_ne (fun z => n (by subst z; exact ⟨i, s, e, ho, ev⟩))]
    exact h
  nw := fun _ _ _ h => h
  ow := fun b ⟨k, t, f, q, v⟩ => by
    by_cases z : i = k
    · subst z
      exact .inl ⟨i, s, e, ho, v⟩
    · rw [List.getElem?_set_ne z] at f
      exact .inl ⟨k, t, f, q, v⟩
  kp := fun b n => by
    by_cases z : b = l
    · subst z
      rw [upd_same]
      exact fun y => nomatch y
    · rw [upd_ne z]
      exact n
  pn := fun k t f q => by
    by_cases z : i = k
    · subst z
      rw [e] at f
      cases f
      exact ⟨rfl, s', by rw [List.getElem?_set_self (List.getElem?_eq_some_iff.mp e).1], hp q⟩
    · exact ⟨rfl, t, by rw [List.getElem?_set_ne z]; exact f, q⟩
/-- a new list becomes a slot's own -/
theorem St.take (S : St W G H σ env) {j : Nat} {p : Addr} {vs : List V} {xs : List D} (hh : H p = some (.lst vs)) (hg : G p = none) (no : ¬ own σ env p) (r : RpAll W G vs xs) : St W G H (σ.set j (some (.ref p))) (env.set j (.ol xs)) := by
  by_cases jl : j < env.length
  · refine ⟨S.gh, by rw [List.length_set, List.length_set]; exact S.len, fun k t f => ?_, fun a b s1 t1 m e1 o1 v1 e2 o2 v2 => ?_⟩
    · by_cases z : j = k
      · subst z
        rw [List.getElem?_set_self jl] at f
        cases f
        exact ⟨p, vs, by rw [List.getElem?_set_self (by rw [S.len]; exact jl)], hg, hh, r⟩
      · rw [List.getElem?_set_ne z] at f
        rw [List.getElem?_set_ne z]
        exact S.ok k t f
    · have at_j : ∀ {m : Addr}, (σ.set j (some (V.ref p)))[j]? = some (some (.ref m)) → m = p := fun {m} v => by
        rw [List.getElem?_set_self (by rw [S.len]; exact jl)] at v
        cases v
        rfl
      by_cases za : j = a
      · subst za
        by_cases zb : j = b
        · exact zb
        · rw [List.getElem?_set_ne zb] at e2 v2
          rw [at_j v1] at v2
          exact absurd ⟨b, t1, e2, o2, v2⟩ no
      · rw [List.getElem?_set_ne za] at e1 v1
        by_cases zb : j = b
        · subst zb
          rw [at_j v2] at v1
          exact absurd ⟨a, s1, e1, o1, v1⟩ no
        · rw [List.getElem?_set_ne zb] at e2 v2
          exact S.ds a b s1 t1 m e1 o1 v1 e2 o2 v2
  · rw [List.set_eq_of_length_le (by rw [S.len]; omega), List.set_eq_of_length_le (by omega)]
    exact S
theorem Tr.take (S : St W G H σ env) {j : Nat} {p : Addr} {xs : List D} (hf : Free env j) : ∀ {G0 H0 : Hp} {σ0 : L2.St} {env0 : List Sl}, Tr σ0 env0 G0 H0 σ env G H → H0 p = none → Tr σ0 env0 G0 H0 (σ.set j (some (.ref p))) (env.set j (.ol xs)) G H := fun {G0 H0 σ0 env0} T h0 => by
  refine ⟨T.gg, T.fr, T.nw, fun b ⟨k, t, f, q, v⟩ => ?_, T.kp, fun i s e h => ?_⟩
  · by_cases z : j = k
    · subst z
      by_cases jl : j < σ.length
      · rw [List.getElem?_set_self jl] at v
        cases v
        exact .inr h0
      · rw [List.getElem?_eq_none (by rw [List.length_set]; omega)] at v
        cases v
    · rw [List.getElem?_set_ne z] at f v
      exact T.ow b ⟨k, t, f, q, v⟩
  · obtain ⟨e1, s', e2, h2⟩ := T.pn i s e h
    have ne : j ≠ i := fun z => by
      subst z
      rw [hf s' e2] at h2
      cases h2
    rw [List.getElem?_set_ne ne, List.getElem?_set_ne ne]
    exact ⟨e1, s', e2, h2⟩
theorem run_own {te : TE} {j : Nat} (h : EvF W te env fun xs e1 => Free e1 j ∧ P.nx (e1.set j (.ol xs))) : Run W (tAsg te (gName j)) env P := fun G H σ E S n r b c =>
  h G H σ S _ fun p vs ds G1 H1 e1 S1 T1 h0 h1 g1 no ra ⟨hf, k⟩ => n G1 H1 _ _ (S1.take h1 g1 no ra) (Tr.take S1 hf T1 h0) k
/-- xs.append(e) -/
theorem run_app {te : TE} {i : Nat} (h : Ev W te env fun d e1 => ∃ xs, e1[i]? = some (.ol xs) ∧ xs.length < sizeLine ∧ P.nx (e1.set i (.ol (xs ++ [d])))) (h0 : ∃ ys, env[i]? = some (.ol ys)) : Run W (tDrop (tBM W.K "list" rAppend (tVar i) (tCons te tNil))) env P := fun G H σ E S n r b c => by
  obtain ⟨ys, e0⟩ := h0
  obtain ⟨l, vs, ev, g, hh, ra⟩ := S.ok i _ e0
  refine ⟨.ref l, ev, .inl ⟨rfl, vs, .inl (.inl hh)⟩, h G H σ S _ fun v d G1 H1 e1 S1 T1 r1 ⟨xs, e2, hz, k⟩ => ?_⟩
  obtain ⟨m, ws, ev2, g2, h2, ra2⟩ := S1.ok i _ e2
  rw [ev] at ev2
  cases ev2
  refine ⟨l, ws, v, rfl, rfl, h2, by rw [ra2.length]; exact hz, n G1 _ σ _ (S1.chg e2 rfl ev (o := .lst (ws ++ [v])) (s' := .ol (xs ++ [d])) ⟨l, _, rfl, g2, upd_same, ra2.append (.cons r1 .nil)⟩) (T1.trans S (Tr.chg S1 e2 rfl ev fun z => nomatch z)) k⟩
/-- what is one's own is data from here on -/
theorem run_freeze {ts : TS} {i : Nat} {xs : List D} (e : env[i]? = some (.ol xs)) (h : Run W ts (env.set i (.d (.lst xs))) P) : Run W ts env P := fun G H σ E S n r b c => by
  obtain ⟨l, vs, ev, g, hh, ra⟩ := S.ok i _ e
  have il : i < env.length := (List.getElem?_eq_some_iff.mp e).1
  have gg : Same G (upd G l (.lst vs)) := fun b u z => by
    rw [upd_ne (ne_of_none z g)]
    exact z
  -- the state without the slot, then with what it holds as data
  have S0 : St W G H σ (env.set i .no) := by
    refine ⟨S.gh, by rw [List.length_set]; exact S.len, fun k t f => ?_, fun a b s1 t1 m e1 o1 v1 e2 o2 v2 => ?_⟩
    · by_cases z : i = k
      · subst z
        rw [List.getElem?_set_self il] at f
        cases f
        exact trivial
      · rw [List.getElem?_set_ne z] at f
        exact S.ok k t f
    · have was : ∀ {k : Nat} {t : Sl}, (env.set i .no)[k]? = some t → t.owned = true → env[k]? = some t := fun {k t} f q => by
        by_cases z : i = k
        · subst z
          rw [List.getElem?_set_self il] at f
          cases f
          cases q
        · rw [List.getElem?_set_ne z] at f
          exact f
      exact S.ds a b s1 t1 m (was e1 o1) o1 v1 (was e2 o2) o2 v2
  have no : ¬ own σ (env.set i .no) l := fun ⟨k, t, f, q, v⟩ => by
    by_cases z : i = k
    · subst z
      rw [List.getElem?_set_self il] at f
      cases f
      cases q
    · rw [List.getElem?_set_ne z] at f
      exact z (S.ds i k _ t l e rfl ev f q v)
  have S1 : St W (upd G l (.lst vs)) H σ ((env.set i .no).set i (.d (.lst xs))) := by
    have q := (S0.freeze hh g no).set (j := i) (v := .ref l) (d := .lst xs) (.lst upd_same (ra.up gg))
    have es : σ.set i (some (.ref l)) = σ := by
      apply List.ext_getElem?
      intro k
      by_cases z : i = k
      · subst z
        rw [List.getElem?_set_self (by rw [S.len]; exact il), ev]
      · rw [List.getElem?_set_ne z]
    rw [es] at q
    exact q
  rw [List.set_set] at S1
  have low : ∀ b, own σ (env.set i (.d (.lst xs))) b → own σ env b := fun b ⟨k, t, f, q, v⟩ => by
    by_cases z : i = k
    · subst z
      rw [List.getElem?_set_self il] at f
      cases f
      cases q
    · rw [List.getElem?_set_ne z] at f
      exact ⟨k, t, f, q, v⟩
  have T0 : ∀ {σ2 : L2.St} {e2 : List Sl} {G2 H2 : Hp}, Tr σ (env.set i (.d (.lst xs))) (upd G l (.lst vs)) H σ2 e2 G2 H2 → Tr σ env G H σ2 e2 G2 H2 := fun {σ2 e2 G2 H2} T => by
    refine ⟨gg.trans T.gg, fun b u n0 h0 => T.fr b u (fun z => n0 (low b z)) h0, fun b m n0 h0 => ?_, fun b z => (T.ow b z).imp (low b) id, T.kp, fun k s f q => ?_⟩
    · refine T.nw b (fun z => m (low b z)) n0 ?_
      rw [upd_ne (fun z => m (by subst z; exact ⟨i, _, e, rfl, ev⟩))]
      exact h0
    · have z : i ≠ k := fun y => by
        subst y
        rw [e] at f
        cases f
        cases q
      exact T.pn k s (by rw [List.getElem?_set_ne z]; exact f) q
  exact h _ H σ E S1 (fun G2 H2 σ2 e2 S2 T2 k => n G2 H2 σ2 e2 S2 (T0 T2) k) (fun v d G2 H2 σ2 e2 S2 T2 q k => r v d G2 H2 σ2 e2 S2 (T0 T2) q k)
    (fun G2 H2 σ2 e2 S2 T2 k => b G2 H2 σ2 e2 S2 (T0 T2) k) (fun G2 H2 σ2 e2 S2 T2 k => c G2 H2 σ2 e2 S2 (T0 T2) k)
end
end Nv

set_option Elab.async false
set_option linter.all false
set_option maxRecDepth 100000
set_option maxHeartbeats 4000000
/-! NvF: defs by data, and their calls. -/
namespace Nv
open PySem L2 PyProof.Rows PySem.Spec

/-- what a def does, by its arguments' slots (data, or what the caller hands in to be changed): the wish R of the answer and of these slots behind it -/
abbrev Fs := List Sl → (D → List Sl → Prop) → Prop
def ArgOk : Sl → Prop
  | .d _ => True
  | .pl _ => True
  | .pd _ => True
  | _ => False
def SpD (W : Wd) (n : Nat) (Phi : Fs) : Sp := fun vs H Q _ => ∃ (G : Hp) (as : List Sl) (R : D → List Sl → Prop), vs.length = n ∧ St W G H (vs.map some) as ∧ (∀ s ∈ as, ArgOk s) ∧ Phi as R ∧
  ∀ v d G' H' as', St W G' H' (vs.map some) as' → Tr (vs.map some) as G H (vs.map some) as' G' H' → Rp W G' v d → R d as' → Q v H'

/-- the arguments' slots behind the body: what was handed in to be changed as it is, the others as they were -/
def mergeS : List Sl → List Sl → List Sl
  | [], _ => []
  | a :: as, e :: es => (if a.pinned then e else a) :: mergeS as es
  | a :: as, [] => a :: mergeS as []
theorem mergeS_len : ∀ (as es : List Sl), (mergeS as es).length = as.length
  | [], _ => rfl
  | _ :: as, _ :: es => congrArg Nat.succ (mergeS_len as es)
  | _ :: as, [] => congrArg Nat.succ (mergeS_len as [])
theorem mergeS_get : ∀ {as es : List Sl} {i : Nat} {a : Sl}, as[i]? = some a → (mergeS as es)[i]? = some (if a.pinned then (es[i]?).getD a else a)
  | [], _, _, _, h => by simp at h
  | a :: as, e :: es, 0, _, h => by
    simp at h
    subst h
    simp [mergeS]
  | a :: as, [], 0, _, h => by
    simp at h
    subst h
    simp [mergeS]
  | a :: as, e :: es, i + 1, b, h => by
    have := mergeS_get (as := as) (es := es) (i := i) (a := b) (by simpa using h)
    simpa [mergeS] using this
  | a :: as, [], i + 1, b, h => by
    have := mergeS_get (as := as) (es := []) (i := i) (a := b) (by simpa using h)
    simpa [mergeS] using this

section
variable {W : Wd} {G H : Hp}
theorem St.start {N : List Str} {vs : List V} {as : List Sl} (S : St W G H (vs.map some) as) (hl : vs.length ≤ N.length) : St W G H (L2.start N vs) (as ++ List.replicate (N.length - vs.length) .no) := by
  have la : as.length = vs.length := by have := S.len; rw [List.length_map] at this; omega
  have lv : (vs.map some).length = as.length := S.len
  refine ⟨S.gh, ?_, fun i s e => ?_, fun i j s t l e1 o1 v1 e2 o2 v2 => ?_⟩
  · show (vs.map some ++ List.replicate (N.length - vs.length) none).length = _
    rw [List.length_append, List.length_append, List.length_replicate, List.length_replicate, lv]
  · by_cases h : i < as.length
    · rw [List.getElem?_append_left h] at e
      show OkS W G H (vs.map some ++ List.replicate (N.length - vs.length) none)[i]? s
      rw [List.getElem?_append_left (by rw [lv]; exact h)]
      exact S.ok i s e
    · rw [List.getElem?_append_right (by omega), List.getElem?_replicate] at e
      split at e
      · cases e
        exact trivial
      · cases e
  · have low : ∀ {k : Nat} {u : Sl}, (as ++ List.replicate (N.length - vs.length) Sl.no)[k]? = some u → u.owned = true → k < as.length ∧ as[k]? = some u := fun {k u} e o => by
      by_cases h : k < as.length
      · rw [List.getElem?_append_left h] at e
        exact ⟨h, e⟩
      · rw [List.getElem?_append_right (by omega), List.getElem?_replicate] at e
        split at e
        · cases e
          cases o
        · cases e
    obtain ⟨h1, f1⟩ := low e1 o1
    obtain ⟨h2, f2⟩ := low e2 o2
    have v1 : (vs.map some ++ List.replicate (N.length - vs.length) none)[i]? = some (some (V.ref l)) := v1
    have v2 : (vs.map some ++ List.replicate (N.length - vs.length) none)[j]? = some (some (V.ref l)) := v2
    rw [List.getElem?_append_left (by rw [lv]; exact h1)] at v1
    rw [List.getElem?_append_left (by rw [lv]; exact h2)] at v2
    exact S.ds i j s t l f1 o1 v1 f2 o2 v2
theorem own_start {N : List Str} {vs : List V} {as : List Sl} (la : as.length = vs.length) {b : Addr} : own (L2.start N vs) (as ++ List.replicate (N.length - vs.length) .no) b → own (vs.map some) as b := by
  rintro ⟨k, u, e, o, v⟩
  by_cases h : k < as.length
  · rw [List.getElem?_append_left h] at e
    have v : (vs.map some ++ List.replicate (N.length - vs.length) none)[k]? = some (some (V.ref b)) := v
    rw [List.getElem?_append_left (by rw [List.length_map]; omega)] at v
    exact ⟨k, u, e, o, v⟩
  · rw [List.getElem?_append_right (by omega), List.getElem?_replicate] at e
    split at e
    · cases e
      cases o
    · cases e
/-- behind the body -/
theorem St.left {N : List Str} {vs : List V} {as env' : List Sl} {σ' : L2.St} {G' H' : Hp} (S : St W G H (vs.map some) as) (ha : ∀ s ∈ as, ArgOk s) (S' : St W G' H' σ' env') (T : Tr (L2.start N vs) (as ++ List.replicate (N.length - vs.length) .no) G H σ' env' G' H') :
    St W G' H' (vs.map some) (mergeS as env') ∧ Tr (vs.map some) as G H (vs.map some) (mergeS as env') G' H' := by
  have la : as.length = vs.length := by have := S.len; rw [List.length_map] at this; omega
  -- a slot that was handed in to be changed
  have pin : ∀ {i : Nat} {a : Sl}, as[i]? = some a → a.pinned = true → ∃ s', (mergeS as env')[i]? = some s' ∧ env'[i]? = some s' ∧ s'.pinned = true ∧ σ'[i]? = (vs.map some)[i]? := fun {i a} e p => by
    have il : i < as.length := (List.getElem?_eq_some_iff.mp e).1
    obtain ⟨e1, s', e2, h2⟩ := T.pn i a (by rw [List.getElem?_append_left il]; exact e) p
    refine ⟨s', ?_, e2, h2, ?_⟩
    · rw [mergeS_get e, if_pos p, e2]
      rfl
    · rw [e1]
      show (vs.map some ++ List.replicate (N.length - vs.length) none)[i]? = _
      rw [List.getElem?_append_left (by rw [List.length_map]; omega)]
  have inv : ∀ {i : Nat} {s : Sl}, (mergeS as env')[i]? = some s → ∃ a, as[i]? = some a := fun {i s} e => by
    have il : i < as.length := by rw [← mergeS_len as env']; exact (List.getElem?_eq_some_iff.mp e).1
    exact ⟨as[i], by simp [il]⟩
  have dat : ∀ {i : Nat} {s : Sl}, (mergeS as env')[i]? = some s → s.owned = true → ∃ a, as[i]? = some a ∧ a.pinned = true ∧ env'[i]? = some s ∧ σ'[i]? = (vs.map some)[i]? := fun {i s} e o => by
    obtain ⟨a, ea⟩ := inv e
    cases p : a.pinned with
    | false =>
      rw [mergeS_get ea, p] at e
      have e : some a = some s := by simpa using e
      cases e
      have hk := ha s (List.mem_of_getElem? ea)
      cases s <;> first | exact hk.elim | (exfalso; revert p; simp [Sl.pinned]; done) | (exfalso; revert o; simp [Sl.owned]; done)
    | true =>
      obtain ⟨s', e1, e2, _, e4⟩ := pin ea p
      rw [e] at e1
      cases e1
      exact ⟨a, ea, p, e2, e4⟩
  refine ⟨⟨S'.gh, by rw [mergeS_len]; exact S.len, fun i s e => ?_, fun i j s t l e1 o1 v1 e2 o2 v2 => ?_⟩, ⟨T.gg, fun b o n h => T.fr b o (fun z => n (own_start la z)) h, fun b m n h => T.nw b (fun z => m (own_start la z)) n h, fun b ⟨i, s, e, o, v⟩ => ?_, T.kp, fun i a e p => ?_⟩⟩
  · obtain ⟨a, ea⟩ := inv e
    cases p : a.pinned with
    | true =>
      obtain ⟨s', e1, e2, _, e4⟩ := pin ea p
      rw [e] at e1
      cases e1
      rw [← e4]
      exact S'.ok i s e2
    | false =>
      rw [mergeS_get ea, p] at e
      have e : some a = some s := by simpa using e
      cases e
      have q := S.ok i s ea
      cases s with
      | no => exact trivial
      | d x =>
        obtain ⟨v, e1, r⟩ := q
        exact ⟨v, e1, r.up T.gg⟩
      | ol xs => exact (ha _ (List.mem_of_getElem? ea)).elim
      | od xs => exact (ha _ (List.mem_of_getElem? ea)).elim
      | pl xs => cases p
      | pd kvs => cases p
  · obtain ⟨a, _, _, f1, g1⟩ := dat e1 o1
    obtain ⟨c, _, _, f2, g2⟩ := dat e2 o2
    exact S'.ds i j s t l f1 o1 (by rw [g1]; exact v1) f2 o2 (by rw [g2]; exact v2)
  · obtain ⟨a, ea, pa, f, g⟩ := dat e o
    exact .inl ⟨i, a, ea, Sl.pinned_owned pa, v⟩
  · obtain ⟨s', e1, _, h, _⟩ := pin e p
    exact ⟨rfl, s', e1, h⟩
end

section
variable {P : Program} {w : World} {K : PySem.W.Frag} {mg : Str → Option Value} {base : Heap} {k : Nat} {f : Addr} {fd : FuncData} {ps : List Str} {W : Wd}
/-- where the body runs -/
abbrev Bx (P : Program) (w : World) (K : PySem.W.Frag) (mg : Str → Option Value) (base : Heap) (N : List Str) (qual : Str) (st : Stmt) (f : Addr) (cdv : Value) (A : Around) (outer : List Env) (s : Shared) (H : Hp) (E : XK) : Cx :=
  (cxOf CX0 P w K mg base N qual (defScope st) f cdv A outer s H E).nox
/-- a def by its body, told by data -/
theorem fn_d {x qual : Str} {st : Stmt} {N : List Str} {Phi : Fs} (F : Fun K x qual st f fd) (S : FnScope N ps (defScope st))
    (hbody : ∀ (cdv : Value) (A : Around) (outer : List Env) (s : Shared) (H : Hp) (E : XK), (Bx P w K mg base N qual st f cdv A outer s H E).A.guards = some [] → Room k (Bx P w K mg base N qual st f cdv A outer s H E).A →
      ∃ t, PSs (Bx P w K mg base N qual st f cdv A outer s H E) (defBody st) t ∧ ∀ as R, as.length = ps.length → Phi as R → Run W t (as ++ List.replicate (N.length - ps.length) .no) { nx := fun e' => R .non (mergeS as e'), rt := fun d e' => R d (mergeS as e') }) :
    FnG P w K mg base (k + 1) f fd ps (SpD W ps.length Phi) := by
  have hpl : ps.length ≤ N.length := by
    have := congrArg List.length S.pre
    rw [List.length_take] at this
    omega
  refine fn_g F S (fun vs H Q E h => ?_) fun cdv A outer s H vs Q E hg hr h => ?_
  · obtain ⟨_, _, _, l, _⟩ := h
    exact l
  · obtain ⟨G, as, R, hl, hS, ha, hP, q⟩ := h
    have la : as.length = vs.length := by have := hS.len; rw [List.length_map] at this; omega
    obtain ⟨t, ht, hrun⟩ := hbody cdv A outer s H E hg hr
    have S1 := hS.start (N := N) (by omega)
    have hrun := hrun as R (by omega) hP
    rw [← hl] at hrun
    refine ⟨t, ht.nox, hrun G H (L2.start N vs) _ S1 (fun G' H' σ' env' S' T' k => ?_) (fun v d G' H' σ' env' S' T' r k => ?_) (fun _ _ _ _ _ _ z => z.elim) fun _ _ _ _ _ _ z => z.elim⟩
    · obtain ⟨S2, T2⟩ := St.left hS ha S' T'
      exact q .non .non G' H' _ S2 T2 .non k
    · obtain ⟨S2, T2⟩ := St.left hS ha S' T'
      exact q v d G' H' _ S2 T2 r k
end
end Nv

set_option Elab.async false
set_option linter.all false
set_option maxRecDepth 100000
set_option maxHeartbeats 4000000
/-! NvC: calls of defs told by data. -/
namespace Nv
open PySem L2 PyProof.Rows PySem.Spec

section
variable {W : Wd} {G H G' H' : Hp} {σ : L2.St} {env env' : List Sl}
theorem St.swap (S : St W G H σ env) (A : Addr → Prop) (gg : Same G G') (gh : Same G' H') (hh : ∀ b o, ¬ A b → H b = some o → H' b = some o) (nw : ∀ b, ¬ A b → H b ≠ none → G b = none → G' b = none) (len : env'.length = env.length)
    (each : ∀ (k : Nat) (s' : Sl), env'[k]? = some s' → (env[k]? = some s' ∧ (s'.owned = true → ∀ l : Addr, σ[k]? = some (some (.ref l)) → ¬ A l)) ∨ (OkS W G' H' σ[k]? s' ∧ ∃ s, env[k]? = some s ∧ s.owned = true)) : St W G' H' σ env' := by
  refine ⟨gh, by rw [len]; exact S.len, fun k s e => ?_, fun a b s t m e1 o1 v1 e2 o2 v2 => ?_⟩
  · rcases each k s e with ⟨f, off⟩ | ⟨q, _⟩
    · have q := S.ok k s f
      cases s with
      | no => exact trivial
      | d x =>
        obtain ⟨v, e1, r⟩ := q
        exact ⟨v, e1, r.up gg⟩
      | ol xs =>
        obtain ⟨l, vs, e1, a, b, r⟩ := q
        have z := off rfl l e1
        exact ⟨l, vs, e1, nw l z (by rw [b]; exact fun y => nomatch y) a, hh l _ z b, r.up gg⟩
      | pl xs =>
        obtain ⟨l, vs, e1, a, b, r⟩ := q
        have z := off rfl l e1
        exact ⟨l, vs, e1, nw l z (by rw [b]; exact fun y => nomatch y) a, hh l _ z b, r.up gg⟩
      | od kvs =>
        obtain ⟨l, vs, e1, a, b, c, r⟩ := q
        have z := off rfl l e1
        exact ⟨l, vs, e1, nw l z (by rw [b]; exact fun y => nomatch y) a, hh l _ z b, c, r.up gg⟩
      | pd kvs =>
        obtain ⟨l, vs, e1, a, b, c, r⟩ := q
        have z := off rfl l e1
        exact ⟨l, vs, e1, nw l z (by rw [b]; exact fun y => nomatch y) a, hh l _ z b, c, r.up gg⟩
    · exact q
  · have was : ∀ {k : Nat} {s : Sl}, env'[k]? = some s → s.owned = true → ∃ s', env[k]? = some s' ∧ s'.owned = true := fun {k s} e o => by
      rcases each k s e with ⟨f, _⟩ | ⟨_, s0, f, o0⟩
      · exact ⟨s, f, o⟩
      · exact ⟨s0, f, o0⟩
    obtain ⟨s1, f1, q1⟩ := was e1 o1
    obtain ⟨t1, f2, q2⟩ := was e2 o2
    exact S.ds a b s1 t1 m f1 q1 v1 f2 q2 v2
theorem Tr.swap (A : Addr → Prop) (gg : Same G G') (hh : ∀ b o, ¬ A b → H b = some o → H' b = some o) (nw : ∀ b, ¬ A b → H b ≠ none → G b = none → G' b = none) (kp : ∀ b, H b ≠ none → H' b ≠ none) (hA : ∀ b, A b → own σ env b)
    (each : ∀ (k : Nat) (s' : Sl), env'[k]? = some s' → s'.owned = true → ∃ s, env[k]? = some s ∧ s.owned = true) (hp : ∀ (k : Nat) (s : Sl), env[k]? = some s → s.pinned = true → ∃ s', env'[k]? = some s' ∧ s'.pinned = true) : Tr σ env G H σ env' G' H' where
  gg := gg
  fr := fun b o n h => hh b o (fun z => n (hA b z)) h
  nw := fun b m n h => nw b (fun z => m (hA b z)) n h
  ow := fun b ⟨k, s', e, o, v⟩ => by
    obtain ⟨s, f, q⟩ := each k s' e o
    exact .inl ⟨k, s, f, q, v⟩
  kp := kp
  pn := fun k s e h => by
    obtain ⟨s', e', h'⟩ := hp k s e h
    exact ⟨rfl, s', e', h'⟩
theorem not_own_data {vs : List V} {ds : List D} {b : Addr} : ¬ own (vs.map some) (ds.map Sl.d) b := by
  rintro ⟨i, s, e, o, _⟩
  rw [List.getElem?_map] at e
  cases q : ds[i]? with
  | none => rw [q] at e; cases e
  | some d =>
    rw [q] at e
    cases e
    cases o
theorem St.data (gh : Same G H) {vs : List V} {ds : List D} (r : RpAll W G vs ds) : St W G H (vs.map some) (ds.map Sl.d) := by
  refine ⟨gh, by rw [List.length_map, List.length_map, r.length], fun i s e => ?_, fun i j s t l e1 o1 _ _ _ _ => ?_⟩
  · rw [List.getElem?_map] at e
    cases q : ds[i]? with
    | none => rw [q] at e; cases e
    | some d =>
      rw [q] at e
      cases e
      obtain ⟨v, h1, h2⟩ := r.get q
      exact ⟨v, by rw [List.getElem?_map, h1]; rfl, h2⟩
  · rw [List.getElem?_map] at e1
    cases q : ds[i]? with
    | none => rw [q] at e1; cases e1
    | some d =>
      rw [q] at e1
      cases e1
      cases o1
end

section
variable {W : Wd} {env : List Sl} {R : D → List Sl → Prop} {ta : TA} {n : Nat} {Phi : Fs}
theorem args_ok {ds : List D} : ∀ s ∈ ds.map Sl.d, ArgOk s := fun s h => by
  obtain ⟨d, _, rfl⟩ := List.mem_map.mp h
  exact trivial
theorem sp_data {G H : Hp} {vs : List V} {ds : List D} {σ : L2.St} {Q : VK} {E : XK} (S : St W G H σ env) (r : RpAll W G vs ds) (hl : ds.length = n) (hP : Phi (ds.map .d) fun d _ => R d env)
    (q : ∀ v d G' H', St W G' H' σ env → Tr σ env G H σ env G' H' → Rp W G' v d → R d env → Q v H') : SpD W n Phi vs H Q E :=
  ⟨G, ds.map .d, fun d _ => R d env, by rw [r.length, hl], St.data S.gh r, args_ok, hP, fun v d G' H' as' S' T' rv k => by
    have g : Gr G H G' H' := ⟨T'.gg, S'.gh, fun b o h => T'.fr b o not_own_data h, fun b => T'.nw b not_own_data⟩
    exact q v d G' H' (S.up g) (Tr.up S g) rv k⟩
/-- f(e, ..), all arguments data -/
theorem ev_g (h : EvA W ta env fun ds e1 => ds.length = n ∧ Phi (ds.map .d) fun d _ => R d e1) : Ev W (tG (SpD W n Phi) ta) env R := fun G H σ S Q q =>
  h G H σ S _ fun vs ds G1 H1 e1 S1 T1 ra ⟨hl, hP⟩ => sp_data S1 ra hl hP fun v d G' H' S' T' r k => q v d G' H' e1 S' (T1.trans S T') r k
/-- keywords alone -/
def permD (pm : List Nat) (ds : List D) : List D := pm.filterMap (ds[·]?)
theorem RpAll.perm {G : Hp} {vs : List V} {ds : List D} (r : RpAll W G vs ds) : ∀ pm : List Nat, RpAll W G (permV pm vs) (permD pm ds)
  | [] => .nil
  | i :: pm => by
    have ih := RpAll.perm r pm
    unfold permV permD at ih ⊢
    rw [List.filterMap_cons, List.filterMap_cons]
    cases e : ds[i]? with
    | none =>
      have : vs[i]? = none := by
        rw [List.getElem?_eq_none_iff] at e ⊢
        rw [r.length]
        exact e
      rw [this]
      exact ih
    | some d =>
      obtain ⟨v, h1, h2⟩ := r.get e
      rw [h1]
      exact .cons h2 ih
theorem ev_gK {m : Nat} {pm : List Nat} (h : EvA W ta env fun ds e1 => ds.length = m ∧ (permD pm ds).length = n ∧ Phi ((permD pm ds).map .d) fun d _ => R d e1) : Ev W (tGK m pm (SpD W n Phi) ta) env R := fun G H σ S Q q =>
  h G H σ S _ fun vs ds G1 H1 e1 S1 T1 ra ⟨hm, hl, hP⟩ => ⟨by rw [ra.length, hm], sp_data S1 (ra.perm pm) hl hP fun v d G' H' S' T' r k => q v d G' H' e1 S' (T1.trans S T') r k⟩
/-- what is one's own is handed on, to be changed by the callee; and comes back -/
def Sl.lend : Sl → Sl
  | .ol xs => .pl xs
  | .od kvs => .pd kvs
  | s => s
def Sl.back (s s' : Sl) : Sl := if s.pinned = true then s' else match s' with
  | .pl xs => .ol xs
  | .pd kvs => .od kvs
  | s => s
theorem Sl.lend_pinned {s : Sl} (h : s.owned = true) : s.lend.pinned = true := by
  cases s <;> first | rfl | cases h
theorem OkS.lend {G H : Hp} {ov : Option (Option V)} {s : Sl} (h : OkS W G H ov s) : OkS W G H ov s.lend := by
  cases s <;> exact h
theorem OkS.back {G H : Hp} {ov : Option (Option V)} {s s' : Sl} (h : OkS W G H ov s') : OkS W G H ov (s.back s') := by
  unfold Sl.back
  split
  · exact h
  · cases s' <;> exact h
theorem OkS.addr {G H : Hp} {ov : Option (Option V)} {s : Sl} (h : OkS W G H ov s) (ho : s.owned = true) : ∃ l : Addr, ov = some (some (.ref l)) := by
  cases s with
  | no => cases ho
  | d x => cases ho
  | ol xs => obtain ⟨m, vs, e1, _⟩ := h; exact ⟨m, e1⟩
  | pl xs => obtain ⟨m, vs, e1, _⟩ := h; exact ⟨m, e1⟩
  | od kvs => obtain ⟨m, vs, e1, _⟩ := h; exact ⟨m, e1⟩
  | pd kvs => obtain ⟨m, vs, e1, _⟩ := h; exact ⟨m, e1⟩
/-- f(x, e, ..), x one's own -/
theorem ev_gp {i : Nat} (h0 : ∃ s0, env[i]? = some s0 ∧ s0.owned = true) (h : EvA W ta env fun ds e1 => ds.length + 1 = n ∧ ∃ s, e1[i]? = some s ∧ s.owned = true ∧ Phi (s.lend :: ds.map .d) fun d as' => ∃ s', as'[0]? = some s' ∧ R d (e1.set i (s.back s'))) :
    Ev W (tG (SpD W n Phi) (tCons (tVar i) ta)) env R := fun G H σ S Q q => by
  obtain ⟨s0, e0, o0⟩ := h0
  obtain ⟨p, ev⟩ := (S.ok i _ e0).addr o0
  refine ⟨.ref p, ev, h G H σ S _ fun vs ds G1 H1 e1 S1 T1 ra ⟨hl, s, e, os, hP⟩ => ?_⟩
  have il : i < e1.length := (List.getElem?_eq_some_iff.mp e).1
  have ok1 : OkS W G1 H1 (some (some (.ref p))) s.lend := by
    have := (S1.ok i _ e).lend
    rw [ev] at this
    exact this
  have lp : s.lend.pinned = true := Sl.lend_pinned os
  have SA : St W G1 H1 ((V.ref p :: vs).map some) (s.lend :: ds.map .d) := by
    have SD := St.data S1.gh ra
    refine ⟨S1.gh, by simp [ra.length], fun k s f => ?_, fun a c s t l e1 o1 v1 e2 o2 v2 => ?_⟩
    · cases k with
      | zero =>
        simp at f
        subst f
        exact ok1
      | succ k => exact SD.ok k s (by simpa using f)
    · cases a with
      | succ a => exact absurd ⟨a, s, by simpa using e1, o1, by simpa using v1⟩ (not_own_data (vs := vs) (ds := ds) (b := l))
      | zero =>
        cases c with
        | succ c => exact absurd ⟨c, t, by simpa using e2, o2, by simpa using v2⟩ (not_own_data (vs := vs) (ds := ds) (b := l))
        | zero => rfl
  have oA : ∀ c, own ((V.ref p :: vs).map some) (s.lend :: ds.map .d) c → c = p := fun c ⟨k, s, f, o, v⟩ => by
    cases k with
    | zero =>
      have v : some (some (V.ref p)) = some (some (V.ref c)) := v
      cases v
      rfl
    | succ k => exact absurd ⟨k, s, by simpa using f, o, by simpa using v⟩ (not_own_data (vs := vs) (ds := ds) (b := c))
  refine ⟨G1, s.lend :: ds.map .d, _, by simp [ra.length, hl], SA, fun s1 hs => ?_, hP, fun v d G' H' as' S' T' rv ⟨s', ea, k⟩ => ?_⟩
  · rcases List.mem_cons.mp hs with z | z
    · subst z
      cases s <;> first | exact trivial | cases os
    · exact args_ok s1 z
  · have ok2 : OkS W G' H' (some (some (.ref p))) s' := S'.ok 0 _ ea
    have sp : s'.pinned = true := by
      obtain ⟨_, s2, e2, h2⟩ := T'.pn 0 s.lend rfl lp
      rw [ea] at e2
      cases e2
      exact h2
    have hh : ∀ c o, ¬ c = p → H1 c = some o → H' c = some o := fun c o n h => T'.fr c o (fun z => n (oA c z)) h
    have nw : ∀ c, ¬ c = p → H1 c ≠ none → G1 c = none → G' c = none := fun c n => T'.nw c fun z => n (oA c z)
    have S2 : St W G' H' σ (e1.set i (s.back s')) := S1.swap (fun c => c = p) T'.gg S'.gh hh nw (by rw [List.length_set]) fun k t f => by
      by_cases z : i = k
      · subst z
        rw [List.getElem?_set_self il] at f
        cases f
        exact .inr ⟨by rw [ev]; exact ok2.back, _, e, os⟩
      · rw [List.getElem?_set_ne z] at f
        exact .inl ⟨f, fun o l e3 e4 => z (S1.ds i k _ t p e os ev f o (by rw [e3, e4]))⟩
    refine q v d G' H' _ S2 ((T1.trans S (Tr.swap (fun c => c = p) T'.gg hh nw T'.kp (fun c z => ⟨i, _, e, os, by rw [z]; exact ev⟩) (fun k t f o => ?_) fun k t f o => ?_))) rv k
    · by_cases z : i = k
      · subst z
        exact ⟨_, e, os⟩
      · rw [List.getElem?_set_ne z] at f
        exact ⟨t, f, o⟩
    · by_cases z : i = k
      · subst z
        rw [e] at f
        cases f
        exact ⟨_, by rw [List.getElem?_set_self il], by unfold Sl.back; rw [if_pos o]; exact sp⟩
      · exact ⟨t, by rw [List.getElem?_set_ne z]; exact f, o⟩
end
end Nv

set_option Elab.async false
set_option linter.all false
set_option maxRecDepth 100000
set_option maxHeartbeats 4000000
/-! NvO: what operators, built-ins and walks do to data. -/
namespace Nv
open PySem L2 PyProof.Rows PySem.Spec

theorem opr_or {X : Cx} {f : Value → Value → Sem Value} {r1 r2 : R2} (h1 : OpR X f r1) (h2 : OpR X f r2) : OpR X f (fun x y H Q => r1 x y H Q ∨ r2 x y H Q) := by
  intro pins s σ H x y v u Q I rx ry q
  exact q.elim (h1 pins s σ H x y v u Q I rx ry) (h2 pins s σ H x y v u Q I rx ry)

section
variable {W : Wd} {G H : Hp}
theorem Gr.newT {W : Wd} {p : Addr} {vs : List V} {ds : List D} (e : Same G H) (hp : H p = none) (r : RpAll W G vs ds) : Gr G H (upd G p (.tup vs)) (upd H p (.tup vs)) ∧ Rp W (upd G p (.tup vs)) (.ref p) (.tup ds) :=
  have g : Gr G H (upd G p (.tup vs)) (upd H p (.tup vs)) := Gr.new e hp
  ⟨g, .tup (.inl (.inl upd_same)) (r.up g.gg)⟩
theorem Gr.newL {W : Wd} {p : Addr} {vs : List V} {ds : List D} (e : Same G H) (hp : H p = none) (r : RpAll W G vs ds) : Gr G H (upd G p (.lst vs)) (upd H p (.lst vs)) ∧ Rp W (upd G p (.lst vs)) (.ref p) (.lst ds) :=
  have g : Gr G H (upd G p (.lst vs)) (upd H p (.lst vs)) := Gr.new e hp
  ⟨g, .lst upd_same (r.up g.gg)⟩
end

/-! ### + -/
def rAddU (K : PySem.W.Frag) : R2 := fun x y H Q => rI0 (fun i j => .int (i + j)) x y H Q ∨ (∃ i j, x = .str i ∧ y = .str j ∧ i.length + j.length ≤ sizeLine ∧ Q (.str (i ++ j)) H) ∨ rCat x y H Q ∨ rCatA K x y H Q
theorem op_addU {X : Cx} : OpR X (binaryOp .Add) (rAddU X.K) := opr_or op_add (opr_or op_add_str (opr_or op_cat op_catA))
def addD : D → D → Option D
  | .int i, .int j => some (.int (i + j))
  | .str a, .str b => if a.length + b.length ≤ sizeLine then some (.str (a ++ b)) else none
  | .lst a, .lst b => if a.length + b.length ≤ sizeLine then some (.lst (a ++ b)) else none
  | .tup a, .tup b => if a.length + b.length ≤ sizeLine then some (.tup (a ++ b)) else none
  | _, _ => none
theorem opd_add {W : Wd} : OpD W (rAddU W.K) addD := by
  intro G H x y dx dy dz e rx ry ho Q q
  cases dx <;> cases dy <;> first | (cases ho; done) | skip
  · cases ho
    rw [rx.int_inv, ry.int_inv]
    exact .inl ⟨_, _, rfl, rfl, q _ G H (Gr.refl e) (.int _)⟩
  · rename_i a b
    have ho : (if a.length + b.length ≤ sizeLine then some (D.str (a ++ b)) else none) = some dz := ho
    split at ho
    · cases ho
      rename_i hz
      rw [rx.str_inv, ry.str_inv]
      exact .inr (.inl ⟨_, _, rfl, rfl, hz, q _ G H (Gr.refl e) (.str _)⟩)
    · cases ho
  · rename_i a b
    have ho : (if a.length + b.length ≤ sizeLine then some (D.lst (a ++ b)) else none) = some dz := ho
    split at ho
    · cases ho
      rename_i hz
      obtain ⟨p, xs, rfl, h1, r1⟩ := rx.lst_inv
      obtain ⟨p', ys, rfl, h2, r2⟩ := ry.lst_inv
      refine .inr (.inr (.inl ⟨p, p', xs, ys, rfl, rfl, e _ _ h1, e _ _ h2, by rw [r1.length, r2.length]; exact hz, fun n hn => ?_⟩))
      obtain ⟨g, r⟩ := Gr.newL (W := W) e hn (r1.append r2)
      exact q _ _ _ g r
    · cases ho
  · rename_i a b
    have ho : (if a.length + b.length ≤ sizeLine then some (D.tup (a ++ b)) else none) = some dz := ho
    split at ho
    · cases ho
      rename_i hz
      obtain ⟨p, xs, rfl, h1, r1⟩ := rx.tup_inv
      obtain ⟨p', ys, rfl, h2, r2⟩ := ry.tup_inv
      refine .inr (.inr (.inr ⟨p, p', xs, ys, rfl, rfl, Same.tup e h1, Same.tup e h2, by rw [r1.length, r2.length]; exact hz, fun z => ?_, fun _ z => ?_, fun _ _ n hn => ?_⟩))
      · subst z
        cases r1
        exact q _ G H (Gr.refl e) (.tup h2 r2)
      · subst z
        cases r2
        rw [List.append_nil] at q
        exact q _ G H (Gr.refl e) (.tup h1 r1)
      · obtain ⟨g, r⟩ := Gr.newT (W := W) e hn (r1.append r2)
        exact q _ _ _ g r
    · cases ho

/-! ### numbers -/
section
variable {W : Wd}
def intD (g : Int → Int → Option D) : D → D → Option D
  | .int i, .int j => g i j
  | _, _ => none
theorem opd_I0 {g : Int → Int → V} {o : Int → Int → D} (h : ∀ G i j, Rp W G (g i j) (o i j)) : OpD W (rI0 g) (intD fun i j => some (o i j)) := by
  intro G H x y dx dy dz e rx ry ho Q q
  cases dx <;> cases dy <;> first | (cases ho; done) | skip
  cases ho
  rw [rx.int_inv, ry.int_inv]
  exact ⟨_, _, rfl, rfl, q _ G H (Gr.refl e) (h _ _ _)⟩
theorem opd_I {C : Int → Int → Prop} [∀ i j, Decidable (C i j)] {g : Int → Int → V} {o : Int → Int → D} (h : ∀ G i j, Rp W G (g i j) (o i j)) : OpD W (rI C g) (intD fun i j => if C i j then some (o i j) else none) := by
  intro G H x y dx dy dz e rx ry ho Q q
  cases dx <;> cases dy <;> first | (cases ho; done) | skip
  rename_i i j
  have ho : (if C i j then some (o i j) else none) = some dz := ho
  split at ho
  · cases ho
    rename_i hc
    rw [rx.int_inv, ry.int_inv]
    exact ⟨_, _, rfl, rfl, hc, q _ G H (Gr.refl e) (h _ _ _)⟩
  · cases ho
instance (i j : Int) : Decidable (CMul i j) := by unfold CMul; exact inferInstance
instance (i j : Int) : Decidable (CDiv i j) := by unfold CDiv; exact inferInstance
instance (i j : Int) : Decidable (CPow i j) := by unfold CPow; exact inferInstance
theorem opd_sub : OpD W (rI0 fun i j => .int (i - j)) (intD fun i j => some (.int (i - j))) := opd_I0 fun _ _ _ => .int _
theorem opd_mul : OpD W (rI CMul fun i j => .int (i * j)) (intD fun i j => if CMul i j then some (.int (i * j)) else none) := opd_I fun _ _ _ => .int _
theorem opd_fdiv : OpD W (rI CDiv fun i j => .int (i / j)) (intD fun i j => if CDiv i j then some (.int (i / j)) else none) := opd_I fun _ _ _ => .int _
theorem opd_mod : OpD W (rI (fun _ j => 0 < j) fun i j => .int (i % j)) (intD fun i j => if 0 < j then some (.int (i % j)) else none) := opd_I fun _ _ _ => .int _
theorem opd_pow : OpD W (rI CPow fun i j => .int (i ^ j.toNat)) (intD fun i j => if CPow i j then some (.int (i ^ j.toNat)) else none) := opd_I fun _ _ _ => .int _
theorem opd_lt : OpD W (rI0 fun i j => .bl (decide (i < j))) (intD fun i j => some (.bl (decide (i < j)))) := opd_I0 fun _ _ _ => .bl _
theorem opd_le : OpD W (rI0 fun i j => .bl (decide (i ≤ j))) (intD fun i j => some (.bl (decide (i ≤ j)))) := opd_I0 fun _ _ _ => .bl _
theorem opd_gt : OpD W (rI0 fun i j => .bl (decide (j < i))) (intD fun i j => some (.bl (decide (j < i)))) := opd_I0 fun _ _ _ => .bl _
theorem opd_ge : OpD W (rI0 fun i j => .bl (decide (j ≤ i))) (intD fun i j => some (.bl (decide (j ≤ i)))) := opd_I0 fun _ _ _ => .bl _
def negD : D → Option D
  | .int i => some (.int (-i))
  | _ => none
theorem und_neg : UnD W (rU fun i => .int (-i)) negD := by
  intro G H x dx dz e rx ho Q q
  cases dx <;> first | (cases ho; done) | skip
  cases ho
  rw [rx.int_inv]
  exact ⟨_, rfl, q _ G H (Gr.refl e) (.int _)⟩
end

/-! ### ==, != of plain values -/
def eqS : D → D → Option Bool
  | .non, .non => some true
  | .int i, .int j => some (decide (i = j))
  | .bl i, .bl j => some (decide (i = j))
  | .str i, .str j => some (decide (i = j))
  | .non, .int _ => some false
  | .int _, .non => some false
  | .non, .str _ => some false
  | .str _, .non => some false
  | .non, .bl _ => some false
  | .bl _, .non => some false
  | .int _, .str _ => some false
  | .str _, .int _ => some false
  | .bl _, .str _ => some false
  | .str _, .bl _ => some false
  | _, _ => none
theorem dec_ne {a b : V} (h : a ≠ b) : decide (a = b) = false := decide_eq_false h
theorem dec_of {α : Type} [DecidableEq α] {f : α → V} (hf : ∀ a b, f a = f b → a = b) (a b : α) : decide (f a = f b) = decide (a = b) := by
  by_cases h : a = b
  · subst h
    simp
  · rw [decide_eq_false h, decide_eq_false fun z => h (hf a b z)]
theorem eqS_ok {W : Wd} {G : Hp} {x y : V} {dx dy : D} {b : Bool} (rx : Rp W G x dx) (ry : Rp W G y dy) (h : eqS dx dy = some b) : scal x y = true ∧ decide (x = y) = b := by
  cases dx <;> cases dy <;> first | (cases h; done) | skip
  all_goals
    cases h
    first | rw [rx.non_inv] | rw [rx.int_inv] | rw [rx.bl_inv] | rw [rx.str_inv]
    first | rw [ry.non_inv] | rw [ry.int_inv] | rw [ry.bl_inv] | rw [ry.str_inv]
    refine ⟨rfl, ?_⟩
    first
      | rfl
      | exact dec_of (fun _ _ z => V.int.inj z) _ _
      | exact dec_of (fun _ _ z => V.bl.inj z) _ _
      | exact dec_of (fun _ _ z => V.str.inj z) _ _
      | exact dec_ne (fun z => nomatch z)
def eqD (x y : D) : Option D := (eqS x y).map .bl
def neD (x y : D) : Option D := (eqS x y).map fun b => .bl (!b)
theorem opd_eq {W : Wd} : OpD W rEq eqD := by
  intro G H x y dx dy dz e rx ry ho Q q
  unfold eqD at ho
  cases h : eqS dx dy with
  | none => rw [h] at ho; cases ho
  | some b =>
    rw [h] at ho
    cases ho
    obtain ⟨h1, h2⟩ := eqS_ok rx ry h
    exact ⟨h1, by rw [h2]; exact q _ G H (Gr.refl e) (.bl b)⟩
theorem opd_ne {W : Wd} : OpD W rNe neD := by
  intro G H x y dx dy dz e rx ry ho Q q
  unfold neD at ho
  cases h : eqS dx dy with
  | none => rw [h] at ho; cases ho
  | some b =>
    rw [h] at ho
    cases ho
    obtain ⟨h1, h2⟩ := eqS_ok rx ry h
    exact ⟨h1, by rw [h2]; exact q _ G H (Gr.refl e) (.bl (!b))⟩
end Nv

set_option Elab.async false
set_option linter.all false
set_option maxRecDepth 100000
set_option maxHeartbeats 4000000
/-! NvP: in, is, subscripts, slices, built-ins, truth, walks: by data. -/
namespace Nv
open PySem L2 PyProof.Rows PySem.Spec

theorem callr_or {X : Cx} {f : Value} {r1 r2 : List V → Hp → VK → Prop} (h1 : CallR X f r1) (h2 : CallR X f r2) : CallR X f (fun xs H Q => r1 xs H Q ∨ r2 xs H Q) := by
  intro pins s σ H xs us Q I r q
  exact q.elim (h1 pins s σ H xs us Q I r) (h2 pins s σ H xs us Q I r)

/-! ### in -/
def flatD : D → Bool
  | .non => true
  | .bl _ => true
  | .int _ => true
  | .str _ => true
  | _ => false
def eqF : D → D → Bool
  | .non, .non => true
  | .bl a, .bl b => a == b
  | .bl a, .int b => (if a then 1 else 0) == b
  | .int a, .bl b => a == (if b then 1 else 0)
  | .int a, .int b => a == b
  | .str a, .str b => a == b
  | _, _ => false
def oneSign (z : Str) : Option Nat := match z.cps.toList with
  | [c] => some c
  | _ => none
theorem oneSign_eq {z : Str} {c : Nat} (h : oneSign z = some c) : z = ⟨#[c]⟩ := by
  unfold oneSign at h
  split at h
  · rename_i d e
    cases h
    obtain ⟨a⟩ := z
    congr 1
    apply Array.ext'
    exact e
  · cases h
def inD (neg : Bool) : D → D → Option D
  | .str a, .str b => (oneSign a).map fun c => .bl (if neg then !decide (c ∈ b.cps.toList) else decide (c ∈ b.cps.toList))
  | x, .tup ys => if (flatD x && ys.all flatD) = true then some (.bl (if neg then !ys.any (fun y => eqF y x) else ys.any fun y => eqF y x)) else none
  | x, .lst ys => if (flatD x && ys.all flatD) = true then some (.bl (if neg then !ys.any (fun y => eqF y x) else ys.any fun y => eqF y x)) else none
  | _, _ => none
section
variable {W : Wd} {G H : Hp}
theorem flat_of {x : V} {d : D} (r : Rp W G x d) (h : flatD d = true) : flatV x = true := by
  cases d <;> first | (cases h; done) | (cases r; rfl)
theorem eqF_of {x y : V} {dx dy : D} (rx : Rp W G x dx) (ry : Rp W G y dy) (hx : flatD dx = true) (hy : flatD dy = true) : eqV y x = eqF dy dx := by
  cases dx <;> first | (cases hx; done) | skip
  all_goals
    cases dy <;> first | (cases hy; done) | skip
    all_goals
      cases rx
      cases ry
      rfl
theorem all_flat : ∀ {xs : List V} {ds : List D}, RpAll W G xs ds → ds.all flatD = true → xs.all flatV = true
  | _, _, .nil, _ => rfl
  | _, _, .cons r k, h => by
    rw [List.all_cons, Bool.and_eq_true] at h ⊢
    exact ⟨flat_of r h.1, all_flat k h.2⟩
theorem any_flat {x : V} {dx : D} (rx : Rp W G x dx) (hx : flatD dx = true) : ∀ {xs : List V} {ds : List D}, RpAll W G xs ds → ds.all flatD = true → inV x xs = ds.any fun y => eqF y dx
  | _, _, .nil, _ => rfl
  | _, _, .cons r k, h => by
    rw [List.all_cons, Bool.and_eq_true] at h
    have := any_flat rx hx k h.2
    unfold inV at this ⊢
    rw [List.any_cons, List.any_cons, eqF_of rx r hx h.1, this]
end
def rInU (K : PySem.W.Frag) : R2 := fun x y H Q => rInS x y H Q ∨ rIn K false x y H Q
def rNiU (K : PySem.W.Frag) : R2 := fun x y H Q => rNotInS x y H Q ∨ rIn K true x y H Q
theorem op_inU {X : Cx} : OpR X (compareOp .In) (rInU X.K) := opr_or op_inS op_in_seq
theorem op_niU {X : Cx} : OpR X (compareOp .NotIn) (rNiU X.K) := opr_or op_notInS op_notIn_seq
theorem in_seq {W : Wd} {neg : Bool} {G H : Hp} {x y : V} {dx dz : D} {ys : List D} (e : Same G H) (rx : Rp W G x dx) (ry : Rp W G y (.tup ys) ∨ Rp W G y (.lst ys))
    (ho : (if (flatD dx && ys.all flatD) = true then some (D.bl (if neg then !ys.any (fun y => eqF y dx) else ys.any fun y => eqF y dx)) else none) = some dz) {Q : VK} (q : ∀ v G' H', Gr G H G' H' → Rp W G' v dz → Q v H') : rIn W.K neg x y H Q := by
  split at ho
  · cases ho
    rename_i hz
    rw [Bool.and_eq_true] at hz
    have go : ∀ {a : Addr} {xs : List V}, (SqL W.K H a xs ∨ SqT W.K H a xs) → RpAll W G xs ys → rIn W.K neg x (.ref a) H Q := fun {a xs} hs ra =>
      ⟨a, xs, rfl, hs, flat_of rx hz.1, all_flat ra hz.2, by rw [any_flat rx hz.1 ra hz.2]; exact q _ G H (Gr.refl e) (.bl _)⟩
    rcases ry with ry | ry
    · obtain ⟨a, xs, rfl, hs, ra⟩ := ry.tup_inv
      exact go (.inr (Same.tup e hs)) ra
    · obtain ⟨a, xs, rfl, hs, ra⟩ := ry.lst_inv
      exact go (.inl (.inl (.inl (e _ _ hs)))) ra
  · cases ho
theorem opd_in {W : Wd} : OpD W (rInU W.K) (inD false) := by
  intro G H x y dx dy dz e rx ry ho Q q
  cases dy with
  | tup ys => exact .inr (in_seq e rx (.inl ry) (by cases dx <;> exact ho) q)
  | lst ys => exact .inr (in_seq e rx (.inr ry) (by cases dx <;> exact ho) q)
  | str b =>
    cases dx <;> first | (cases ho; done) | skip
    rename_i a
    have ho : (oneSign a).map (fun c => D.bl (if false = true then !decide (c ∈ b.cps.toList) else decide (c ∈ b.cps.toList))) = some dz := ho
    cases h : oneSign a with
    | none => rw [h] at ho; cases ho
    | some c =>
      rw [h] at ho
      cases ho
      rw [rx.str_inv, ry.str_inv, oneSign_eq h]
      exact .inl ⟨c, b, rfl, rfl, q _ G H (Gr.refl e) (.bl _)⟩
  | _ => cases dx <;> cases ho
theorem opd_ni {W : Wd} : OpD W (rNiU W.K) (inD true) := by
  intro G H x y dx dy dz e rx ry ho Q q
  cases dy with
  | tup ys => exact .inr (in_seq e rx (.inl ry) (by cases dx <;> exact ho) q)
  | lst ys => exact .inr (in_seq e rx (.inr ry) (by cases dx <;> exact ho) q)
  | str b =>
    cases dx <;> first | (cases ho; done) | skip
    rename_i a
    have ho : (oneSign a).map (fun c => D.bl (if true = true then !decide (c ∈ b.cps.toList) else decide (c ∈ b.cps.toList))) = some dz := ho
    cases h : oneSign a with
    | none => rw [h] at ho; cases ho
    | some c =>
      rw [h] at ho
      cases ho
      rw [rx.str_inv, ry.str_inv, oneSign_eq h]
      exact .inl ⟨c, b, rfl, rfl, q _ G H (Gr.refl e) (.bl _)⟩
  | _ => cases dx <;> cases ho

/-! ### is None, is True -/
def rIsU : R2 := fun x y H Q => rIsN x y H Q ∨ rIsB x y H Q
theorem op_isU {X : Cx} : OpR X (compareOp .Is) rIsU := opr_or op_isN1 op_isBl
def rNoU : R2 := fun x y H Q => rNotN x y H Q ∨ rNotB x y H Q
def isNon : D → Bool
  | .non => true
  | _ => false
def isD : D → D → Option D
  | x, .non => some (.bl (isNon x))
  | .bl a, .bl b => some (.bl (decide (a = b)))
  | _, _ => none
def noD : D → D → Option D
  | x, .non => some (.bl (!isNon x))
  | .bl a, .bl b => some (.bl (!decide (a = b)))
  | _, _ => none
theorem isNon_of {W : Wd} {G : Hp} {x : V} {d : D} (r : Rp W G x d) : decide (x = V.non) = isNon d := by
  cases r <;> rfl
theorem opd_is {W : Wd} : OpD W rIsU isD := by
  intro G H x y dx dy dz e rx ry ho Q q
  cases dy with
  | non =>
    have ho : some (D.bl (isNon dx)) = some dz := by cases dx <;> exact ho
    cases ho
    rw [ry.non_inv]
    exact .inl ⟨rfl, by rw [isNon_of rx]; exact q _ G H (Gr.refl e) (.bl _)⟩
  | bl b =>
    cases dx <;> first | (cases ho; done) | skip
    cases ho
    rw [rx.bl_inv, ry.bl_inv]
    exact .inr ⟨_, b, rfl, rfl, q _ G H (Gr.refl e) (.bl _)⟩
  | _ => cases dx <;> cases ho

/-! ### subscripts -/
def rIxU (K : PySem.W.Frag) : R2 := fun x y H Q => rIxL K x y H Q ∨ rIxT K x y H Q ∨ rIxS x y H Q
theorem ix_U {X : Cx} : IxR X (rIxU X.K) := IxR.or ix_list (IxR.or ix_tup ix_str)
def ixD : D → D → Option D
  | .lst xs, .int i => atI xs i
  | .tup xs, .int i => atI xs i
  | .str z, .int i => if z.length ≤ sizeLine then (atI z.cps.toList i).map fun c => .str ⟨#[c]⟩ else none
  | _, _ => none
theorem RpAll.atI {W : Wd} {G : Hp} {vs : List V} {ds : List D} {i : Int} {d : D} (r : RpAll W G vs ds) (h : atI ds i = some d) : ∃ v, L2.atI vs i = some v ∧ Rp W G v d := by
  unfold L2.atI at h ⊢
  rw [r.length]
  cases e : ixN ds.length i with
  | none => rw [e] at h; cases h
  | some j =>
    rw [e] at h
    exact r.get h
theorem opd_ix {W : Wd} : OpD W (rIxU W.K) ixD := by
  intro G H x y dx dy dz e rx ry ho Q q
  cases dx <;> first | (cases ho; done) | skip
  all_goals
    cases dy <;> first | (cases ho; done) | skip
  · rename_i z i
    have ho : (if z.length ≤ sizeLine then (L2.atI z.cps.toList i).map (fun c => D.str ⟨#[c]⟩) else none) = some dz := ho
    split at ho
    · rename_i hz
      cases h : L2.atI z.cps.toList i with
      | none => rw [h] at ho; cases ho
      | some c =>
        rw [h] at ho
        cases ho
        rw [rx.str_inv, ry.int_inv]
        exact .inr (.inr ⟨z, i, c, rfl, rfl, hz, h, q _ G H (Gr.refl e) (.str _)⟩)
    · cases ho
  · rename_i xs i
    obtain ⟨a, vs, rfl, hs, ra⟩ := rx.lst_inv
    obtain ⟨v, h1, h2⟩ := ra.atI ho
    rw [ry.int_inv]
    exact .inl ⟨a, vs, i, v, rfl, rfl, .inl (.inl (e _ _ hs)), h1, q _ G H (Gr.refl e) h2⟩
  · rename_i xs i
    obtain ⟨a, vs, rfl, hs, ra⟩ := rx.tup_inv
    obtain ⟨v, h1, h2⟩ := ra.atI ho
    rw [ry.int_inv]
    exact .inr (.inl ⟨a, vs, i, v, rfl, rfl, Same.tup e hs, h1, q _ G H (Gr.refl e) h2⟩)

/-! ### slices -/
def cut {α : Type} (xs : List α) (lo hi : Option Int) : List α := (xs.drop (HT.sIx xs.length 0 lo)).take (HT.sIx xs.length xs.length hi - HT.sIx xs.length 0 lo)
def slD : D → Option Int → Option Int → Option D
  | .lst xs, lo, hi => some (.lst (cut xs lo hi))
  | .tup xs, lo, hi => some (.tup (cut xs lo hi))
  | .frl xs, lo, hi => some (.lst (cut xs lo hi))
  | .str z, lo, hi => if z.length ≤ sizeLine then some (.str (cutS z lo hi)) else none
  | _, _, _ => none
def rSlU (K : PySem.W.Frag) : V → Option Int → Option Int → Hp → VK → Prop := fun x lo hi H Q => rSlL K x lo hi H Q ∨ rSlA K x lo hi H Q ∨ rSlS x lo hi H Q
theorem sl_U {X : Cx} : SlR X (rSlU X.K) := SlR.or sl_list (SlR.or sl_tupA sl_str)
def EvO (W : Wd) (to : TO) (env : List Sl) (R : Option Int → List Sl → Prop) : Prop :=
  ∀ (G H : Hp) (σ : L2.St), St W G H σ env → ∀ Q : Option Int → Hp → Prop, (∀ o G' H' env', St W G' H' σ env' → Tr σ env G H σ env' G' H' → R o env' → Q o H') → to σ H Q
section
variable {W : Wd} {env : List Sl} {ta tb tc te : TE}
theorem eo_none {R : Option Int → List Sl → Prop} (k : R none env) : EvO W tNoPart env R := fun G H σ S Q q => q none G H env S (Tr.refl S) k
theorem eo_some {R : Option Int → List Sl → Prop} (h : Ev W te env fun d e1 => ∃ i, d = .int i ∧ R (some i) e1) : EvO W (tPart te) env R := fun G H σ S Q q =>
  h G H σ S _ fun v d G1 H1 e1 S1 T1 r ⟨i, e, k⟩ => by
    subst e
    exact ⟨i, r.int_inv, q (some i) G1 H1 e1 S1 T1 k⟩
theorem RpAll.cut {G : Hp} {vs : List V} {ds : List D} (r : RpAll W G vs ds) (lo hi : Option Int) : RpAll W G (cutV vs lo hi) (Nv.cut ds lo hi) := by
  unfold cutV Nv.cut
  rw [r.length]
  exact (r.drop _).take _
theorem cut_whole {α : Type} {xs : List α} {lo hi : Option Int} (h1 : HT.sIx xs.length 0 lo = 0) (h2 : HT.sIx xs.length xs.length hi = xs.length) : cut xs lo hi = xs := by
  unfold cut
  rw [h1, h2]
  simp
theorem ev_sl {tl th : TO} {R : D → List Sl → Prop} (h : Ev W ta env fun x e1 => EvO W tl e1 fun lo e2 => EvO W th e2 fun hi e3 => ∃ z, slD x lo hi = some z ∧ R z e3) : Ev W (tSl (rSlU W.K) ta tl th) env R := fun G H σ S Q q =>
  h G H σ S _ fun x d G1 H1 e1 S1 T1 r1 h1 => h1 G1 H1 σ S1 _ fun lo G2 H2 e2 S2 T2 h2 => h2 G2 H2 σ S2 _ fun hi G3 H3 e3 S3 T3 w => by
    obtain ⟨z, hz, k⟩ := w
    have T := T1.trans S (T2.trans S1 T3)
    have r := r1.up (T2.gg.trans T3.gg)
    cases d <;> first | (cases hz; done) | skip
    · rename_i y
      have hz : (if y.length ≤ sizeLine then some (D.str (cutS y lo hi)) else none) = some z := hz
      split at hz
      · rename_i hl
        cases hz
        rw [r.str_inv]
        exact .inr (.inr ⟨y, rfl, hl, q _ _ G3 H3 e3 S3 T (.str _) k⟩)
      · cases hz
    · cases hz
      obtain ⟨a, vs, rfl, hs, ra⟩ := r.lst_inv
      refine .inl ⟨a, vs, rfl, .inl (.inl (S3.gh _ _ hs)), fun p hp => ?_⟩
      obtain ⟨g, rr⟩ := Gr.newL (W := W) S3.gh hp (ra.cut lo hi)
      exact q _ _ _ _ e3 (S3.up g) (T.trans S (Tr.up S3 g)) rr k
    · cases hz
      obtain ⟨a, vs, rfl, hs, ra⟩ := r.tup_inv
      refine .inr (.inl ⟨a, vs, rfl, Same.tup S3.gh hs, fun hw => ?_, fun hw p hp => ?_⟩)
      · rw [ra.length] at hw
        rw [cut_whole hw.1 hw.2] at k
        exact q _ _ G3 H3 e3 S3 T r k
      · obtain ⟨g, rr⟩ := Gr.newT (W := W) S3.gh hp (ra.cut lo hi)
        exact q _ _ _ _ e3 (S3.up g) (T.trans S (Tr.up S3 g)) rr k
    · cases hz
      obtain ⟨a, vs, rfl, hs, ra⟩ := r.frl_inv
      refine .inl ⟨a, vs, rfl, Same.lst S3.gh hs, fun p hp => ?_⟩
      obtain ⟨g, rr⟩ := Gr.newL (W := W) S3.gh hp (ra.cut lo hi)
      exact q _ _ _ _ e3 (S3.up g) (T.trans S (Tr.up S3 g)) rr k

/-! ### chains of two comparisons -/
theorem ev_chain {r r' : R2} {o o' : D → D → Option D} {R : D → List Sl → Prop} (ho : OpD W r o) (ho' : OpD W r' o')
    (h : Ev W ta env fun x e1 => Ev W tb e1 fun y e2 => ∃ b, o x y = some (.bl b) ∧ if b = true then Ev W tc e2 fun w e3 => ∃ z, o' y w = some z ∧ R z e3 else R (.bl false) e2) : Ev W (tChain r r' ta tb tc) env R := fun G H σ S Q q =>
  h G H σ S _ fun x dx G1 H1 e1 S1 T1 r1 h1 => h1 G1 H1 σ S1 _ fun y dy G2 H2 e2 S2 T2 r2 ⟨b, hb, k⟩ =>
    ho G2 H2 x y dx dy _ S2.gh (r1.up T2.gg) r2 hb _ fun v G3 H3 g r3 => by
      refine ⟨b, r3.bl_inv, ?_⟩
      have S3 := S2.up g
      have T3 := (T1.trans S T2).trans S (Tr.up S2 g)
      cases b with
      | false => exact q _ _ G3 H3 e2 S3 T3 (.bl false) k
      | true =>
        have k : Ev W tc e2 _ := k
        show tc σ H3 _
        exact k G3 H3 σ S3 _ fun w dw G4 H4 e4 S4 T4 r4 ⟨z, hz, k4⟩ => ho' G4 H4 y w dy dw z S4.gh (r2.up (g.gg.trans T4.gg)) r4 hz Q fun v G5 H5 g5 r5 => q v z G5 H5 e4 (S4.up g5) ((T3.trans S T4).trans S (Tr.up S4 g5)) r5 k4

/-! ### truth -/
def truD : D → Option Bool
  | .non => some false
  | .bl b => some b
  | .int i => some (i != 0)
  | .str y => if y.length ≤ sizeLine then some ((y.length : Int) != 0) else none
  | .lst xs => some (!xs.isEmpty)
  | .tup xs => some (!xs.isEmpty)
  | _ => none
theorem isEmpty_rp {G : Hp} {vs : List V} {ds : List D} (r : RpAll W G vs ds) : (!ds.isEmpty) = !vs.isEmpty := by cases r <;> rfl
theorem tru_of {G H : Hp} {x : V} {d : D} {b : Bool} (e : Same G H) (r : Rp W G x d) (h : truD d = some b) : TruV W.K x H b := by
  cases d <;> first | (cases h; done) | skip
  · cases h
    rw [r.non_inv]
    exact rfl
  · cases h
    rw [r.bl_inv]
    exact rfl
  · cases h
    rw [r.int_inv]
    exact rfl
  · rename_i y
    have h : (if y.length ≤ sizeLine then some ((y.length : Int) != 0) else none) = some b := h
    split at h
    · rename_i hz
      cases h
      rw [r.str_inv]
      exact ⟨hz, rfl⟩
    · cases h
  · cases h
    obtain ⟨a, vs, rfl, hs, ra⟩ := r.lst_inv
    exact .inl ⟨vs, .inl (.inl (e _ _ hs)), isEmpty_rp ra⟩
  · cases h
    obtain ⟨a, vs, rfl, hs, ra⟩ := r.tup_inv
    exact .inr (.inl ⟨vs, Same.tup e hs, isEmpty_rp ra⟩)
theorem et_tru {R : Bool → List Sl → Prop} (h : Ev W te env fun d e1 => ∃ b, truD d = some b ∧ R b e1) : EvT W (tTru W.K te) env R := fun G H σ S Q q =>
  h G H σ S _ fun v d G1 H1 e1 S1 T1 r ⟨b, hb, k⟩ => ⟨b, tru_of S1.gh r hb, q b G1 H1 e1 S1 T1 k⟩

/-! ### what is walked -/
theorem isw_list {G : Hp} {a : Addr} {vs : List V} {ds : List D} (hs : G a = some (.lst vs)) (r : RpAll W G vs ds) : IsW W (Itl W.K a) G ds where
  go := fun i G' H' e e' h => ⟨vs, vs[i]'(by rw [r.length]; exact h), .inl (.inl (e' _ _ (e _ _ hs))), by simp [r.length, h]⟩
  stop := fun G' H' e e' => ⟨vs, .inl (.inl (e' _ _ (e _ _ hs))), Nat.le_of_eq r.length⟩
  yld := fun i G' H' x H'' d e e' hd ⟨eq, y⟩ => by
    subst eq
    obtain ⟨v, h1, h2⟩ := r.get hd
    have := y vs (.inl (.inl (e' _ _ (e _ _ hs))))
    rw [h1] at this
    cases this
    exact ⟨G', Gr.refl e', h2.up e⟩
theorem isw_tup {G : Hp} {a : Addr} {vs : List V} {ds : List D} (hs : SqT W.K G a vs) (r : RpAll W G vs ds) : IsW W (Itt W.K a) G ds where
  go := fun i G' H' e e' h => ⟨vs, vs[i]'(by rw [r.length]; exact h), Same.tup e' (Same.tup e hs), by simp [r.length, h]⟩
  stop := fun G' H' e e' => ⟨vs, Same.tup e' (Same.tup e hs), Nat.le_of_eq r.length⟩
  yld := fun i G' H' x H'' d e e' hd ⟨eq, y⟩ => by
    subst eq
    obtain ⟨v, h1, h2⟩ := r.get hd
    have := y vs (Same.tup e' (Same.tup e hs))
    rw [h1] at this
    cases this
    exact ⟨G', Gr.refl e', h2.up e⟩
def signs (z : Str) : List D := z.cps.toList.map fun c => .str ⟨#[c]⟩
theorem isw_str {G : Hp} (z : Str) : IsW W (Its z) G (signs z) where
  go := fun i G' H' e e' h => by
    show i < z.cps.size
    simpa [signs] using h
  stop := fun G' H' e e' => by
    show z.cps.size ≤ (signs z).length
    simp [signs]
  yld := fun i G' H' x H'' d e e' hd ⟨eq, c, hc, hx⟩ => by
    subst eq hx
    have : d = .str ⟨#[c]⟩ := by
      unfold signs at hd
      rw [List.getElem?_map, Array.getElem?_toList, hc] at hd
      cases hd
      rfl
    subst this
    exact ⟨G', Gr.refl e', .str _⟩
def upto (n : Nat) : List D := (List.range n).map fun k : Nat => .int (k : Int)
theorem isw_rng {G : Hp} (n : Nat) : IsW W (Itr 0 n) G (upto n) where
  go := fun i G' H' e e' h => by
    show i < n
    simpa [upto] using h
  stop := fun G' H' e e' => by
    show n ≤ (upto n).length
    simp [upto]
  yld := fun i G' H' x H'' d e e' hd ⟨eq, hx⟩ => by
    subst eq hx
    have hi : i < n := by
      have := (List.getElem?_eq_some_iff.mp hd).1
      simpa [upto] using this
    have : d = .int (i : Int) := by
      unfold upto at hd
      rw [List.getElem?_map, List.getElem?_range hi] at hd
      cases hd
      rfl
    subst this
    rw [Int.zero_add]
    exact ⟨G', Gr.refl e', .int _⟩
theorem ei_list {tl : TE} {R : List D → List Sl → Prop} (h : Ev W tl env fun d e1 => ∃ xs, d = .lst xs ∧ R xs e1) : EvI W (iList W.K tl) env R := fun G H σ S Q q =>
  h G H σ S _ fun v d G1 H1 e1 S1 T1 r ⟨xs, e, k⟩ => by
    subst e
    obtain ⟨a, vs, rfl, hs, ra⟩ := r.lst_inv
    exact ⟨a, rfl, ⟨vs, .inl (.inl (S1.gh _ _ hs))⟩, q _ xs G1 H1 e1 S1 T1 (isw_list hs ra) k⟩
theorem ei_tup {tl : TE} {R : List D → List Sl → Prop} (h : Ev W tl env fun d e1 => ∃ xs, d = .tup xs ∧ R xs e1) : EvI W (iTup W.K tl) env R := fun G H σ S Q q =>
  h G H σ S _ fun v d G1 H1 e1 S1 T1 r ⟨xs, e, k⟩ => by
    subst e
    obtain ⟨a, vs, rfl, hs, ra⟩ := r.tup_inv
    exact ⟨a, rfl, ⟨vs, Same.tup S1.gh hs⟩, q _ xs G1 H1 e1 S1 T1 (isw_tup hs ra) k⟩
theorem ei_str {tl : TE} {R : List D → List Sl → Prop} (h : Ev W tl env fun d e1 => ∃ z, d = .str z ∧ R (signs z) e1) : EvI W (iStr tl) env R := fun G H σ S Q q =>
  h G H σ S _ fun v d G1 H1 e1 S1 T1 r ⟨z, e, k⟩ => by
    subst e
    exact ⟨z, r.str_inv, q _ _ G1 H1 e1 S1 T1 (isw_str z) k⟩
theorem ei_rng {tl : TA} {R : List D → List Sl → Prop} (h : EvA W tl env fun ds e1 => ∃ n : Int, ds = [.int n] ∧ -(2 ^ 62) ≤ n ∧ n < 2 ^ 62 ∧ R (upto n.toNat) e1) : EvI W (iRng1 tl) env R := fun G H σ S Q q =>
  h G H σ S _ fun vs ds G1 H1 e1 S1 T1 r ⟨n, e, h1, h2, k⟩ => by
    subst e
    cases r with
    | cons r1 r2 =>
      cases r2
      rw [r1.int_inv]
      exact ⟨n, rfl, h1, h2, q _ _ G1 H1 e1 S1 T1 (isw_rng n.toNat) k⟩
end
end Nv

set_option Elab.async false
set_option linter.all false
set_option maxRecDepth 100000
set_option maxHeartbeats 4000000
/-! NvB: built-ins by data. -/
namespace Nv
open PySem L2 PyProof.Rows PySem.Spec

section
variable {W : Wd} {env : List Sl} {ta tb te : TE} {R : D → List Sl → Prop}

/-! ### len -/
def rLenU (K : PySem.W.Frag) : List V → Hp → VK → Prop := fun xs H Q => (∃ p ys, xs = [.ref p] ∧ (SqL K H p ys ∨ SqT K H p ys) ∧ Q (.int ys.length) H) ∨ ∃ z, xs = [.str z] ∧ z.length ≤ sizeLine ∧ Q (.int z.length) H
theorem cr_lenU {X : Cx} : CallR X (.builtin "len") (rLenU X.K) := callr_or call_len_seq call_len_str
def lenD : List D → Option D
  | [.lst xs] => some (.int xs.length)
  | [.tup xs] => some (.int xs.length)
  | [.str z] => if z.length ≤ sizeLine then some (.int z.length) else none
  | _ => none
/-- one argument -/
theorem rp1 {G : Hp} {xs : List V} {d : D} (r : RpAll W G xs [d]) : ∃ v, xs = [v] ∧ Rp W G v d := by
  cases r with
  | cons h k => cases k; exact ⟨_, rfl, h⟩
theorem rp2 {G : Hp} {xs : List V} {d e : D} (r : RpAll W G xs [d, e]) : ∃ v w, xs = [v, w] ∧ Rp W G v d ∧ Rp W G w e := by
  cases r with
  | cons h k =>
    obtain ⟨w, rfl, q⟩ := rp1 k
    exact ⟨_, w, rfl, h, q⟩
theorem cd_len : CallD W (rLenU W.K) lenD := by
  intro G H xs ds dz e r ho Q q
  cases ds with
  | nil => cases ho
  | cons d ds =>
    cases ds with
    | cons d' ds => cases d <;> cases ho
    | nil =>
      obtain ⟨v, rfl, r0⟩ := rp1 r
      clear r
      cases d <;> first | (cases ho; done) | skip
      · rename_i z
        have ho : (if z.length ≤ sizeLine then some (D.int z.length) else none) = some dz := ho
        split at ho
        · rename_i hz
          cases ho
          rw [r0.str_inv]
          exact .inr ⟨z, rfl, hz, q _ G H (Gr.refl e) (.int _)⟩
        · cases ho
      · cases ho
        obtain ⟨a, vs, rfl, hs, ra⟩ := r0.lst_inv
        exact .inl ⟨a, vs, rfl, .inl (.inl (.inl (e _ _ hs))), by rw [ra.length]; exact q _ G H (Gr.refl e) (.int _)⟩
      · cases ho
        obtain ⟨a, vs, rfl, hs, ra⟩ := r0.tup_inv
        exact .inl ⟨a, vs, rfl, .inr (Same.tup e hs), by rw [ra.length]; exact q _ G H (Gr.refl e) (.int _)⟩

/-! ### isinstance with a built-in class -/
def kindD : D → String
  | .non => "NoneType"
  | .bl _ => "bool"
  | .int _ => "int"
  | .str _ => "str"
  | .lst _ => "list"
  | .tup _ => "tuple"
  | .dct _ => "dict"
  | _ => ""
theorem ty_of {G H : Hp} {x : V} {d : D} (e : Same G H) (r : Rp W G x d) (hk : kindD d ≠ "") : TyX W.K H x (.type (kindD d)) := by
  cases r with
  | non => exact .base .non
  | bl b => exact .base (.bl b)
  | int i => exact .base (.int i)
  | str x => exact .base (.str x)
  | ty n => exact absurd rfl hk
  | frl h k => exact absurd rfl hk
  | lst h k => exact .base (.lst (e _ _ h))
  | tup h k =>
    rcases h with (h | ⟨o, h⟩) | ⟨o, its, n, h, c, _⟩
    · exact .base (.tup (e _ _ h))
    · exact .fTuple (e _ _ h)
    · exact .kTuple h c
  | dct h q k =>
    rcases h with h | ⟨o, h⟩
    · exact .base (.dK (e _ _ h))
    · exact .fDict (e _ _ h)
  | ins h q k => exact absurd rfl hk
/-- p tells of every kind whether it is a T -/
structure IsK (T : String) (p : D → Bool) : Prop where
  ok : ∀ d, kindD d ≠ "" → kitB (kindD d) T = some (p d)
theorem ev_isT {T : String} {p : D → Bool} (k : IsK T p) (h : Ev W te env fun d e1 => kindD d ≠ "" ∧ R (.bl (p d)) e1) : Ev W (tCB (rIsi W.K) (tCons te (tCons (tC (.ty T)) tNil))) env R := fun G H σ S Q q =>
  h G H σ S _ fun v d G1 H1 e1 S1 T1 r ⟨hk, hr⟩ => ⟨v, .ty T, _, _, p d, rfl, .ty T, ty_of S1.gh r hk, kit_ty (k.ok d hk), q _ _ G1 H1 e1 S1 T1 (.bl _) hr⟩
def isStrD : D → Bool
  | .str _ => true
  | _ => false
def isTupD : D → Bool
  | .tup _ => true
  | _ => false
def isLstD : D → Bool
  | .lst _ => true
  | _ => false
def isDctD : D → Bool
  | .dct _ => true
  | _ => false
def isIntD : D → Bool
  | .int _ => true
  | .bl _ => true
  | _ => false
def isBlD : D → Bool
  | .bl _ => true
  | _ => false
theorem isk_str : IsK "str" isStrD := ⟨fun d hd => match d, hd with
  | .non, _ => (by decide +kernel : kitB "NoneType" "str" = some false)
  | .bl _, _ => (by decide +kernel : kitB "bool" "str" = some false)
  | .int _, _ => (by decide +kernel : kitB "int" "str" = some false)
  | .str _, _ => (by decide +kernel : kitB "str" "str" = some true)
  | .lst _, _ => (by decide +kernel : kitB "list" "str" = some false)
  | .tup _, _ => (by decide +kernel : kitB "tuple" "str" = some false)
  | .dct _, _ => (by decide +kernel : kitB "dict" "str" = some false)
  | .ins _ _, h => absurd rfl h
  | .ty _, h => absurd rfl h
  | .frl _, h => absurd rfl h⟩
theorem isk_tup : IsK "tuple" isTupD := ⟨fun d hd => match d, hd with
  | .non, _ => (by decide +kernel : kitB "NoneType" "tuple" = some false)
  | .bl _, _ => (by decide +kernel : kitB "bool" "tuple" = some false)
  | .int _, _ => (by decide +kernel : kitB "int" "tuple" = some false)
  | .str _, _ => (by decide +kernel : kitB "str" "tuple" = some false)
  | .lst _, _ => (by decide +kernel : kitB "list" "tuple" = some false)
  | .tup _, _ => (by decide +kernel : kitB "tuple" "tuple" = some true)
  | .dct _, _ => (by decide +kernel : kitB "dict" "tuple" = some false)
  | .ins _ _, h => absurd rfl h
  | .ty _, h => absurd rfl h
  | .frl _, h => absurd rfl h⟩
theorem isk_lst : IsK "list" isLstD := ⟨fun d hd => match d, hd with
  | .non, _ => (by decide +kernel : kitB "NoneType" "list" = some false)
  | .bl _, _ => (by decide +kernel : kitB "bool" "list" = some false)
  | .int _, _ => (by decide +kernel : kitB "int" "list" = some false)
  | .str _, _ => (by decide +kernel : kitB "str" "list" = some false)
  | .lst _, _ => (by decide +kernel : kitB "list" "list" = some true)
  | .tup _, _ => (by decide +kernel : kitB "tuple" "list" = some false)
  | .dct _, _ => (by decide +kernel : kitB "dict" "list" = some false)
  | .ins _ _, h => absurd rfl h
  | .ty _, h => absurd rfl h
  | .frl _, h => absurd rfl h⟩
theorem isk_dct : IsK "dict" isDctD := ⟨fun d hd => match d, hd with
  | .non, _ => (by decide +kernel : kitB "NoneType" "dict" = some false)
  | .bl _, _ => (by decide +kernel : kitB "bool" "dict" = some false)
  | .int _, _ => (by decide +kernel : kitB "int" "dict" = some false)
  | .str _, _ => (by decide +kernel : kitB "str" "dict" = some false)
  | .lst _, _ => (by decide +kernel : kitB "list" "dict" = some false)
  | .tup _, _ => (by decide +kernel : kitB "tuple" "dict" = some false)
  | .dct _, _ => (by decide +kernel : kitB "dict" "dict" = some true)
  | .ins _ _, h => absurd rfl h
  | .ty _, h => absurd rfl h
  | .frl _, h => absurd rfl h⟩
theorem isk_int : IsK "int" isIntD := ⟨fun d hd => match d, hd with
  | .non, _ => (by decide +kernel : kitB "NoneType" "int" = some false)
  | .bl _, _ => (by decide +kernel : kitB "bool" "int" = some true)
  | .int _, _ => (by decide +kernel : kitB "int" "int" = some true)
  | .str _, _ => (by decide +kernel : kitB "str" "int" = some false)
  | .lst _, _ => (by decide +kernel : kitB "list" "int" = some false)
  | .tup _, _ => (by decide +kernel : kitB "tuple" "int" = some false)
  | .dct _, _ => (by decide +kernel : kitB "dict" "int" = some false)
  | .ins _ _, h => absurd rfl h
  | .ty _, h => absurd rfl h
  | .frl _, h => absurd rfl h⟩
theorem isk_bl : IsK "bool" isBlD := ⟨fun d hd => match d, hd with
  | .non, _ => (by decide +kernel : kitB "NoneType" "bool" = some false)
  | .bl _, _ => (by decide +kernel : kitB "bool" "bool" = some true)
  | .int _, _ => (by decide +kernel : kitB "int" "bool" = some false)
  | .str _, _ => (by decide +kernel : kitB "str" "bool" = some false)
  | .lst _, _ => (by decide +kernel : kitB "list" "bool" = some false)
  | .tup _, _ => (by decide +kernel : kitB "tuple" "bool" = some false)
  | .dct _, _ => (by decide +kernel : kitB "dict" "bool" = some false)
  | .ins _ _, h => absurd rfl h
  | .ty _, h => absurd rfl h
  | .frl _, h => absurd rfl h⟩

/-! ### int(x), abs(x), min(x, y) -/
def intOfD : List D → Option D
  | [.int i] => some (.int i)
  | [.bl b] => some (.int (if b then 1 else 0))
  | _ => none
theorem cd_int : CallD W (fun xs H Q => (∃ i, xs = [.int i] ∧ Q (.int i) H) ∨ ∃ k, xs = [.bl k] ∧ Q (.int (if k then 1 else 0)) H) intOfD := by
  intro G H xs ds dz e r ho Q q
  cases ds with
  | nil => cases ho
  | cons d ds =>
    cases ds with
    | cons d' ds => cases d <;> cases ho
    | nil =>
      obtain ⟨v, rfl, r0⟩ := rp1 r
      cases d <;> first | (cases ho; done) | skip
      · cases ho
        rw [r0.bl_inv]
        exact .inr ⟨_, rfl, q _ G H (Gr.refl e) (.int _)⟩
      · cases ho
        rw [r0.int_inv]
        exact .inl ⟨_, rfl, q _ G H (Gr.refl e) (.int _)⟩
def absD : List D → Option D
  | [.int i] => some (.int (if i < 0 then -i else i))
  | _ => none
theorem cd_abs : CallD W (fun xs H Q => ∃ i, xs = [.int i] ∧ Q (.int (if i < 0 then -i else i)) H) absD := by
  intro G H xs ds dz e r ho Q q
  cases ds with
  | nil => cases ho
  | cons d ds =>
    cases ds with
    | cons d' ds => cases d <;> cases ho
    | nil =>
      obtain ⟨v, rfl, r0⟩ := rp1 r
      cases d <;> first | (cases ho; done) | skip
      cases ho
      rw [r0.int_inv]
      exact ⟨_, rfl, q _ G H (Gr.refl e) (.int _)⟩
def min2D : List D → Option D
  | [.int i, .int j] => some (.int (if j < i then j else i))
  | _ => none
theorem cd_min2 : CallD W (fun xs H Q => ∃ i j, xs = [.int i, .int j] ∧ Q (.int (if j < i then j else i)) H) min2D := by
  intro G H xs ds dz e r ho Q q
  cases ds with
  | nil => cases ho
  | cons d ds =>
    cases ds with
    | nil => cases d <;> cases ho
    | cons d' ds =>
      cases ds with
      | cons d'' ds => cases d <;> cases d' <;> cases ho
      | nil =>
        obtain ⟨v, w, rfl, r1, r2⟩ := rp2 r
        cases d <;> first | (cases ho; done) | skip
        cases d' <;> first | (cases ho; done) | skip
        cases ho
        rw [r1.int_inv, r2.int_inv]
        exact ⟨_, _, rfl, q _ G H (Gr.refl e) (.int _)⟩

/-! ### tuple(x), list(x) -/
def tupOfD : List D → Option D
  | [.lst xs] => some (.tup xs)
  | [.tup xs] => some (.tup xs)
  | _ => none
theorem cd_tuple : CallD W (fun xs H Q => ∃ p ys, xs = [.ref p] ∧ ((SqL W.K H p ys ∧ ∀ l, H l = none → Q (.ref l) (upd H l (.tup ys))) ∨ (SqT W.K H p ys ∧ Q (.ref p) H))) tupOfD := by
  intro G H xs ds dz e r ho Q q
  cases ds with
  | nil => cases ho
  | cons d ds =>
    cases ds with
    | cons d' ds => cases d <;> cases ho
    | nil =>
      obtain ⟨v, rfl, r0⟩ := rp1 r
      cases d <;> first | (cases ho; done) | skip
      · cases ho
        obtain ⟨a, vs, rfl, hs, ra⟩ := r0.lst_inv
        refine ⟨a, vs, rfl, .inl ⟨.inl (.inl (e _ _ hs)), fun p hp => ?_⟩⟩
        obtain ⟨g, rr⟩ := Gr.newT (W := W) e hp ra
        exact q _ _ _ g rr
      · cases ho
        obtain ⟨a, vs, rfl, hs, ra⟩ := r0.tup_inv
        exact ⟨a, vs, rfl, .inr ⟨Same.tup e hs, q _ G H (Gr.refl e) r0⟩⟩
/-- list(x): a new list -/
theorem evf_list {tr : TA} {R : List D → List Sl → Prop} (h : EvA W tr env fun ds e1 => ∃ xs, (ds = [.lst xs] ∨ ds = [.tup xs]) ∧ R xs e1) : EvF W (tCB (fun xs H Q => ∃ p ys, xs = [.ref p] ∧ (SqL W.K H p ys ∨ SqT W.K H p ys) ∧ ∀ l, H l = none → Q (.ref l) (upd H l (.lst ys))) tr) env R := fun G H σ S Q q =>
  h G H σ S _ fun vs ds G1 H1 e1 S1 T1 r ⟨xs, hx, k⟩ => by
    have go : ∀ {a : Addr} {ys : List V}, (SqL W.K H1 a ys ∨ SqT W.K H1 a ys) → RpAll W G1 ys xs → vs = [.ref a] → (∃ p ys, vs = [.ref p] ∧ (SqL W.K H1 p ys ∨ SqT W.K H1 p ys) ∧ ∀ l, H1 l = none → Q (.ref l) (upd H1 l (.lst ys))) := fun {a ys} hs ra ev => by
      refine ⟨a, ys, ev, hs, fun p hp => ?_⟩
      have no : ¬ own σ e1 p := fun z => by
        obtain ⟨_, o, ho⟩ := S1.own_at z
        rw [hp] at ho
        cases ho
      have h0 : H p = none := by
        cases z : H p with
        | none => rfl
        | some o => exact absurd hp (T1.kp p (by rw [z]; exact fun y => nomatch y))
      exact q p ys xs G1 _ e1 (S1.mut (S1.gh.free hp) no) (T1.late h0) h0 upd_same (S1.gh.free hp) no ra k
    rcases hx with hx | hx
    · subst hx
      obtain ⟨v, rfl, r0⟩ := rp1 r
      obtain ⟨a, ys, rfl, hs, ra⟩ := r0.lst_inv
      exact go (.inl (.inl (.inl (S1.gh _ _ hs)))) ra rfl
    · subst hx
      obtain ⟨v, rfl, r0⟩ := rp1 r
      obtain ⟨a, ys, rfl, hs, ra⟩ := r0.tup_inv
      exact go (.inr (Same.tup S1.gh hs)) ra rfl

/-! ### all(list of bools) -/
theorem bls_of {G : Hp} : ∀ {vs : List V} {bs : List Bool}, RpAll W G vs (bs.map D.bl) → vs = bs.map V.bl
  | _, [], r => by cases r; rfl
  | _, b :: bs, r => by
    cases r with
    | cons h k =>
      rw [h.bl_inv, bls_of k]
      rfl
theorem ev_all {tr : TA} (h : EvA W tr env fun ds e1 => ∃ bs : List Bool, ds = [.lst (bs.map D.bl)] ∧ R (.bl (bs.all id)) e1) : Ev W (tCB (rAll W.K) tr) env R := fun G H σ S Q q =>
  h G H σ S _ fun vs ds G1 H1 e1 S1 T1 r ⟨bs, hx, k⟩ => by
    subst hx
    obtain ⟨v, rfl, r0⟩ := rp1 r
    obtain ⟨a, ys, rfl, hs, ra⟩ := r0.lst_inv
    rw [bls_of ra] at hs
    exact ⟨a, bs, rfl, .inl (.inl (S1.gh _ _ hs)), q _ _ G1 H1 e1 S1 T1 (.bl _) k⟩

/-! ### repr -/
mutual
def D.py : D → PyData
  | .non => .none
  | .bl b => .bool b
  | .int i => .int i
  | .str x => .str x
  | .lst xs => .list (pyAll xs)
  | .tup xs => .tuple (pyAll xs)
  | .dct kvs => .dict (pyKv kvs)
  | .ins _ _ => .none
  | .ty _ => .none
  | .frl _ => .none
def pyAll : List D → List PyData
  | [] => []
  | d :: ds => d.py :: pyAll ds
def pyKv : List (Key × D) → List (PyData × PyData)
  | [] => []
  | (.inl i, d) :: r => (.int i, d.py) :: pyKv r
  | (.inr x, d) :: r => (.str x, d.py) :: pyKv r
end
mutual
def D.plain : D → Bool
  | .lst xs => plainAll xs
  | .tup xs => plainAll xs
  | .dct kvs => plainKv kvs
  | .ins _ _ => false
  | .ty _ => false
  | .frl _ => false
  | _ => true
def plainAll : List D → Bool
  | [] => true
  | d :: ds => d.plain && plainAll ds
def plainKv : List (Key × D) → Bool
  | [] => true
  | (_, d) :: r => d.plain && plainKv r
end
theorem dt_kv {G : Hp} : ∀ {ds : List (Key × D)} {kvs : List (Key × V)}, kvs.map (·.1) = ds.map (·.1) → (∀ d ∈ ds, d.2.plain = true) → (∀ (v : V) (d : D), Rp W G v d → d.plain = true → (∃ k, (k, d) ∈ ds) → Dt W.K G v d.py) → RpAll W G (kvs.map (·.2)) (ds.map (·.2)) → DtKv W.K G kvs (pyKv ds)
  | [], kvs, e, _, _, r => by
    cases kvs with
    | nil => exact .nil
    | cons p kvs => cases e
  | (k, d) :: ds, kvs, e, hp, f, r => by
    cases kvs with
    | nil => cases e
    | cons p kvs =>
      obtain ⟨k', v⟩ := p
      have e1 : k' = k := by simpa using (List.cons.inj e).1
      subst e1
      cases r with
      | cons h q =>
        have ih := dt_kv (ds := ds) (kvs := kvs) (List.cons.inj e).2 (fun x hx => hp x (List.mem_cons_of_mem _ hx)) (fun v d r0 p0 ⟨k0, hk⟩ => f v d r0 p0 ⟨k0, List.mem_cons_of_mem _ hk⟩) q
        have h0 := f v d h (hp (k', d) List.mem_cons_self) ⟨k', List.mem_cons_self⟩
        cases k' with
        | inl i => exact .int h0 ih
        | inr x => exact .str h0 ih
theorem plainKv_mem : ∀ {ds : List (Key × D)}, plainKv ds = true → ∀ d ∈ ds, d.2.plain = true
  | [], _, d, h => by cases h
  | (k, x) :: r, h, d, hd => by
    have h : (x.plain && plainKv r) = true := h
    rw [Bool.and_eq_true] at h
    rcases List.mem_cons.mp hd with z | z
    · subst z
      exact h.1
    · exact plainKv_mem h.2 d z
mutual
theorem dt_of {G : Hp} : ∀ (d : D) (v : V), Rp W G v d → d.plain = true → Dt W.K G v d.py
  | .non, _, r, _ => by rw [r.non_inv]; exact .non
  | .bl b, _, r, _ => by rw [r.bl_inv]; exact .bl b
  | .int i, _, r, _ => by rw [r.int_inv]; exact .int i
  | .str x, _, r, _ => by rw [r.str_inv]; exact .str x
  | .lst xs, _, r, h => by
    obtain ⟨a, vs, rfl, hs, ra⟩ := r.lst_inv
    exact .lst (.inl (.inl hs)) (dt_all xs vs ra h)
  | .tup xs, _, r, h => by
    obtain ⟨a, vs, rfl, hs, ra⟩ := r.tup_inv
    exact .tup hs (dt_all xs vs ra h)
  | .dct ds, _, r, h => by
    obtain ⟨a, kvs, rfl, hs, e, ra⟩ := r.dct_inv
    exact .dct hs (dt_kv2 ds kvs e ra h)
  | .ins _ _, _, _, h => nomatch h
  | .ty _, _, _, h => nomatch h
  | .frl _, _, _, h => nomatch h
theorem dt_all {G : Hp} : ∀ (ds : List D) (vs : List V), RpAll W G vs ds → plainAll ds = true → DtAll W.K G vs (pyAll ds)
  | [], _, r, _ => by cases r; exact .nil
  | d :: ds, _, r, h => by
    have h : (d.plain && plainAll ds) = true := h
    rw [Bool.and_eq_true] at h
    cases r with
    | cons r1 r2 => exact .cons (dt_of d _ r1 h.1) (dt_all ds _ r2 h.2)
theorem dt_kv2 {G : Hp} : ∀ (ds : List (Key × D)) (kvs : List (Key × V)), kvs.map (·.1) = ds.map (·.1) → RpAll W G (kvs.map (·.2)) (ds.map (·.2)) → plainKv ds = true → DtKv W.K G kvs (pyKv ds)
  | [], kvs, e, _, _ => by
    cases kvs with
    | nil => exact .nil
    | cons p kvs => cases e
  | (k, d) :: ds, kvs, e, r, h => by
    have hh : (d.plain && plainKv ds) = true := h
    rw [Bool.and_eq_true] at hh
    cases kvs with
    | nil => cases e
    | cons p kvs =>
      obtain ⟨k', v⟩ := p
      have e1 : k' = k := by simpa using (List.cons.inj e).1
      subst e1
      cases r with
      | cons r1 r2 =>
        have ih := dt_kv2 ds kvs (List.cons.inj e).2 r2 hh.2
        have h0 := dt_of d v r1 hh.1
        cases k' with
        | inl i => exact .int h0 ih
        | inr x => exact .str h0 ih
end
/-- what repr may be asked of -/
structure Rok (d : D) : Prop where
  plain : d.plain = true
  tells : tells d.py = true
  show_ : d.py.showable = true
  depth : d.py.depth ≤ 60
  len : d.py.shown.length ≤ sizeLine
theorem ev_repr {tr : TA} (h : EvA W tr env fun ds e1 => ∃ d, ds = [d] ∧ Rok d ∧ R (.str d.py.shown) e1) : Ev W (tCB (rRepr W.K) tr) env R := fun G H σ S Q q =>
  h G H σ S _ fun vs ds G1 H1 e1 S1 T1 r ⟨d, hx, ok, k⟩ => by
    subst hx
    obtain ⟨v, rfl, r0⟩ := rp1 r
    exact ⟨v, d.py, rfl, Dt.up S1.gh _ _ (dt_of d v r0 ok.plain), ok.tells, ok.show_, ok.depth, ok.len, q _ _ G1 H1 e1 S1 T1 (.str _) k⟩

/-! ### methods of texts: s.split(t), s.join(xs) -/
def MetD (W : Wd) (r : V → List V → Hp → VK → Prop) (o : D → D → Option D) : Prop :=
  ∀ (G H : Hp) (x y : V) (dx dy dz : D), Same G H → Rp W G x dx → Rp W G y dy → o dx dy = some dz → ∀ Q : VK, (∀ v G' H', Gr G H G' H' → Rp W G' v dz → Q v H') → r x [y] H Q
theorem ev_m1 {r : V → List V → Hp → VK → Prop} {o : D → D → Option D} (ho : MetD W r o) (h : Ev W ta env fun x e1 => (∃ a, x = .str a) ∧ Ev W tb e1 fun y e2 => ∃ z, o x y = some z ∧ R z e2) : Ev W (tM1 r ta tb) env R := fun G H σ S Q q =>
  h G H σ S _ fun x dx G1 H1 e1 S1 T1 r1 ⟨⟨a, ea⟩, h1⟩ => ⟨by subst ea; exact ⟨a, r1.str_inv⟩, h1 G1 H1 σ S1 _ fun y dy G2 H2 e2 S2 T2 r2 ⟨z, hz, k⟩ =>
    ho G2 H2 x y dx dy z S2.gh (r1.up T2.gg) r2 hz Q fun v G3 H3 g r3 => q v z G3 H3 e2 (S2.up g) ((T1.trans S T2).trans S (Tr.up S2 g)) r3 k⟩
def splitD : D → D → Option D
  | .str a, .str b => if (b.length == 0) = false ∧ a.length + 2 ≤ sizeLine then some (.lst ((Txt.split a b).map D.str)) else none
  | _, _ => none
theorem rp_strs {G : Hp} : ∀ ys : List Str, RpAll W G (ys.map V.str) (ys.map D.str)
  | [] => .nil
  | y :: ys => .cons (.str y) (rp_strs ys)
theorem md_split : MetD W (fun x xs H Q => ∃ a b, x = .str a ∧ xs = [.str b] ∧ (b.length == 0) = false ∧ a.length + 2 ≤ sizeLine ∧ rNewStrs (Txt.split a b) H Q) splitD := by
  intro G H x y dx dy dz e rx ry ho Q q
  cases dx <;> first | (cases ho; done) | skip
  cases dy <;> first | (cases ho; done) | skip
  rename_i a b
  have ho : (if (b.length == 0) = false ∧ a.length + 2 ≤ sizeLine then some (D.lst ((Txt.split a b).map D.str)) else none) = some dz := ho
  split at ho
  · rename_i hz
    cases ho
    rw [rx.str_inv, ry.str_inv]
    refine ⟨a, b, rfl, rfl, hz.1, hz.2, fun p hp => ?_⟩
    obtain ⟨g, rr⟩ := Gr.newL (W := W) e hp (rp_strs (W := W) (G := G) (Txt.split a b))
    exact q _ _ _ g rr
  · cases ho
end
end Nv

set_option Elab.async false
set_option linter.all false
set_option maxRecDepth 100000
set_option maxHeartbeats 4000000
/-! NvX: what a law's own text wants: its defs and constants by name. -/
namespace Nv
open PySem L2 PyProof.Rows PySem.Spec

/-- a def of the text, by its name -/
structure DefAt (K : PySem.W.Frag) (mg : Str → Option Value) (x : Str) (st : Stmt) (ps : List Str) where
  f : Addr
  fd : FuncData
  fn : Fun K x x st f fd
  mg : mg x = some (.ref f)
  bd : Binds K fd ps []
def Const (mg : Str → Option Value) (x : Str) (v : V) : Prop := ∃ u, mg x = some u ∧ RelV v u
theorem pe_const {X : Cx} {x : Str} {v : V} {pos : Pos} (hx : Gl X x) (h : Const X.mg x v) (hd : (x == ("__debug__" : Str)) = false := by decide) : PE X (.Name x pos) (tC v) := by
  obtain ⟨u, h1, h2⟩ := h
  exact pe_glob hx h1 h2 hd
theorem pt_tru {X : Cx} {a : Expr} {ta : TE} (ha : PE X a ta) (he : ∀ whole, isTrue a X.env whole = (do let v ← whole; standAt a.pos; holding [v] (truthy v))) : PT X a (tTru X.K ta) := pt_truth ha he
theorem pip_of {X : Cx} {op : Operator} {r : R2} (h : OpR X (inplaceOp op) r) : PIp X op (fun x y H Q => r x y H Q) := fun pins s σ H x y v u Q I rx ry q => h pins s σ H x y v u Q I rx ry q
/-- name op= e -/
theorem run_aug {W : Wd} {env : List Sl} {P : Post} {j : Nat} {te : TE} {r : R2} {o : D → D → Option D} (ho : OpD W r o) (h : Ev W te env fun y e1 => ∃ x z, e1[j]? = some (.d x) ∧ o x y = some z ∧ P.nx (e1.set j (.d z))) (h0 : ∃ x, env[j]? = some (.d x)) : Run W (tAug j te (fun x y H Q => r x y H Q)) env P := fun G H σ E S n rt b c => by
  obtain ⟨x0, e0⟩ := h0
  obtain ⟨v, ev, rv⟩ := S.ok j _ e0
  refine ⟨v, ev, h G H σ S _ fun w d G1 H1 e1 S1 T1 r1 ⟨x, z, e2, hz, k⟩ => ?_⟩
  obtain ⟨v', ev', rv'⟩ := S1.ok j _ e2
  rw [ev] at ev'
  cases ev'
  refine ho G1 H1 v w x d z S1.gh rv' r1 hz _ fun y G2 H2 g r2 => ?_
  exact n G2 H2 _ _ ((S1.up g).set r2) ((T1.trans S (Tr.up S1 g)).trans S (Tr.set (S1.up g) fun s es => by rw [e2] at es; cases es; rfl)) k
theorem opd_iadd {W : Wd} : OpD W (rI0 fun i j => .int (i + j)) (intD fun i j => some (.int (i + j))) := opd_I0 fun _ _ _ => .int _
end Nv
namespace Nv
open PySem L2 PyProof.Rows PySem.Spec
/-! ### the rules with the written part said (a comprehension's block has its own context, but the same written part) -/
section
variable {X : Cx} {K : PySem.W.Frag}
theorem ka_add (h : X.K = K) : OpR X (binaryOp .Add) (rAddU K) := h ▸ op_addU
theorem ka_in (h : X.K = K) : OpR X (compareOp .In) (rInU K) := h ▸ op_inU
theorem ka_ni (h : X.K = K) : OpR X (compareOp .NotIn) (rNiU K) := h ▸ op_niU
theorem ka_ix (h : X.K = K) : IxR X (rIxU K) := h ▸ ix_U
theorem ka_sl (h : X.K = K) : SlR X (rSlU K) := h ▸ sl_U
theorem ka_len (h : X.K = K) : CallR X (.builtin "len") (rLenU K) := h ▸ cr_lenU
theorem ka_isi (h : X.K = K) : CallR X (.builtin "isinstance") (rIsi K) := h ▸ call_isi
theorem ka_tuple (h : X.K = K) : CallR X (.type "tuple") (fun xs H Q => ∃ p ys, xs = [.ref p] ∧ ((SqL K H p ys ∧ ∀ l, H l = none → Q (.ref l) (upd H l (.tup ys))) ∨ (SqT K H p ys ∧ Q (.ref p) H))) := h ▸ call_tuple_of
theorem ka_list (h : X.K = K) : CallR X (.type "list") (fun xs H Q => ∃ p ys, xs = [.ref p] ∧ (SqL K H p ys ∨ SqT K H p ys) ∧ ∀ l, H l = none → Q (.ref l) (upd H l (.lst ys))) := h ▸ call_list_of
theorem ka_all (hc : X.calm = true) (h : X.K = K) : CallR X (.builtin "all") (rAll K) := h ▸ cr_all hc
theorem ka_repr (hg : X.A.guards = some []) (hu : X.A.units + 64 < cLine) (h : X.K = K) : CallR X (.builtin "repr") (rRepr K) := h ▸ cr_repr hg hu
theorem ka_tru {a : Expr} {ta : TE} (h : X.K = K) (ha : PE X a ta) (he : ∀ whole, isTrue a X.env whole = (do let v ← whole; standAt a.pos; holding [v] (truthy v))) : PT X a (tTru K ta) := h ▸ pt_truth ha he
theorem ka_plist {tg l : Expr} {tl : TE} (h : X.K = K) (hl : PE X l tl) : PI X tg l (iList K tl) := h ▸ pi_list hl
theorem ka_ptup {tg l : Expr} {tl : TE} (h : X.K = K) (hl : PE X l tl) : PI X tg l (iTup K tl) := h ▸ pi_tup hl
end
end Nv

set_option Elab.async false
set_option linter.all false
set_option maxRecDepth 100000
set_option maxHeartbeats 4000000
/-! NvK: dicts of one's own; reading one's own as data from here on. -/
namespace Nv
open PySem L2 PyProof.Rows PySem.Spec

def valD (kvs : List (Key × D)) (k : Key) : Option D := (kvs.find? fun kv => decide (kv.1 = k)).map (·.2)
def putD (kvs : List (Key × D)) (k : Key) (d : D) : List (Key × D) :=
  if (kvs.any fun kv => decide (kv.1 = k)) = true then kvs.map (fun kv => if kv.1 = k then (kv.1, d) else kv) else kvs ++ [(k, d)]
def keyD : D → Option Key
  | .int i => some (.inl i)
  | .str x => some (.inr x)
  | _ => none
section
variable {W : Wd} {G H : Hp}
theorem key_of {v : V} {d : D} {k : Key} (r : Rp W G v d) (h : keyD d = some k) : v = kV k := by
  cases d <;> first | (cases h; done) | skip
  · cases h
    exact r.int_inv
  · cases h
    exact r.str_inv
theorem val_of {k : Key} : ∀ {vs : List (Key × V)} {ds : List (Key × D)}, vs.map (·.1) = ds.map (·.1) → RpAll W G (vs.map (·.2)) (ds.map (·.2)) → ∀ {d : D}, valD ds k = some d → ∃ v, valV vs k = some v ∧ Rp W G v d
  | [], [], _, _, d, h => by cases h
  | [], _ :: _, e, _, _, _ => by cases e
  | _ :: _, [], e, _, _, _ => by cases e
  | (a, v) :: vs, (b, x) :: ds, e, r, d, h => by
    have e1 : a = b := (List.cons.inj e).1
    subst e1
    cases r with
    | cons r0 r1 =>
      by_cases z : a = k
      · have : valD ((a, x) :: ds) k = some x := by simp [valD, List.find?_cons, z]
        rw [this] at h
        cases h
        exact ⟨v, valV_pos z, r0⟩
      · have : valD ((a, x) :: ds) k = valD ds k := by simp [valD, List.find?_cons, z]
        rw [this] at h
        obtain ⟨w, h1, h2⟩ := val_of (List.cons.inj e).2 r1 h
        exact ⟨w, by rw [valV_neg z]; exact h1, h2⟩
theorem any_keys {k : Key} : ∀ {vs : List (Key × V)} {ds : List (Key × D)}, vs.map (·.1) = ds.map (·.1) → (vs.any fun kv => decide (kv.1 = k)) = (ds.any fun kv => decide (kv.1 = k))
  | [], [], _ => rfl
  | [], _ :: _, e => by cases e
  | _ :: _, [], e => by cases e
  | (a, v) :: vs, (b, x) :: ds, e => by
    have e1 : a = b := (List.cons.inj e).1
    subst e1
    rw [List.any_cons, List.any_cons, any_keys (List.cons.inj e).2]
theorem put_map {k : Key} {v : V} {d : D} (rv : Rp W G v d) : ∀ {vs : List (Key × V)} {ds : List (Key × D)}, vs.map (·.1) = ds.map (·.1) → RpAll W G (vs.map (·.2)) (ds.map (·.2)) →
    (vs.map (fun kv => if kv.1 = k then (kv.1, v) else kv)).map (·.1) = (ds.map (fun kv => if kv.1 = k then (kv.1, d) else kv)).map (·.1) ∧ RpAll W G ((vs.map (fun kv => if kv.1 = k then (kv.1, v) else kv)).map (·.2)) ((ds.map (fun kv => if kv.1 = k then (kv.1, d) else kv)).map (·.2))
  | [], [], _, _ => ⟨rfl, .nil⟩
  | [], _ :: _, e, _ => by cases e
  | _ :: _, [], e, _ => by cases e
  | (a, w) :: vs, (b, x) :: ds, e, r => by
    have e1 : a = b := (List.cons.inj e).1
    subst e1
    cases r with
    | cons r0 r1 =>
      obtain ⟨h1, h2⟩ := put_map (k := k) rv (List.cons.inj e).2 r1
      by_cases z : a = k
      · refine ⟨?_, ?_⟩
        · simp only [List.map_cons, z, if_true]
          exact congrArg _ h1
        · simp only [List.map_cons, z, if_true]
          exact .cons rv h2
      · refine ⟨?_, ?_⟩
        · simp only [List.map_cons, z, if_false]
          exact congrArg _ h1
        · simp only [List.map_cons, z, if_false]
          exact .cons r0 h2
theorem put_of {k : Key} {v : V} {d : D} {vs : List (Key × V)} {ds : List (Key × D)} (rv : Rp W G v d) (e : vs.map (·.1) = ds.map (·.1)) (r : RpAll W G (vs.map (·.2)) (ds.map (·.2))) :
    (putK vs k v).map (·.1) = (putD ds k d).map (·.1) ∧ RpAll W G ((putK vs k v).map (·.2)) ((putD ds k d).map (·.2)) := by
  unfold putK putD
  rw [any_keys (k := k) e]
  split
  · exact put_map rv e r
  · rw [List.map_append, List.map_append, List.map_append, List.map_append, e]
    exact ⟨rfl, r.append (.cons rv .nil)⟩
end
def Sl.dict : Sl → Option (List (Key × D))
  | .od kvs => some kvs
  | .pd kvs => some kvs
  | _ => none
def Sl.dictTo : Sl → List (Key × D) → Sl
  | .pd _, kvs => .pd kvs
  | _, kvs => .od kvs
section
variable {W : Wd} {G H : Hp} {σ : L2.St} {env : List Sl}
theorem OkS.dict {ov : Option (Option V)} {s : Sl} {kvs : List (Key × D)} (h : OkS W G H ov s) (e : s.dict = some kvs) : ∃ l vs, ov = some (some (.ref l)) ∧ G l = none ∧ H l = some (.dK vs) ∧ vs.map (·.1) = kvs.map (·.1) ∧ RpAll W G (vs.map (·.2)) (kvs.map (·.2)) := by
  cases s <;> first | (cases e; done) | skip
  all_goals
    cases e
    exact h
theorem dict_owned {s : Sl} {kvs : List (Key × D)} (e : s.dict = some kvs) : s.owned = true := by
  cases s <;> first | rfl | cases e
/-- d[k], d one's own -/
theorem ev_dget {ty : TE} {i : Nat} {R : D → List Sl → Prop} (h0 : ∃ s kvs, env[i]? = some s ∧ s.dict = some kvs) (h : Ev W ty env fun y e1 => ∃ s kvs k d, e1[i]? = some s ∧ s.dict = some kvs ∧ keyD y = some k ∧ valD kvs k = some d ∧ R d e1) : Ev W (tDGet (tVar i) ty) env R := fun G H σ S Q q => by
  obtain ⟨s0, kv0, e0, d0⟩ := h0
  obtain ⟨p, _, ev, _⟩ := (S.ok i _ e0).dict d0
  refine ⟨.ref p, ev, h G H σ S _ fun y dy G1 H1 e1 S1 T1 ry ⟨s, kvs, k, d, e, sd, hk, hv, hr⟩ => ?_⟩
  obtain ⟨p', vs, ev', g1, h1, ke, ra⟩ := (S1.ok i _ e).dict sd
  rw [ev] at ev'
  cases ev'
  obtain ⟨v, z1, z2⟩ := val_of ke ra hv
  exact ⟨p, v, rfl, .inl ⟨vs, k, .inl h1, key_of ry hk, z1.symm⟩, q v d G1 H1 e1 S1 T1 z2 hr⟩
/-- d[k] = v, d one's own -/
theorem run_dput {ty tv : TE} {i : Nat} {P : Post} (h : Ev W tv env fun d e1 => (∃ s kvs, e1[i]? = some s ∧ s.dict = some kvs) ∧ Ev W ty e1 fun y e2 => e2 = e1 ∧ ∃ s kvs k, e1[i]? = some s ∧ s.dict = some kvs ∧ keyD y = some k ∧ kvs.length < sizeLine ∧ P.nx (e1.set i (s.dictTo (putD kvs k d)))) : Run W (sDPut (tVar i) ty tv) env P := fun G H σ E S n r b c =>
  h G H σ S _ fun v d G1 H1 e1 S1 T1 rv ⟨⟨s0, kv0, e0, d0⟩, h1⟩ => by
    obtain ⟨p, _, ev, _⟩ := (S1.ok i _ e0).dict d0
    refine ⟨.ref p, ev, h1 G1 H1 σ S1 _ fun y dy G2 H2 e2 S2 T2 ry ⟨z, s, kvs, k, e, sd, hk, hl, hn⟩ => ?_⟩
    subst z
    obtain ⟨p', vs, ev', g2, h2, ke, ra⟩ := (S2.ok i _ e).dict sd
    rw [ev] at ev'
    cases ev'
    have lv : vs.length = kvs.length := by
      have := congrArg List.length ke
      simpa using this
    obtain ⟨z1, z2⟩ := put_of (k := k) (rv.up T2.gg) ke ra
    have os := dict_owned sd
    refine ⟨p, upd H2 p (.dK (putK vs k v)), rfl, .inl ⟨vs, k, h2, key_of ry hk, by rw [lv]; exact hl, rfl⟩, n G2 _ σ _ (S2.chg (o := .dK (putK vs k v)) e os ev ?_) ((T1.trans S T2).trans S (Tr.chg S2 e os ev ?_)) hn⟩
    · cases s <;> first | (cases sd; done) | skip
      all_goals exact ⟨p, _, rfl, g2, upd_same, z1, z2⟩
    · cases s <;> first | (cases sd; done) | skip
      all_goals
        intro y
        first | rfl | cases y

/-- one's own is data from here on -/
def Sl.data : Sl → Option D
  | .d x => some x
  | .ol xs => some (.lst xs)
  | .od kvs => some (.dct kvs)
  | _ => none
theorem own_low {i : Nat} {x : D} {b : Addr} {σ : L2.St} {env : List Sl} : own σ (env.set i (.d x)) b → own σ env b := fun ⟨k, t, f, q, v⟩ => by
  by_cases z : i = k
  · subst z
    by_cases hl : i < env.length
    · rw [List.getElem?_set_self hl] at f
      cases f
      cases q
    · rw [List.getElem?_eq_none (by rw [List.length_set]; omega)] at f
      cases f
  · rw [List.getElem?_set_ne z] at f
    exact ⟨k, t, f, q, v⟩
theorem St.fz (S : St W G H σ env) {i : Nat} {l : Addr} {o : HO} {x : D} {s : Sl} (e : env[i]? = some s) (ow : s.owned = true) (np : s.pinned = false) (ev : σ[i]? = some (some (.ref l))) (hh : H l = some o) (g : G l = none) (rx : Rp W (upd G l o) (.ref l) x) :
    St W (upd G l o) H σ (env.set i (.d x)) ∧ Tr σ env G H σ (env.set i (.d x)) (upd G l o) H := by
  have il : i < env.length := (List.getElem?_eq_some_iff.mp e).1
  have gg : Same G (upd G l o) := fun b u z => by
    rw [upd_ne (ne_of_none z g)]
    exact z
  have S0 : St W G H σ (env.set i .no) := by
    refine ⟨S.gh, by rw [List.length_set]; exact S.len, fun k t f => ?_, fun a b s1 t1 m e1 o1 v1 e2 o2 v2 => ?_⟩
    · by_cases z : i = k
      · subst z
        rw [List.getElem?_set_self il] at f
        cases f
        exact trivial
      · rw [List.getElem?_set_ne z] at f
        exact S.ok k t f
    · have was : ∀ {k : Nat} {t : Sl}, (env.set i .no)[k]? = some t → t.owned = true → env[k]? = some t := fun {k t} f q => by
        by_cases z : i = k
        · subst z
          rw [List.getElem?_set_self il] at f
          cases f
          cases q
        · rw [List.getElem?_set_ne z] at f
          exact f
      exact S.ds a b s1 t1 m (was e1 o1) o1 v1 (was e2 o2) o2 v2
  have no : ¬ own σ (env.set i .no) l := fun ⟨k, t, f, q, v⟩ => by
    by_cases z : i = k
    · subst z
      rw [List.getElem?_set_self il] at f
      cases f
      cases q
    · rw [List.getElem?_set_ne z] at f
      exact z (S.ds i k _ t l e ow ev f q v)
  have S1 : St W (upd G l o) H σ ((env.set i .no).set i (.d x)) := by
    have q := (S0.freeze hh g no).set (j := i) rx
    have es : σ.set i (some (.ref l)) = σ := by
      apply List.ext_getElem?
      intro k
      by_cases z : i = k
      · subst z
        rw [List.getElem?_set_self (by rw [S.len]; exact il), ev]
      · rw [List.getElem?_set_ne z]
    rw [es] at q
    exact q
  rw [List.set_set] at S1
  have T := Tr.refl S1
  refine ⟨S1, gg, fun b u _ h0 => h0, fun b m n0 h0 => ?_, fun b z => .inl (own_low z), fun _ h => h, fun k t f q => ?_⟩
  · rw [upd_ne (fun z => m (by subst z; exact ⟨i, _, e, ow, ev⟩))]
    exact h0
  · have z : i ≠ k := fun y => by
      subst y
      rw [e] at f
      cases f
      rw [np] at q
      cases q
    exact ⟨rfl, t, by rw [List.getElem?_set_ne z]; exact f, q⟩
/-- a name, as data -/
theorem ev_varD {i : Nat} {s : Sl} {x : D} {R : D → List Sl → Prop} (e : env[i]? = some s) (hs : s.data = some x) (k : R x (env.set i (.d x))) : Ev W (tVar i) env R := fun G H σ S Q q => by
  cases s with
  | no => cases hs
  | pl xs => cases hs
  | pd kvs => cases hs
  | d y =>
    cases hs
    obtain ⟨v, ev, r⟩ := S.ok i _ e
    have es : env.set i (.d x) = env := by
      apply List.ext_getElem?
      intro k
      by_cases z : i = k
      · subst z
        rw [List.getElem?_set_self (List.getElem?_eq_some_iff.mp e).1, e]
      · rw [List.getElem?_set_ne z]
    rw [es] at k
    exact ⟨v, ev, q v x G H env S (Tr.refl S) r k⟩
  | ol xs =>
    cases hs
    obtain ⟨l, vs, ev, g, hh, ra⟩ := S.ok i _ e
    have gg : Same G (upd G l (.lst vs)) := fun b u z => by
      rw [upd_ne (ne_of_none z g)]
      exact z
    have rx : Rp W (upd G l (.lst vs)) (.ref l) (.lst xs) := .lst upd_same (ra.up gg)
    obtain ⟨S1, T1⟩ := S.fz e rfl rfl ev hh g rx
    exact ⟨_, ev, q _ _ _ H _ S1 T1 rx k⟩
  | od kvs =>
    cases hs
    obtain ⟨l, vs, ev, g, hh, ke, ra⟩ := S.ok i _ e
    have gg : Same G (upd G l (.dK vs)) := fun b u z => by
      rw [upd_ne (ne_of_none z g)]
      exact z
    have rx : Rp W (upd G l (.dK vs)) (.ref l) (.dct kvs) := .dct (.inl upd_same) ke (ra.up gg)
    obtain ⟨S1, T1⟩ := S.fz e rfl rfl ev hh g rx
    exact ⟨_, ev, q _ _ _ H _ S1 T1 rx k⟩
end
end Nv

set_option Elab.async false
set_option linter.all false
set_option maxRecDepth 100000
set_option maxHeartbeats 4000000
/-! NvM: mirrors. A mirror is a function over the slots' data; a term of rules is told by its mirror. -/
namespace Nv
open PySem L2 PyProof.Rows PySem.Spec

abbrev Env := List Sl
abbrev M (α : Type) := Env → Option (α × Env)
inductive Out where
  | nx | rt (d : D) | bk | ct
abbrev MS := M Out
def Post.hit (P : Post) : Out → Env → Prop
  | .nx, e => P.nx e
  | .rt d, e => P.rt d e
  | .bk, e => P.bk e
  | .ct, e => P.ct e
def SimE (W : Wd) (te : TE) (m : M D) : Prop := ∀ env R d e1, m env = some (d, e1) → R d e1 → Ev W te env R
def SimF (W : Wd) (te : TE) (m : M (List D)) : Prop := ∀ env R d e1, m env = some (d, e1) → R d e1 → EvF W te env R
def SimT (W : Wd) (tt : TT) (m : M Bool) : Prop := ∀ env R b e1, m env = some (b, e1) → R b e1 → EvT W tt env R
def SimA (W : Wd) (ta : TA) (m : M (List D)) : Prop := ∀ env R ds e1, m env = some (ds, e1) → R ds e1 → EvA W ta env R
def SimI (W : Wd) (wi : TI) (m : M (List D)) : Prop := ∀ env R ds e1, m env = some (ds, e1) → R ds e1 → EvI W wi env R
def SimO (W : Wd) (to : TO) (m : M (Option Int)) : Prop := ∀ env R o e1, m env = some (o, e1) → R o e1 → EvO W to env R
def SimS (W : Wd) (ts : TS) (m : MS) : Prop := ∀ env P o e1, m env = some (o, e1) → Post.hit P o e1 → Run W ts env P
def SimG (W : Wd) (g : TG) (m : D → Env → Option Env) : Prop := ∀ d env R e1, m d env = some e1 → R e1 → Tg W g d env R

/-! ### expressions -/
def mC (d : D) : M D := fun e => some (d, e)
def mVar (i : Nat) : M D := fun e => (e[i]?).bind fun s => s.data.bind fun x => some (x, e.set i (.d x))
def mOp (o : D → D → Option D) (a b : M D) : M D := fun e => (a e).bind fun p => (b p.2).bind fun q => (o p.1 q.1).bind fun z => some (z, q.2)
def mUn (o : D → Option D) (a : M D) : M D := fun e => (a e).bind fun p => (o p.1).bind fun z => some (z, p.2)
def mNil : M (List D) := fun e => some ([], e)
def mCons (a : M D) (r : M (List D)) : M (List D) := fun e => (a e).bind fun p => (r p.2).bind fun q => some (p.1 :: q.1, q.2)
def mCb (o : List D → Option D) (r : M (List D)) : M D := fun e => (r e).bind fun p => (o p.1).bind fun z => some (z, p.2)
def isBl : D → Option Bool
  | .bl b => some b
  | _ => none
def isInt : D → Option Int
  | .int b => some b
  | _ => none
def isLst : D → Option (List D)
  | .lst b => some b
  | _ => none
def isTup : D → Option (List D)
  | .tup b => some b
  | _ => none
def isStr : D → Option Str
  | .str b => some b
  | _ => none
def mBl (a : M D) : M Bool := fun e => (a e).bind fun p => (isBl p.1).bind fun b => some (b, p.2)
def mTru (a : M D) : M Bool := fun e => (a e).bind fun p => (truD p.1).bind fun b => some (b, p.2)
def mNot (a : M Bool) : M Bool := fun e => (a e).bind fun p => some (!p.1, p.2)
def mAnd (a b : M Bool) : M Bool := fun e => (a e).bind fun p => if p.1 = true then b p.2 else some (false, p.2)
def mOr (a b : M Bool) : M Bool := fun e => (a e).bind fun p => if p.1 = true then some (true, p.2) else b p.2
def mIf {α : Type} (t : M Bool) (a b : M α) : M α := fun e => (t e).bind fun p => if p.1 = true then a p.2 else b p.2
def mAndV (a b : M D) : M D := fun e => (a e).bind fun p => (isBl p.1).bind fun x => if x = true then b p.2 else some (.bl false, p.2)
def mOrV (a b : M D) : M D := fun e => (a e).bind fun p => (isBl p.1).bind fun x => if x = true then some (.bl true, p.2) else b p.2
def mNotV (a : M D) : M D := fun e => (a e).bind fun p => (isBl p.1).bind fun x => some (.bl (!x), p.2)
def mChain (o o' : D → D → Option D) (a b c : M D) : M D := fun e => (a e).bind fun p => (b p.2).bind fun q => (o p.1 q.1).bind fun z => (isBl z).bind fun x =>
  if x = true then (c q.2).bind fun r => (o' q.1 r.1).bind fun y => some (y, r.2) else some (.bl false, q.2)
def mSz (r : M (List D)) : M (List D) := fun e => (r e).bind fun p => if p.1.length ≤ sizeLine then some p else none
def mLst (r : M (List D)) : M D := fun e => (r e).bind fun p => some (.lst p.1, p.2)
def mTup (r : M (List D)) : M D := fun e => (mSz r e).bind fun p => some (.tup p.1, p.2)
def kindOk (d : D) : Bool := match d with
  | .ins _ _ => false
  | .ty _ => false
  | .frl _ => false
  | _ => true
def mIs (p : D → Bool) (a : M D) : M D := fun e => (a e).bind fun q => if kindOk q.1 = true then some (.bl (p q.1), q.2) else none
def mONone : M (Option Int) := fun e => some (none, e)
def mOSome (a : M D) : M (Option Int) := fun e => (a e).bind fun p => (isInt p.1).bind fun i => some (some i, p.2)
def mSl (a : M D) (lo hi : M (Option Int)) : M D := fun e => (a e).bind fun p => (lo p.2).bind fun q => (hi q.2).bind fun r => (slD p.1 q.1 r.1).bind fun z => some (z, r.2)
def mM1 (o : D → D → Option D) (a b : M D) : M D := fun e => (a e).bind fun p => (isStr p.1).bind fun _ => (b p.2).bind fun q => (o p.1 q.1).bind fun z => some (z, q.2)

section
variable {W : Wd} {ta tb tc te : TE} {ma mb mc me : M D} {t u : TT} {mt mu : M Bool} {tr : TA} {mr : M (List D)}
/-- the inversion of a row of binds -/
theorem bind_of {α β : Type} {o : Option (α × Env)} {f : α × Env → Option β} {z : β} (h : o.bind f = some z) : ∃ x e, o = some (x, e) ∧ f (x, e) = some z := by
  cases o with
  | none => cases h
  | some p => exact ⟨p.1, p.2, rfl, h⟩
theorem bind_of' {α β : Type} {o : Option α} {f : α → Option β} {z : β} (h : o.bind f = some z) : ∃ x, o = some x ∧ f x = some z := by
  cases o with
  | none => cases h
  | some p => exact ⟨p, rfl, h⟩
theorem isBl_of {d : D} {b : Bool} (h : isBl d = some b) : d = .bl b := by cases d <;> cases h; rfl
theorem isInt_of {d : D} {b : Int} (h : isInt d = some b) : d = .int b := by cases d <;> cases h; rfl
theorem isStr_of {d : D} {b : Str} (h : isStr d = some b) : d = .str b := by cases d <;> cases h; rfl
theorem isLst_of {d : D} {b : List D} (h : isLst d = some b) : d = .lst b := by cases d <;> cases h; rfl
theorem isTup_of {d : D} {b : List D} (h : isTup d = some b) : d = .tup b := by cases d <;> cases h; rfl
theorem se_c {v : V} {d : D} (h : ∀ G, Rp W G v d) : SimE W (tC v) (mC d) := fun env R x e1 hm hr => by cases hm; exact ev_c h hr
theorem se_int {i : Int} : SimE W (tC (.int i)) (mC (.int i)) := se_c fun _ => .int i
theorem se_str {x : Str} : SimE W (tC (.str x)) (mC (.str x)) := se_c fun _ => .str x
theorem se_bl {b : Bool} : SimE W (tC (.bl b)) (mC (.bl b)) := se_c fun _ => .bl b
theorem se_non : SimE W (tC .non) (mC .non) := se_c fun _ => .non
theorem se_ty {n : String} : SimE W (tC (.ty n)) (mC (.ty n)) := se_c fun _ => .ty n
theorem se_var {i : Nat} : SimE W (tVar i) (mVar i) := fun env R x e1 hm hr => by
  obtain ⟨s, hs, hm⟩ := bind_of' hm
  obtain ⟨y, hy, hm⟩ := bind_of' hm
  cases hm
  exact ev_varD hs hy hr
theorem se_op {r : R2} {o : D → D → Option D} (ho : OpD W r o) (ha : SimE W ta ma) (hb : SimE W tb mb) : SimE W (tOp r ta tb) (mOp o ma mb) := fun env R d e1 hm hr => by
  obtain ⟨x, e2, h1, hm⟩ := bind_of hm
  obtain ⟨y, e3, h2, hm⟩ := bind_of hm
  obtain ⟨z, h3, hm⟩ := bind_of' hm
  cases hm
  exact ev_op ho (ha _ _ _ _ h1 (hb _ _ _ _ h2 ⟨_, h3, hr⟩))
theorem se_un {r : V → Hp → VK → Prop} {o : D → Option D} (ho : UnD W r o) (ha : SimE W ta ma) : SimE W (tUn r ta) (mUn o ma) := fun env R d e1 hm hr => by
  obtain ⟨x, e2, h1, hm⟩ := bind_of hm
  obtain ⟨z, h3, hm⟩ := bind_of' hm
  cases hm
  exact ev_un ho (ha _ _ _ _ h1 ⟨_, h3, hr⟩)
theorem sa_nil : SimA W tNil mNil := fun env R x e1 hm hr => by cases hm; exact ea_nil hr
theorem sa_cons (ha : SimE W ta ma) (h : SimA W tr mr) : SimA W (tCons ta tr) (mCons ma mr) := fun env R d e1 hm hr => by
  obtain ⟨x, e2, h1, hm⟩ := bind_of hm
  obtain ⟨y, e3, h2, hm⟩ := bind_of hm
  cases hm
  exact ea_cons (ha _ _ _ _ h1 (h _ _ _ _ h2 hr))
theorem se_cb {r : List V → Hp → VK → Prop} {o : List D → Option D} (ho : CallD W r o) (h : SimA W tr mr) : SimE W (tCB r tr) (mCb o mr) := fun env R d e1 hm hr => by
  obtain ⟨x, e2, h1, hm⟩ := bind_of hm
  obtain ⟨z, h3, hm⟩ := bind_of' hm
  cases hm
  exact ev_cb ho (h _ _ _ _ h1 ⟨_, h3, hr⟩)
theorem sf_lst (h : SimA W tr mr) : SimF W (tLst tr) (mSz mr) := fun env R d e1 hm hr => by
  obtain ⟨x, e2, h1, hm⟩ := bind_of hm
  split at hm
  · rename_i hz
    cases hm
    exact evf_lst (h _ _ _ _ h1 ⟨hz, hr⟩)
  · cases hm
theorem se_f {m : M (List D)} (h : SimF W te m) : SimE W te (mLst m) := fun env R d e1 hm hr => by
  obtain ⟨x, e2, h1, hm⟩ := bind_of hm
  cases hm
  exact ev_f (h _ _ _ _ h1 hr)
theorem se_tup (h : SimA W tr mr) : SimE W (tTup tr) (mTup mr) := fun env R d e1 hm hr => by
  obtain ⟨x, e2, h1, hm⟩ := bind_of hm
  obtain ⟨x', e2', h1, hm'⟩ := bind_of h1
  cases hm
  split at hm'
  · rename_i hz
    cases hm'
    exact ev_tup (h _ _ _ _ h1 ⟨hz, hr⟩)
  · cases hm'
theorem kindOk_of {d : D} (h : kindOk d = true) : kindD d ≠ "" := by
  cases d <;> first | (cases h; done) | (intro z; exact absurd (show (_ : String) = "" from z) (by simp [kindD]))
theorem se_is {T : String} {p : D → Bool} (k : IsK T p) (ha : SimE W te ma) : SimE W (tCB (rIsi W.K) (tCons te (tCons (tC (.ty T)) tNil))) (mIs p ma) := fun env R d e1 hm hr => by
  obtain ⟨x, e2, h1, hm⟩ := bind_of hm
  split at hm
  · rename_i hz
    cases hm
    exact ev_isT k (ha _ _ _ _ h1 ⟨kindOk_of hz, hr⟩)
  · cases hm
/-! tests -/
theorem st_test (ha : SimE W te ma) : SimT W (tTest te) (mBl ma) := fun env R d e1 hm hr => by
  obtain ⟨x, e2, h1, hm⟩ := bind_of hm
  obtain ⟨z, h3, hm⟩ := bind_of' hm
  cases hm
  exact et_test (ha _ _ _ _ h1 ⟨_, isBl_of h3, hr⟩)
theorem st_B (ha : SimE W te ma) : SimT W (tB te) (mBl ma) := fun env R d e1 hm hr => by
  obtain ⟨x, e2, h1, hm⟩ := bind_of hm
  obtain ⟨z, h3, hm⟩ := bind_of' hm
  cases hm
  exact et_B (ha _ _ _ _ h1 ⟨_, isBl_of h3, hr⟩)
theorem st_tru (ha : SimE W te ma) : SimT W (tTru W.K te) (mTru ma) := fun env R d e1 hm hr => by
  obtain ⟨x, e2, h1, hm⟩ := bind_of hm
  obtain ⟨z, h3, hm⟩ := bind_of' hm
  cases hm
  exact et_tru (ha _ _ _ _ h1 ⟨_, h3, hr⟩)
theorem st_not (ha : SimT W t mt) : SimT W (tNot t) (mNot mt) := fun env R d e1 hm hr => by
  obtain ⟨x, e2, h1, hm⟩ := bind_of hm
  cases hm
  exact et_not (ha _ _ _ _ h1 hr)
theorem st_and (ha : SimT W t mt) (hb : SimT W u mu) : SimT W (tAnd t u) (mAnd mt mu) := fun env R d e1 hm hr => by
  obtain ⟨x, e2, h1, hm⟩ := bind_of hm
  refine et_and (ha _ _ _ _ h1 ?_)
  cases x with
  | true => exact hb _ _ _ _ hm hr
  | false => cases hm; exact hr
theorem st_or (ha : SimT W t mt) (hb : SimT W u mu) : SimT W (tOr t u) (mOr mt mu) := fun env R d e1 hm hr => by
  obtain ⟨x, e2, h1, hm⟩ := bind_of hm
  refine et_or (ha _ _ _ _ h1 ?_)
  cases x with
  | false => exact hb _ _ _ _ hm hr
  | true => cases hm; exact hr
theorem se_if (ht : SimT W t mt) (ha : SimE W ta ma) (hb : SimE W tb mb) : SimE W (tIf t ta tb) (mIf mt ma mb) := fun env R d e1 hm hr => by
  obtain ⟨x, e2, h1, hm⟩ := bind_of hm
  refine ev_if (ht _ _ _ _ h1 ?_)
  cases x with
  | false => exact hb _ _ _ _ hm hr
  | true => exact ha _ _ _ _ hm hr
theorem se_andV (ha : SimE W ta ma) (hb : SimE W tb mb) : SimE W (tAndV ta tb) (mAndV ma mb) := fun env R d e1 hm hr => by
  obtain ⟨x, e2, h1, hm⟩ := bind_of hm
  obtain ⟨z, h3, hm⟩ := bind_of' hm
  refine ev_andV (ha _ _ _ _ h1 ⟨z, isBl_of h3, ?_⟩)
  cases z with
  | true => exact hb _ _ _ _ hm hr
  | false => cases hm; exact hr
theorem se_orV (ha : SimE W ta ma) (hb : SimE W tb mb) : SimE W (tOrV ta tb) (mOrV ma mb) := fun env R d e1 hm hr => by
  obtain ⟨x, e2, h1, hm⟩ := bind_of hm
  obtain ⟨z, h3, hm⟩ := bind_of' hm
  refine ev_orV (ha _ _ _ _ h1 ⟨z, isBl_of h3, ?_⟩)
  cases z with
  | false => exact hb _ _ _ _ hm hr
  | true => cases hm; exact hr
theorem se_notV (ha : SimE W ta ma) : SimE W (tNotV ta) (mNotV ma) := fun env R d e1 hm hr => by
  obtain ⟨x, e2, h1, hm⟩ := bind_of hm
  obtain ⟨z, h3, hm⟩ := bind_of' hm
  cases hm
  exact ev_notV (ha _ _ _ _ h1 ⟨z, isBl_of h3, hr⟩)
theorem se_chain {r r' : R2} {o o' : D → D → Option D} (ho : OpD W r o) (ho' : OpD W r' o') (ha : SimE W ta ma) (hb : SimE W tb mb) (hc : SimE W tc mc) : SimE W (tChain r r' ta tb tc) (mChain o o' ma mb mc) := fun env R d e1 hm hr => by
  obtain ⟨x, e2, h1, hm⟩ := bind_of hm
  obtain ⟨y, e3, h2, hm⟩ := bind_of hm
  obtain ⟨z, h3, hm⟩ := bind_of' hm
  obtain ⟨b, h4, hm⟩ := bind_of' hm
  refine ev_chain ho ho' (ha _ _ _ _ h1 (hb _ _ _ _ h2 ⟨b, by rw [h3, isBl_of h4], ?_⟩))
  cases b with
  | false => cases hm; exact hr
  | true =>
    obtain ⟨w, e4, h5, hm⟩ := bind_of (show ((mc e3).bind fun r => (o' y r.1).bind fun y => some (y, r.2)) = some (d, e1) from hm)
    obtain ⟨q, h6, hm⟩ := bind_of' hm
    cases hm
    exact hc _ _ _ _ h5 ⟨_, h6, hr⟩
/-! slices, methods of texts -/
theorem so_none : SimO W tNoPart mONone := fun env R x e1 hm hr => by cases hm; exact eo_none hr
theorem so_some (ha : SimE W te ma) : SimO W (tPart te) (mOSome ma) := fun env R d e1 hm hr => by
  obtain ⟨x, e2, h1, hm⟩ := bind_of hm
  obtain ⟨z, h3, hm⟩ := bind_of' hm
  cases hm
  exact eo_some (ha _ _ _ _ h1 ⟨z, isInt_of h3, hr⟩)
theorem se_sl {tl th : TO} {ml mh : M (Option Int)} (ha : SimE W ta ma) (hl : SimO W tl ml) (hh : SimO W th mh) : SimE W (tSl (rSlU W.K) ta tl th) (mSl ma ml mh) := fun env R d e1 hm hr => by
  obtain ⟨x, e2, h1, hm⟩ := bind_of hm
  obtain ⟨y, e3, h2, hm⟩ := bind_of hm
  obtain ⟨w, e4, h3, hm⟩ := bind_of hm
  obtain ⟨z, h4, hm⟩ := bind_of' hm
  cases hm
  exact ev_sl (ha _ _ _ _ h1 (hl _ _ _ _ h2 (hh _ _ _ _ h3 ⟨_, h4, hr⟩)))
theorem se_m1 {r : V → List V → Hp → VK → Prop} {o : D → D → Option D} (ho : MetD W r o) (ha : SimE W ta ma) (hb : SimE W tb mb) : SimE W (tM1 r ta tb) (mM1 o ma mb) := fun env R d e1 hm hr => by
  obtain ⟨x, e2, h1, hm⟩ := bind_of hm
  obtain ⟨a, h2, hm⟩ := bind_of' hm
  obtain ⟨y, e3, h3, hm⟩ := bind_of hm
  obtain ⟨z, h4, hm⟩ := bind_of' hm
  cases hm
  exact ev_m1 ho (ha _ _ _ _ h1 ⟨⟨a, isStr_of h2⟩, hb _ _ _ _ h3 ⟨_, h4, hr⟩⟩)

/-! ### what is walked -/
def mIList (a : M D) : M (List D) := fun e => (a e).bind fun p => (isLst p.1).bind fun xs => some (xs, p.2)
def mITup (a : M D) : M (List D) := fun e => (a e).bind fun p => (isTup p.1).bind fun xs => some (xs, p.2)
def mIStr (a : M D) : M (List D) := fun e => (a e).bind fun p => (isStr p.1).bind fun z => some (signs z, p.2)
def rngD : List D → Option (List D)
  | [.int n] => if -(2 ^ 62) ≤ n ∧ n < 2 ^ 62 then some (upto n.toNat) else none
  | _ => none
def mIRng (a : M (List D)) : M (List D) := fun e => (a e).bind fun p => (rngD p.1).bind fun z => some (z, p.2)
theorem rng_of {x z : List D} (h : rngD x = some z) : ∃ n : Int, x = [.int n] ∧ -(2 ^ 62) ≤ n ∧ n < 2 ^ 62 ∧ z = upto n.toNat := by
  unfold rngD at h
  split at h
  · split at h
    · rename_i hz
      cases h
      exact ⟨_, rfl, hz.1, hz.2, rfl⟩
    · cases h
  · cases h
theorem si_list (ha : SimE W te ma) : SimI W (iList W.K te) (mIList ma) := fun env R d e1 hm hr => by
  obtain ⟨x, e2, h1, hm⟩ := bind_of hm
  obtain ⟨z, h3, hm⟩ := bind_of' hm
  cases hm
  exact ei_list (ha _ _ _ _ h1 ⟨_, isLst_of h3, hr⟩)
theorem si_tup (ha : SimE W te ma) : SimI W (iTup W.K te) (mITup ma) := fun env R d e1 hm hr => by
  obtain ⟨x, e2, h1, hm⟩ := bind_of hm
  obtain ⟨z, h3, hm⟩ := bind_of' hm
  cases hm
  exact ei_tup (ha _ _ _ _ h1 ⟨_, isTup_of h3, hr⟩)
theorem si_str (ha : SimE W te ma) : SimI W (iStr te) (mIStr ma) := fun env R d e1 hm hr => by
  obtain ⟨x, e2, h1, hm⟩ := bind_of hm
  obtain ⟨z, h3, hm⟩ := bind_of' hm
  cases hm
  exact ei_str (ha _ _ _ _ h1 ⟨_, isStr_of h3, hr⟩)
theorem si_rng (ha : SimA W tr mr) : SimI W (iRng1 tr) (mIRng mr) := fun env R d e1 hm hr => by
  obtain ⟨x, e2, h1, hm⟩ := bind_of hm
  obtain ⟨z, h3, hm⟩ := bind_of' hm
  cases hm
  refine ei_rng (ha _ _ _ _ h1 ?_)
  obtain ⟨n, rfl, h4, h5, rfl⟩ := rng_of h3
  exact ⟨_, rfl, h4, h5, hr⟩
/-! ### a comprehension -/
def lcGo (j : Nat) (t : M Bool) (m : M D) : List D → List D → M (List D)
  | [], acc, e => some (acc, e)
  | d :: ds, acc, e => (t (e.set j (.d d))).bind fun p => if p.1 = true then (m p.2).bind fun q => if acc.length < sizeLine then lcGo j t m ds (acc ++ [q.1]) (q.2.set j .no) else none else lcGo j t m ds acc (p.2.set j .no)
def isNo : Sl → Bool
  | .no => true
  | _ => false
def mLc (it : M (List D)) (t : M Bool) (m : M D) (j : Nat) : M (List D) := fun e => (it e).bind fun p => if (p.2[j]?).any isNo = true then lcGo j t m p.1 [] p.2 else none
theorem cmpR_of {tt : TT} {mt : M Bool} (ht : SimT W tt mt) (hm : SimE W te me) {j : Nat} {R : List D → Env → Prop} : ∀ (ds acc : List D) (env : Env) (r : List D) (e1 : Env), lcGo j mt me ds acc env = some (r, e1) → R r e1 → CmpR W j tt te R ds acc env
  | [], acc, env, r, e1, h, k => by cases h; exact k
  | d :: ds, acc, env, r, e1, h, k => by
    obtain ⟨x, e2, h1, h⟩ := bind_of h
    refine ht _ _ _ _ h1 ?_
    cases x with
    | false => exact cmpR_of ht hm ds acc _ r e1 h k
    | true =>
      obtain ⟨y, e3, h2, h⟩ := bind_of (show ((me e2).bind fun q => if acc.length < sizeLine then lcGo j mt me ds (acc ++ [q.1]) (q.2.set j .no) else none) = some (r, e1) from h)
      refine hm _ _ _ _ h2 ?_
      split at h
      · rename_i hz
        exact ⟨hz, cmpR_of ht hm ds _ _ r e1 h k⟩
      · cases h
theorem sf_lc {wi : TI} {mi : M (List D)} {tt : TT} {mt : M Bool} {j : Nat} (hi : SimI W wi mi) (ht : SimT W tt mt) (hm : SimE W te me) : SimF W (tLc wi (gName j) tt te [j]) (mLc mi mt me j) := fun env R d e1 h hr => by
  obtain ⟨x, e2, h1, h⟩ := bind_of h
  split at h
  · rename_i hz
    refine evf_lc (hi _ _ _ _ h1 ⟨?_, cmpR_of ht hm _ _ _ _ _ h hr⟩)
    cases q : e2[j]? with
    | none => simp only [q] at hz; cases hz
    | some s =>
      simp only [q] at hz
      cases s <;> first | rfl | cases hz
  · cases h
theorem st_yes : SimT W tYes (fun e => some (true, e)) := fun env R d e1 h hr => by
  cases h
  exact fun G H σ S Q q => q true G H env S (Tr.refl S) hr
end
end Nv

set_option Elab.async false
set_option linter.all false
set_option maxRecDepth 100000
set_option maxHeartbeats 4000000
/-! NvL2: comprehensions with two for. -/
namespace Nv
open PySem L2 PyProof.Rows PySem.Spec

def del (A : Addr) (H : Hp) : Hp := fun b => if b = A then none else H b
section
variable {W : Wd} {G H G1 H1 G2 H2 : Hp} {σ σ1 σ2 : L2.St} {env env1 env2 : List Sl} {A : Addr}
theorem del_ne {b : Addr} (h : b ≠ A) : del A H b = H b := if_neg h
theorem del_at : del A H A = none := if_pos rfl
theorem del_some {b : Addr} {o : HO} (h : del A H b = some o) : b ≠ A ∧ H b = some o := by
  by_cases z : b = A
  · rw [z, del_at] at h
    cases h
  · rw [del_ne z] at h
    exact ⟨z, h⟩
theorem del_not {b : Addr} (h : del A H b ≠ none) : b ≠ A ∧ H b ≠ none := by
  by_cases z : b = A
  · rw [z, del_at] at h
    exact absurd rfl h
  · rw [del_ne z] at h
    exact ⟨z, h⟩
theorem del_upd {o : HO} : del A (upd H A o) = del A H := by
  funext b
  by_cases z : b = A
  · subst z
    rw [del_at, del_at]
  · rw [del_ne z, del_ne z, upd_ne z]
theorem del_off (h : H A = none) : del A H = H := by
  funext b
  by_cases z : b = A
  · subst z
    rw [del_at, h]
  · rw [del_ne z]
theorem upd_del {o : HO} (h : H A = some o) : upd (del A H) A o = H := by
  funext b
  by_cases z : b = A
  · subst z
    rw [upd_same, h]
  · rw [upd_ne z, del_ne z]
theorem Tr.del (T : Tr σ env G H σ1 env1 G1 H1) : Tr σ env G (Nv.del A H) σ1 env1 G1 (Nv.del A H1) where
  gg := T.gg
  fr := fun b o n h => by
    obtain ⟨z, h⟩ := del_some h
    rw [del_ne z]
    exact T.fr b o n h
  nw := fun b m h => T.nw b m (del_not h).2
  ow := fun b h => (T.ow b h).imp id fun z => by
    by_cases y : b = A
    · rw [y, del_at]
    · rw [del_ne y, z]
  kp := fun b h => by
    obtain ⟨z, h⟩ := del_not h
    rw [del_ne z]
    exact T.kp b h
  pn := T.pn
/-- what matters of the state alone is that known things are there -/
theorem Tr.trans' (a : Tr σ env G H σ1 env1 G1 H1) (b : Tr σ1 env1 G1 H1 σ2 env2 G2 H2) : Tr σ env G H σ2 env2 G2 H2 where
  gg := a.gg.trans b.gg
  fr := fun c o n h => b.fr c o (fun z => by
    rcases a.ow c z with z | z
    · exact n z
    · rw [h] at z
      cases z) (a.fr c o n h)
  nw := fun c m n h => b.nw c (fun z => (a.ow c z).elim m fun y => n y) (a.kp c n) (a.nw c m n h)
  ow := fun c h => by
    rcases b.ow c h with h | h
    · exact a.ow c h
    · refine .inr ?_
      cases q : H c with
      | none => rfl
      | some o => exact absurd h (a.kp c (by rw [q]; exact fun z => nomatch z))
  kp := fun c n => b.kp c (a.kp c n)
  pn := fun i s e h => by
    obtain ⟨e1, s1, f1, h1⟩ := a.pn i s e h
    obtain ⟨e2, s2, f2, h2⟩ := b.pn i s1 f1 h1
    exact ⟨e2.trans e1, s2, f2, h2⟩

/-- the list at A, which is nobody's, is worth acc -/
structure AtA (W : Wd) (G H : Hp) (σ : L2.St) (env : List Sl) (A : Addr) (acc : List D) : Prop where
  ex : ∃ av, H A = some (.lst av) ∧ RpAll W G av acc
  g : G A = none
  o : ¬ own σ env A
/-- what a turn does (with its name set) to the list at A: by data -/
def BodyS (W : Wd) (A : Addr) (tb : L2.St → Hp → (Hp → Prop) → Prop) (B : List D → List Sl → (List D → List Sl → Prop) → Prop) : Prop :=
  ∀ (σ : L2.St) (G H : Hp) (e : List Sl) (acc : List D) (K : List D → List Sl → Prop) (Nx : Hp → Prop), St W G H σ e → AtA W G H σ e A acc → B acc e K →
    (∀ G' H' e' acc', St W G' H' σ e' → Tr σ e G (Nv.del A H) σ e' G' (Nv.del A H') → AtA W G' H' σ e' A acc' → K acc' e' → Nx H') → tb σ H Nx
def LoopR (B : List D → List Sl → (List D → List Sl → Prop) → Prop) (j : Nat) (vs : List Nat) (R : List D → List Sl → Prop) : List D → List D → List Sl → Prop
  | [], acc, env => R acc env
  | d :: ds, acc, env => B acc (env.set j (.d d)) fun acc' e' => (∀ i ∈ vs, (e'.set j .no)[i]? = some .no) ∧ LoopR B j vs R ds acc' (e'.set j .no)
theorem wipe_len (σ : L2.St) (vs : List Nat) : (wipe σ vs).length = σ.length := wipe_length σ vs
theorem St.free {vs : List Nat} (hv : ∀ i ∈ vs, env[i]? = some Sl.no) (hl : σ1.length = σ.length) (hs : ∀ i, i ∉ vs → σ1[i]? = σ[i]?) (S : St W G H σ env) : St W G H σ1 env := S.reslot hl fun i s e => by
  by_cases z : i ∈ vs
  · rw [hv i z] at e
    cases e
    exact .inl rfl
  · exact .inr (hs i z)
theorem own_free {vs : List Nat} (hv : ∀ i ∈ vs, env[i]? = some Sl.no) (hs : ∀ i, i ∉ vs → σ1[i]? = σ[i]?) {b : Addr} (h : own σ1 env b) : own σ env b := own_reslot (fun i s e => by
  by_cases z : i ∈ vs
  · rw [hv i z] at e
    cases e
    exact .inl rfl
  · exact .inr (hs i z)) h
theorem wipe_in {i : Nat} : ∀ {vs : List Nat}, i ∈ vs → (wipe σ vs)[i]? = if i < σ.length then some none else none
  | v :: vs, h => by
    show ((wipe σ vs).set v none)[i]? = _
    by_cases z : v = i
    · subst z
      split
      · rename_i l
        rw [List.getElem?_set_self (by rw [wipe_length]; exact l)]
      · rename_i l
        rw [List.getElem?_eq_none (by rw [List.length_set, wipe_length]; omega)]
    · rw [List.getElem?_set_ne z]
      rcases List.mem_cons.mp h with y | y
      · exact absurd y.symm z
      · exact wipe_in y
theorem wipe_set {j : Nat} {vs : List Nat} (hj : j ∈ vs) (x : Option V) : wipe ((wipe σ vs).set j x) vs = wipe σ vs := by
  apply List.ext_getElem?
  intro i
  by_cases h : i ∈ vs
  · rw [wipe_in h, wipe_in h, List.length_set, wipe_length]
  · rw [wipe_out h, List.getElem?_set_ne (fun z : j = i => h (by rw [← z]; exact hj))]
theorem St.drop (S : St W G H σ env) (j : Nat) : St W G H σ (env.set j .no) := by
  have was : ∀ {k : Nat} {t : Sl}, (env.set j .no)[k]? = some t → t = .no ∨ env[k]? = some t := fun {k t} f => by
    by_cases z : j = k
    · subst z
      by_cases hl : j < env.length
      · rw [List.getElem?_set_self hl] at f
        cases f
        exact .inl rfl
      · rw [List.getElem?_eq_none (by rw [List.length_set]; omega)] at f
        cases f
    · rw [List.getElem?_set_ne z] at f
      exact .inr f
  refine ⟨S.gh, by rw [List.length_set]; exact S.len, fun i s e => ?_, fun i k s t l e1 o1 v1 e2 o2 v2 => ?_⟩
  · rcases was e with z | z
    · subst z
      exact trivial
    · exact S.ok i s z
  · rcases was e1 with z | z
    · subst z
      cases o1
    · rcases was e2 with y | y
      · subst y
        cases o2
      · exact S.ds i k s t l z o1 v1 y o2 v2
theorem own_drop {j : Nat} {b : Addr} (h : own σ (env.set j .no) b) : own σ env b := by
  obtain ⟨k, t, f, q, v⟩ := h
  by_cases z : j = k
  · subst z
    by_cases hl : j < env.length
    · rw [List.getElem?_set_self hl] at f
      cases f
      cases q
    · rw [List.getElem?_eq_none (by rw [List.length_set]; omega)] at f
      cases f
  · rw [List.getElem?_set_ne z] at f
    exact ⟨k, t, f, q, v⟩
theorem lc_loop {J : It} {ds acc : List D} {tb : L2.St → Hp → (Hp → Prop) → Prop} {B : List D → List Sl → (List D → List Sl → Prop) → Prop} {j : Nat} {vs : List Nat} {R : List D → List Sl → Prop} {F : Hp → Prop}
    (hw : IsW W J G1 ds) (hj : j ∈ vs) (hb : BodyS W A tb B) (S1 : St W G1 H1 σ env) (hv : ∀ i ∈ vs, env[i]? = some Sl.no) (hA : AtA W G1 H1 σ env A acc) (k : LoopR B j vs R ds acc env)
    (fin : ∀ G2 H2 e2 acc', St W G2 H2 σ e2 → Tr σ env G1 (Nv.del A H1) σ e2 G2 (Nv.del A H2) → (∀ i ∈ vs, e2[i]? = some Sl.no) → AtA W G2 H2 σ e2 A acc' → R acc' e2 → F H2) :
    ∃ Wd : Nat → Nat → Hp → Prop, (∃ m, Wd 0 m H1) ∧ ∀ i m H, Wd i m H → (J.stop i H ∧ F H) ∨ (J.go i H ∧ ∃ Nx : Hp → Prop, (∀ H', Nx H' → ∃ m', m' < m ∧ Wd (i + 1) m' H') ∧ ∀ x H', J.yld i H x H' →
      (wipe ((wipe σ vs).set j (some x)) vs = wipe σ vs ∧ tb ((wipe σ vs).set j (some x)) H' Nx)) := by
  let I : Nat → Hp → Prop := fun i H2 => i ≤ ds.length ∧ ∃ G2 e2 acc', St W G2 H2 σ e2 ∧ Tr σ env G1 (Nv.del A H1) σ e2 G2 (Nv.del A H2) ∧ (∀ i ∈ vs, e2[i]? = some Sl.no) ∧ AtA W G2 H2 σ e2 A acc' ∧ LoopR B j vs R (ds.drop i) acc' e2
  refine ⟨fun i m H2 => m = ds.length - i ∧ I i H2, ⟨ds.length, by simp, Nat.zero_le _, G1, env, acc, S1, (Tr.refl S1).del, hv, hA, k⟩, ?_⟩
  rintro i m H2 ⟨rfl, hi, G2, e2, acc2, S2, T2, hv2, hA2, k2⟩
  by_cases hlt : i < ds.length
  · refine .inr ⟨hw.go i G2 H2 T2.gg S2.gh hlt, I (i + 1), fun H3 z => ⟨ds.length - (i + 1), by omega, rfl, z⟩, fun x H3 y => ⟨wipe_set hj _, ?_⟩⟩
    obtain ⟨G3, g3, r3⟩ := hw.yld i G2 H2 x H3 ds[i] T2.gg S2.gh (by simp [hlt]) y
    have e : ds.drop i = ds[i] :: ds.drop (i + 1) := by simp [hlt]
    rw [e] at k2
    have k2 : B acc2 (e2.set j (.d ds[i])) fun acc' e' => (∀ i ∈ vs, (e'.set j .no)[i]? = some Sl.no) ∧ LoopR B j vs R (ds.drop (i + 1)) acc' (e'.set j .no) := k2
    have out : ∀ i, i ∉ vs → (wipe σ vs)[i]? = σ[i]? := fun i h => wipe_out h
    have outx : ∀ i, i ∉ vs → ((wipe σ vs).set j (some x))[i]? = σ[i]? := fun i h => by rw [List.getElem?_set_ne (fun z : j = i => h (by rw [← z]; exact hj)), wipe_out h]
    have S3 : St W G3 H3 σ e2 := S2.up g3
    have S4 : St W G3 H3 ((wipe σ vs).set j (some x)) (e2.set j (.d ds[i])) := (St.free hv2 (wipe_length σ vs) out S3).set r3
    have down : ∀ b, own ((wipe σ vs).set j (some x)) (e2.set j (.d ds[i])) b → own σ e2 b := fun b z => own_free hv2 out (own_set z)
    obtain ⟨⟨av, a1, a2⟩, a3, a4⟩ := hA2
    have hA4 : AtA W G3 H3 ((wipe σ vs).set j (some x)) (e2.set j (.d ds[i])) A acc2 := ⟨⟨av, g3.hh _ _ a1, a2.up g3.gg⟩, g3.nw A (by rw [a1]; exact fun z => nomatch z) a3, fun z => a4 (down A z)⟩
    refine hb _ G3 H3 _ acc2 _ _ S4 hA4 k2 fun G5 H5 e5 acc5 S5 T5 hA5 ⟨hv5, k5⟩ => ?_
    have lower : ∀ b, own σ (e5.set j .no) b → own ((wipe σ vs).set j (some x)) e5 b := fun b z => own_drop (own_free (σ1 := σ) (σ := (wipe σ vs).set j (some x)) hv5 (fun i h => (outx i h).symm) z)
    refine ⟨hlt, G5, e5.set j .no, acc5, St.free hv5 (by rw [List.length_set, wipe_length]) (fun i h => (outx i h).symm) (S5.drop j), (T2.trans' (Tr.up S2 g3).del).trans' ⟨T5.gg, fun b o n h => T5.fr b o (fun z => n (down b z)) h, fun b m => T5.nw b fun z => m (down b z), fun b z => (T5.ow b (lower b z)).imp (down b) id, T5.kp, fun i s es h => ?_⟩, hv5, ⟨hA5.ex, hA5.g, fun z => hA5.o (lower A z)⟩, k5⟩
    have ni : i ∉ vs := fun z => by
      rw [hv2 i z] at es
      cases es
      cases h
    have ne : j ≠ i := fun z => ni (z ▸ hj)
    obtain ⟨_, s', e', h'⟩ := T5.pn i s (by rw [List.getElem?_set_ne ne]; exact es) h
    exact ⟨rfl, s', by rw [List.getElem?_set_ne ne]; exact e', h'⟩
  · have e : i = ds.length := by omega
    subst e
    rw [List.drop_length] at k2
    exact .inl ⟨hw.stop G2 H2 T2.gg S2.gh, fin G2 H2 e2 acc2 S2 T2 hv2 hA2 k2⟩

/-! ### a turn that appends -/
def tbS (tt : TT) (te : TE) (A : Addr) : L2.St → Hp → (Hp → Prop) → Prop := fun σ2 H2 Nx => tt σ2 H2 fun b H3 => if b = true then te σ2 H3 fun y H4 => ∃ acc, H4 A = some (.lst acc) ∧ acc.length < sizeLine ∧ Nx (upd H4 A (.lst (acc ++ [y]))) else Nx H3
def BS (W : Wd) (tt : TT) (te : TE) : List D → List Sl → (List D → List Sl → Prop) → Prop := fun acc e K => EvT W tt e fun b e1 => if b = true then Ev W te e1 fun y e2 => acc.length < sizeLine ∧ K (acc ++ [y]) e2 else K acc e1
theorem AtA.step {acc : List D} (h : AtA W G H σ env A acc) (T : Tr σ env G H σ env1 G1 H1) : AtA W G1 H1 σ env1 A acc := by
  obtain ⟨⟨av, a1, a2⟩, a3, a4⟩ := h
  refine ⟨⟨av, T.fr A _ a4 a1, a2.up T.gg⟩, T.nw A a4 (by rw [a1]; exact fun z => nomatch z) a3, fun z => ?_⟩
  rcases T.ow A z with y | y
  · exact a4 y
  · rw [a1] at y
    cases y
theorem body_s {tt : TT} {te : TE} : BodyS W A (tbS tt te A) (BS W tt te) := by
  intro σ G H e acc K Nx S hA hB q
  refine hB G H σ S _ fun b G1 H1 e1 S1 T1 k => ?_
  cases b with
  | false => exact q G1 H1 e1 acc S1 T1.del (hA.step T1) k
  | true =>
    have k : Ev W te e1 _ := k
    show te σ H1 _
    refine k G1 H1 σ S1 _ fun y d G2 H2 e2 S2 T2 r ⟨hz, k2⟩ => ?_
    have hA2 := hA.step (T1.trans' T2)
    obtain ⟨⟨av, a1, a2⟩, a3, a4⟩ := hA2
    refine ⟨av, a1, by rw [a2.length]; exact hz, q G2 _ e2 (acc ++ [d]) (S2.mut a3 a4) ?_ ⟨⟨_, upd_same, a2.append (.cons r .nil)⟩, a3, a4⟩ k2⟩
    rw [del_upd]
    exact (T1.trans' T2).del
/-! ### a turn that goes through another thing -/
def tbO (tt : TT) (wi1 : TI) (k : Nat) (tt1 : TT) (te : TE) (A : Addr) : L2.St → Hp → (Hp → Prop) → Prop := fun σ2 H2 Nx => tt σ2 H2 fun b H3 => if b = true then wi1 σ2 H3 fun J1 H4 => ∃ W1 : Nat → Nat → Hp → Prop, (∃ m, W1 0 m H4) ∧ ∀ j m H, W1 j m H →
  (J1.stop j H ∧ Nx H) ∨ (J1.go j H ∧ ∃ Nx1 : Hp → Prop, (∀ H', Nx1 H' → ∃ m', m' < m ∧ W1 (j + 1) m' H') ∧ ∀ x H', J1.yld j H x H' → (wipe ((wipe σ2 [k]).set k (some x)) [k] = wipe σ2 [k] ∧ tbS tt1 te A ((wipe σ2 [k]).set k (some x)) H' Nx1)) else Nx H3
def BO (W : Wd) (tt : TT) (wi1 : TI) (k : Nat) (tt1 : TT) (te : TE) : List D → List Sl → (List D → List Sl → Prop) → Prop := fun acc e K => EvT W tt e fun b e1 =>
  if b = true then EvI W wi1 e1 fun es e2 => (∀ i ∈ [k], e2[i]? = some Sl.no) ∧ LoopR (BS W tt1 te) k [k] K es acc e2 else K acc e1
theorem body_o {tt tt1 : TT} {te : TE} {wi1 : TI} {k : Nat} : BodyS W A (tbO tt wi1 k tt1 te A) (BO W tt wi1 k tt1 te) := by
  intro σ G H e acc K Nx S hA hB q
  refine hB G H σ S _ fun b G1 H1 e1 S1 T1 kk => ?_
  cases b with
  | false => exact q G1 H1 e1 acc S1 T1.del (hA.step T1) kk
  | true =>
    have kk : EvI W wi1 e1 _ := kk
    show wi1 σ H1 _
    refine kk G1 H1 σ S1 _ fun J es G2 H2 e2 S2 T2 hw ⟨hv, k2⟩ => ?_
    exact lc_loop hw (List.mem_singleton.mpr rfl) body_s S2 hv (hA.step (T1.trans' T2)) k2 fun G3 H3 e3 acc3 S3 T3 hv3 hA3 k3 => q G3 H3 e3 acc3 S3 ((T1.trans' T2).del.trans' T3) hA3 k3
/-- a comprehension with two for -/
theorem evf_lc2 {wi wi1 : TI} {tt tt1 : TT} {te : TE} {j k : Nat} {R : List D → List Sl → Prop} (h : EvI W wi env fun ds e1 => (∀ i ∈ [j, k], e1[i]? = some Sl.no) ∧ LoopR (BO W tt wi1 k tt1 te) j [j, k] R ds [] e1) :
    EvF W (tLc2 wi (gName j) tt wi1 (gName k) tt1 te [j, k] [k]) env R := fun G H σ S Q q => by
  refine h G H σ S _ fun J ds G1 H1 e1 S1 T1 hw ⟨hv, kk⟩ => fun A hA => ?_
  have nA : ¬ own σ e1 A := fun z => by
    obtain ⟨_, o, ho⟩ := S1.own_at z
    rw [hA] at ho
    cases ho
  have gA : G1 A = none := S1.gh.free hA
  have h0 : H A = none := by
    cases z : H A with
    | none => rfl
    | some o => exact absurd hA (T1.kp A (by rw [z]; exact fun y => nomatch y))
  have S2 : St W G1 (upd H1 A (.lst [])) σ e1 := S1.mut gA nA
  refine lc_loop (A := A) (tb := tbO tt wi1 k tt1 te A) (F := fun H2 => Q (.ref A) H2) hw List.mem_cons_self body_o S2 hv ⟨⟨[], upd_same, .nil⟩, gA, nA⟩ kk fun G3 H3 e3 acc3 S3 T3 hv3 hA3 k3 => ?_
  obtain ⟨⟨av, a1, a2⟩, a3, a4⟩ := hA3
  rw [del_upd, del_off hA] at T3
  have T4 : Tr σ e1 G1 H1 σ e3 G3 H3 := by
    have := T3.late (o := .lst av) hA
    rw [upd_del a1] at this
    exact this
  exact q A av acc3 G3 H3 e3 S3 (T1.trans S T4) h0 a1 a3 a4 a2 k3
end
end Nv

set_option Elab.async false
set_option linter.all false
set_option maxRecDepth 100000
set_option maxHeartbeats 4000000
/-! NvS: mirrors of comprehensions with two for, of dicts of one's own, of calls, of statements, of defs. -/
namespace Nv
open PySem L2 PyProof.Rows PySem.Spec

section
variable {W : Wd} {ta tb tc te : TE} {ma mb mc me : M D} {t u : TT} {mt mu : M Bool} {tr : TA} {mr : M (List D)}
/-! ### two for -/
def allNo (vs : List Nat) (e : Env) : Bool := vs.all fun i => (e[i]?).any isNo
def loopGo (b : List D → M (List D)) (j : Nat) (vs : List Nat) : List D → List D → M (List D)
  | [], acc, e => some (acc, e)
  | d :: ds, acc, e => (b acc (e.set j (.d d))).bind fun p => if allNo vs (p.2.set j .no) = true then loopGo b j vs ds p.1 (p.2.set j .no) else none
def mBS (t : M Bool) (m : M D) : List D → M (List D) := fun acc e => (t e).bind fun p => if p.1 = true then (m p.2).bind fun q => if acc.length < sizeLine then some (acc ++ [q.1], q.2) else none else some (acc, p.2)
def mBO (t : M Bool) (it : M (List D)) (k : Nat) (t1 : M Bool) (m : M D) : List D → M (List D) := fun acc e => (t e).bind fun p => if p.1 = true then (it p.2).bind fun q => if allNo [k] q.2 = true then loopGo (mBS t1 m) k [k] q.1 acc q.2 else none else some (acc, p.2)
def mLc2 (it : M (List D)) (t : M Bool) (it1 : M (List D)) (t1 : M Bool) (m : M D) (j k : Nat) : M (List D) := fun e => (it e).bind fun p => if allNo [j, k] p.2 = true then loopGo (mBO t it1 k t1 m) j [j, k] p.1 [] p.2 else none
theorem allNo_of {vs : List Nat} {e : Env} (h : allNo vs e = true) : ∀ i ∈ vs, e[i]? = some Sl.no := fun i hi => by
  have := List.all_eq_true.mp h i hi
  cases q : e[i]? with
  | none => simp only [q] at this; cases this
  | some s =>
    simp only [q] at this
    cases s <;> first | rfl | cases this
def SimB (B : List D → List Sl → (List D → List Sl → Prop) → Prop) (b : List D → M (List D)) : Prop := ∀ acc e K acc' e', b acc e = some (acc', e') → K acc' e' → B acc e K
theorem loop_of {B : List D → List Sl → (List D → List Sl → Prop) → Prop} {b : List D → M (List D)} (hb : SimB B b) {j : Nat} {vs : List Nat} {R : List D → List Sl → Prop} : ∀ (ds acc : List D) (env : Env) (r : List D) (e1 : Env), loopGo b j vs ds acc env = some (r, e1) → R r e1 → LoopR B j vs R ds acc env
  | [], acc, env, r, e1, h, k => by cases h; exact k
  | d :: ds, acc, env, r, e1, h, k => by
    obtain ⟨x, e2, h1, h⟩ := bind_of h
    split at h
    · rename_i hz
      exact hb _ _ _ _ _ h1 ⟨allNo_of hz, loop_of hb ds _ _ r e1 h k⟩
    · cases h
theorem sb_s {tt : TT} (ht : SimT W tt mt) (hm : SimE W te me) : SimB (BS W tt te) (mBS mt me) := fun acc env K acc' e' h k => by
  obtain ⟨x, e2, h1, h⟩ := bind_of h
  refine ht _ _ _ _ h1 ?_
  cases x with
  | false => cases h; exact k
  | true =>
    obtain ⟨y, e3, h2, h⟩ := bind_of (show ((me e2).bind fun q => if acc.length < sizeLine then some (acc ++ [q.1], q.2) else none) = some (acc', e') from h)
    refine hm _ _ _ _ h2 ?_
    split at h
    · rename_i hz
      cases h
      exact ⟨hz, k⟩
    · cases h
theorem sb_o {tt tt1 : TT} {mt1 : M Bool} {wi1 : TI} {mi1 : M (List D)} {k : Nat} (ht : SimT W tt mt) (hi : SimI W wi1 mi1) (ht1 : SimT W tt1 mt1) (hm : SimE W te me) : SimB (BO W tt wi1 k tt1 te) (mBO mt mi1 k mt1 me) := fun acc env K acc' e' h kk => by
  obtain ⟨x, e2, h1, h⟩ := bind_of h
  refine ht _ _ _ _ h1 ?_
  cases x with
  | false => cases h; exact kk
  | true =>
    obtain ⟨y, e3, h2, h⟩ := bind_of (show ((mi1 e2).bind fun q => if allNo [k] q.2 = true then loopGo (mBS mt1 me) k [k] q.1 acc q.2 else none) = some (acc', e') from h)
    refine hi _ _ _ _ h2 ?_
    split at h
    · rename_i hz
      exact ⟨allNo_of hz, loop_of (sb_s ht1 hm) _ _ _ _ _ h kk⟩
    · cases h
theorem sf_lc2 {wi wi1 : TI} {mi mi1 : M (List D)} {tt tt1 : TT} {mt1 : M Bool} {j k : Nat} (hi : SimI W wi mi) (ht : SimT W tt mt) (hi1 : SimI W wi1 mi1) (ht1 : SimT W tt1 mt1) (hm : SimE W te me) :
    SimF W (tLc2 wi (gName j) tt wi1 (gName k) tt1 te [j, k] [k]) (mLc2 mi mt mi1 mt1 me j k) := fun env R d e1 h hr => by
  obtain ⟨x, e2, h1, h⟩ := bind_of h
  split at h
  · rename_i hz
    exact evf_lc2 (hi _ _ _ _ h1 ⟨allNo_of hz, loop_of (sb_o ht hi1 ht1 hm) _ _ _ _ _ h hr⟩)
  · cases h

/-! ### list(x), all(..), repr -/
def seqOf : List D → Option (List D)
  | [.lst xs] => some xs
  | [.tup xs] => some xs
  | _ => none
def mList (r : M (List D)) : M (List D) := fun e => (r e).bind fun p => (seqOf p.1).bind fun xs => some (xs, p.2)
theorem seqOf_of {ds xs : List D} (h : seqOf ds = some xs) : ds = [.lst xs] ∨ ds = [.tup xs] := by
  unfold seqOf at h
  split at h
  · cases h; exact .inl rfl
  · cases h; exact .inr rfl
  · cases h
theorem sf_list (h : SimA W tr mr) : SimF W (tCB (fun xs H Q => ∃ p ys, xs = [.ref p] ∧ (SqL W.K H p ys ∨ SqT W.K H p ys) ∧ ∀ l, H l = none → Q (.ref l) (upd H l (.lst ys))) tr) (mList mr) := fun env R d e1 hm hr => by
  obtain ⟨x, e2, h1, hm⟩ := bind_of hm
  obtain ⟨z, h3, hm⟩ := bind_of' hm
  cases hm
  exact evf_list (h _ _ _ _ h1 ⟨_, seqOf_of h3, hr⟩)
def blsOf : List D → Option (List Bool)
  | [] => some []
  | .bl b :: r => (blsOf r).map (b :: ·)
  | _ => none
theorem blsOf_of : ∀ {ds : List D} {bs : List Bool}, blsOf ds = some bs → ds = bs.map D.bl
  | [], _, h => by cases h; rfl
  | d :: ds, bs, h => by
    cases d <;> first | (cases h; done) | skip
    rename_i b
    have h : (blsOf ds).map (b :: ·) = some bs := h
    cases q : blsOf ds with
    | none => rw [q] at h; cases h
    | some cs =>
      rw [q] at h
      cases h
      rw [blsOf_of q]
      rfl
def all1 : List D → Option (List Bool)
  | [.lst xs] => blsOf xs
  | _ => none
def mAll (r : M (List D)) : M D := fun e => (r e).bind fun p => (all1 p.1).bind fun bs => some (.bl (bs.all id), p.2)
theorem se_all (h : SimA W tr mr) : SimE W (tCB (rAll W.K) tr) (mAll mr) := fun env R d e1 hm hr => by
  obtain ⟨x, e2, h1, hm⟩ := bind_of hm
  obtain ⟨z, h3, hm⟩ := bind_of' hm
  cases hm
  refine ev_all (h _ _ _ _ h1 ⟨z, ?_, hr⟩)
  have z1 : ∀ {x : List D}, all1 x = some z → x = [.lst (z.map D.bl)] := fun {x} h => by
    unfold all1 at h
    split at h
    · rw [blsOf_of h]
    · cases h
  exact z1 h3
def rokB (d : D) : Bool := d.plain && tells d.py && d.py.showable && decide (d.py.depth ≤ 60) && decide (d.py.shown.length ≤ sizeLine)
theorem rokB_of {d : D} (h : rokB d = true) : Rok d := by
  unfold rokB at h
  simp only [Bool.and_eq_true, decide_eq_true_eq] at h
  exact ⟨h.1.1.1.1, h.1.1.1.2, h.1.1.2, h.1.2, h.2⟩
theorem rokB_iff {d : D} (h : Rok d) : rokB d = true := by
  unfold rokB
  simp only [Bool.and_eq_true, decide_eq_true_eq]
  exact ⟨⟨⟨⟨h.plain, h.tells⟩, h.show_⟩, h.depth⟩, h.len⟩
def repr1 : List D → Option D
  | [d] => if rokB d = true then some (.str d.py.shown) else none
  | _ => none
def mRepr (r : M (List D)) : M D := fun e => (r e).bind fun p => (repr1 p.1).bind fun z => some (z, p.2)
theorem repr1_of {ds : List D} {z : D} (h : repr1 ds = some z) : ∃ d, ds = [d] ∧ Rok d ∧ z = .str d.py.shown := by
  unfold repr1 at h
  split at h
  · split at h
    · rename_i hz
      cases h
      exact ⟨_, rfl, rokB_of hz, rfl⟩
    · cases h
  · cases h
theorem se_repr (h : SimA W tr mr) : SimE W (tCB (rRepr W.K) tr) (mRepr mr) := fun env R d e1 hm hr => by
  obtain ⟨x, e2, h1, hm⟩ := bind_of hm
  obtain ⟨z, h3, hm⟩ := bind_of' hm
  cases hm
  obtain ⟨d, h4, h5, h6⟩ := repr1_of h3
  subst h6
  exact ev_repr (h _ _ _ _ h1 ⟨d, h4, h5, hr⟩)

/-! ### dicts of one's own -/
def isOD (i : Nat) (e : Env) : Option (List (Key × D)) := (e[i]?).bind Sl.dict
theorem isOD_of {i : Nat} {e : Env} {kvs : List (Key × D)} (h : isOD i e = some kvs) : ∃ s, e[i]? = some s ∧ s.dict = some kvs := by
  obtain ⟨s, h1, h2⟩ := bind_of' h
  exact ⟨s, h1, h2⟩
def mDGet (i : Nat) (a : M D) : M D := fun e => (isOD i e).bind fun _ => (a e).bind fun p => (isOD i p.2).bind fun kvs => (keyD p.1).bind fun k => (valD kvs k).bind fun d => some (d, p.2)
theorem se_dget {i : Nat} (ha : SimE W ta ma) : SimE W (tDGet (tVar i) ta) (mDGet i ma) := fun env R d e1 hm hr => by
  obtain ⟨k0, h0, hm⟩ := bind_of' hm
  obtain ⟨y, e2, h1, hm⟩ := bind_of hm
  obtain ⟨kvs, h2, hm⟩ := bind_of' hm
  obtain ⟨k, h3, hm⟩ := bind_of' hm
  obtain ⟨z, h4, hm⟩ := bind_of' hm
  cases hm
  obtain ⟨s0, a1, a2⟩ := isOD_of h0
  obtain ⟨s, b1, b2⟩ := isOD_of h2
  exact ev_dget ⟨s0, k0, a1, a2⟩ (ha _ _ _ _ h1 ⟨s, kvs, k, _, b1, b2, h3, h4, hr⟩)
end

/-! ### statements -/
section
variable {W : Wd} {ta tb tc te : TE} {ma mb mc me : M D} {t u : TT} {mt mu : M Bool} {tr : TA} {mr : M (List D)} {t1 t2 : TS} {m1 m2 : MS}
def mSeq (a b : MS) : MS := fun e => (a e).bind fun p => match p.1 with
  | .nx => b p.2
  | o => some (o, p.2)
def mRet (a : M D) : MS := fun e => (a e).bind fun p => some (.rt p.1, p.2)
def mRetN : MS := fun e => some (.rt .non, e)
def mNext : MS := fun e => some (.nx, e)
def mBrk : MS := fun e => some (.bk, e)
def mCont : MS := fun e => some (.ct, e)
def mDrop (a : M D) : MS := fun e => (a e).bind fun p => some (.nx, p.2)
def freeB (e : Env) (j : Nat) : Bool := match e[j]? with
  | some s => !s.pinned
  | none => true
theorem freeB_of {e : Env} {j : Nat} (h : freeB e j = true) : Free e j := fun s hs => by
  unfold freeB at h
  rw [hs] at h
  simpa using h
def mSet (j : Nat) (a : M D) : MS := fun e => (a e).bind fun p => if freeB p.2 j = true then some (.nx, p.2.set j (.d p.1)) else none
def mOwn (j : Nat) (a : M (List D)) : MS := fun e => (a e).bind fun p => if freeB p.2 j = true then some (.nx, p.2.set j (.ol p.1)) else none
def olOf : Sl → Option (List D)
  | .ol xs => some xs
  | _ => none
def isOL (i : Nat) (e : Env) : Option (List D) := (e[i]?).bind olOf
theorem isOL_of {i : Nat} {e : Env} {xs : List D} (h : isOL i e = some xs) : e[i]? = some (.ol xs) := by
  obtain ⟨s, h1, h2⟩ := bind_of' h
  cases s <;> first | (cases h2; done) | skip
  cases h2
  exact h1
def mApp (i : Nat) (a : M D) : MS := fun e => (isOL i e).bind fun _ => (a e).bind fun p => (isOL i p.2).bind fun xs => if xs.length < sizeLine then some (.nx, p.2.set i (.ol (xs ++ [p.1]))) else none
def dOf : Sl → Option D
  | .d x => some x
  | _ => none
def isD1 (j : Nat) (e : Env) : Option D := (e[j]?).bind dOf
theorem isD1_of {j : Nat} {e : Env} {x : D} (h : isD1 j e = some x) : e[j]? = some (.d x) := by
  obtain ⟨s, h1, h2⟩ := bind_of' h
  cases s <;> first | (cases h2; done) | skip
  cases h2
  exact h1
def mAug (j : Nat) (o : D → D → Option D) (a : M D) : MS := fun e => (isD1 j e).bind fun _ => (a e).bind fun p => (isD1 j p.2).bind fun x => (o x p.1).bind fun z => some (.nx, p.2.set j (.d z))
def mDPut (i : Nat) (k : Key) (a : M D) : MS := fun e => (a e).bind fun p => (p.2[i]?).bind fun s => s.dict.bind fun kvs => if kvs.length < sizeLine then some (.nx, p.2.set i (s.dictTo (putD kvs k p.1))) else none
theorem ss_seq (h1 : SimS W t1 m1) (h2 : SimS W t2 m2) : SimS W (tSeq t1 t2) (mSeq m1 m2) := fun env P o e1 hm hr => by
  obtain ⟨x, e2, k1, hm⟩ := bind_of hm
  refine run_seq (h1 _ _ _ _ k1 ?_)
  cases x with
  | nx => exact h2 _ _ _ _ hm hr
  | rt d => cases hm; exact hr
  | bk => cases hm; exact hr
  | ct => cases hm; exact hr
theorem ss_ret (ha : SimE W te me) : SimS W (tRet te) (mRet me) := fun env P o e1 hm hr => by
  obtain ⟨x, e2, h1, hm⟩ := bind_of hm
  cases hm
  exact run_ret (ha _ _ _ _ h1 hr)
theorem ss_retN : SimS W tRetN mRetN := fun env P o e1 hm hr => by cases hm; exact run_retN hr
theorem ss_next : SimS W tNext mNext := fun env P o e1 hm hr => by cases hm; exact run_next hr
theorem ss_brk : SimS W tBreak mBrk := fun env P o e1 hm hr => by cases hm; exact run_brk hr
theorem ss_cont : SimS W tCont mCont := fun env P o e1 hm hr => by cases hm; exact run_cont hr
theorem ss_drop (ha : SimE W te me) : SimS W (tDrop te) (mDrop me) := fun env P o e1 hm hr => by
  obtain ⟨x, e2, h1, hm⟩ := bind_of hm
  cases hm
  exact run_drop (ha _ _ _ _ h1 hr)
theorem ss_if (ht : SimT W t mt) (h1 : SimS W t1 m1) (h2 : SimS W t2 m2) : SimS W (tIfS t t1 t2) (mIf mt m1 m2) := fun env P o e1 hm hr => by
  obtain ⟨x, e2, k1, hm⟩ := bind_of hm
  refine run_if (ht _ _ _ _ k1 ?_)
  cases x with
  | false => exact h2 _ _ _ _ hm hr
  | true => exact h1 _ _ _ _ hm hr
theorem ss_set {j : Nat} (ha : SimE W te me) : SimS W (tAsg te (gName j)) (mSet j me) := fun env P o e1 hm hr => by
  obtain ⟨x, e2, h1, hm⟩ := bind_of hm
  split at hm
  · rename_i hz
    cases hm
    exact run_set (ha _ _ _ _ h1 ⟨freeB_of hz, hr⟩)
  · cases hm
theorem ss_own {j : Nat} {m : M (List D)} (ha : SimF W te m) : SimS W (tAsg te (gName j)) (mOwn j m) := fun env P o e1 hm hr => by
  obtain ⟨x, e2, h1, hm⟩ := bind_of hm
  split at hm
  · rename_i hz
    cases hm
    exact run_own (ha _ _ _ _ h1 ⟨freeB_of hz, hr⟩)
  · cases hm
theorem ss_app {i : Nat} (ha : SimE W te me) : SimS W (tDrop (tBM W.K "list" rAppend (tVar i) (tCons te tNil))) (mApp i me) := fun env P o e1 hm hr => by
  obtain ⟨ys, h0, hm⟩ := bind_of' hm
  obtain ⟨x, e2, h1, hm⟩ := bind_of hm
  obtain ⟨xs, h2, hm⟩ := bind_of' hm
  split at hm
  · rename_i hz
    cases hm
    exact run_app (ha _ _ _ _ h1 ⟨xs, isOL_of h2, hz, hr⟩) ⟨ys, isOL_of h0⟩
  · cases hm
theorem ss_dput {i : Nat} {ty : TE} {kd : D} {k : Key} (hy : SimE W ty (mC kd)) (hk : keyD kd = some k) (ha : SimE W te me) : SimS W (sDPut (tVar i) ty te) (mDPut i k me) := fun env P o e1 hm hr => by
  obtain ⟨x, e2, h1, hm⟩ := bind_of hm
  obtain ⟨s, h2, hm⟩ := bind_of' hm
  obtain ⟨kvs, h3, hm⟩ := bind_of' hm
  split at hm
  · rename_i hz
    cases hm
    exact run_dput (ha _ _ _ _ h1 ⟨⟨s, kvs, h2, h3⟩, hy _ _ _ _ rfl ⟨rfl, s, kvs, k, h2, h3, hk, hz, hr⟩⟩)
  · cases hm

/-! loops -/
def forGo (j : Nat) (b : MS) : List D → MS
  | [], e => some (.nx, e)
  | d :: ds, e => if freeB e j = true then (b (e.set j (.d d))).bind fun p => match p.1 with
    | .nx => forGo j b ds p.2
    | .ct => forGo j b ds p.2
    | .bk => some (.nx, p.2)
    | .rt d => some (.rt d, p.2) else none
def mFor (it : M (List D)) (j : Nat) (b : MS) : MS := fun e => (it e).bind fun p => forGo j b p.1 p.2
theorem forR_of {j : Nat} (hb : SimS W t1 m1) {P : Post} : ∀ (ds : List D) (env : Env) (o : Out) (e1 : Env), forGo j m1 ds env = some (o, e1) → Post.hit P o e1 → ForR W (gName j) t1 P ds env
  | [], env, o, e1, h, k => by cases h; exact k
  | d :: ds, env, o, e1, h, k => by
    have h : (if freeB env j = true then (m1 (env.set j (.d d))).bind fun p => match p.1 with
      | .nx => forGo j m1 ds p.2
      | .ct => forGo j m1 ds p.2
      | .bk => some (.nx, p.2)
      | .rt d => some (.rt d, p.2) else none) = some (o, e1) := h
    split at h
    · rename_i hz
      obtain ⟨x, e2, h1, h⟩ := bind_of h
      refine tg_name (freeB_of hz) (hb _ _ _ _ h1 ?_)
      cases x with
      | nx => exact forR_of hb ds _ o e1 h k
      | ct => exact forR_of hb ds _ o e1 h k
      | bk => cases h; exact k
      | rt d => cases h; exact k
    · cases h
theorem ss_for {wi : TI} {mi : M (List D)} {j : Nat} (hi : SimI W wi mi) (hb : SimS W t1 m1) : SimS W (tFor wi (gName j) t1) (mFor mi j m1) := fun env P o e1 hm hr => by
  obtain ⟨x, e2, h1, hm⟩ := bind_of hm
  exact run_for (hi _ _ _ _ h1 (forR_of hb _ _ _ _ hm hr))
def whGo (t : M Bool) (b : MS) : Nat → MS
  | 0, _ => none
  | n + 1, e => (t e).bind fun p => if p.1 = true then (b p.2).bind fun q => match q.1 with
    | .nx => whGo t b n q.2
    | .ct => whGo t b n q.2
    | .bk => some (.nx, q.2)
    | .rt d => some (.rt d, q.2) else some (.nx, p.2)
def mWhile (n : Nat) (t : M Bool) (b : MS) : MS := whGo t b n
theorem ss_while {n : Nat} (ht : SimT W t mt) (hb : SimS W t1 m1) : SimS W (tWhile t t1) (mWhile n mt m1) := fun env P o e1 hm hr => by
  refine run_while (fun m e => ∃ o e1, whGo mt m1 m e = some (o, e1) ∧ Post.hit P o e1) n ⟨o, e1, hm, hr⟩ ?_
  rintro m e ⟨o, e1, hm, hr⟩
  cases m with
  | zero => cases hm
  | succ m =>
    obtain ⟨x, e2, h1, hm⟩ := bind_of hm
    refine ht _ _ _ _ h1 ?_
    cases x with
    | false => cases hm; exact hr
    | true =>
      obtain ⟨y, e3, h2, hm⟩ := bind_of (show ((m1 e2).bind fun q => match q.1 with
        | .nx => whGo mt m1 m q.2
        | .ct => whGo mt m1 m q.2
        | .bk => some (.nx, q.2)
        | .rt d => some (.rt d, q.2)) = some (o, e1) from hm)
      refine hb _ _ _ _ h2 ?_
      cases y with
      | nx => exact ⟨m, Nat.lt_succ_self m, o, e1, hm, hr⟩
      | ct => exact ⟨m, Nat.lt_succ_self m, o, e1, hm, hr⟩
      | bk => cases hm; exact hr
      | rt d => cases hm; exact hr
theorem ss_aug {j : Nat} {r : R2} {o : D → D → Option D} (ho : OpD W r o) (ha : SimE W te me) : SimS W (tAug j te (fun x y H Q => r x y H Q)) (mAug j o me) := fun env P o e1 hm hr => by
  obtain ⟨x0, h0, hm⟩ := bind_of' hm
  obtain ⟨x, e2, h1, hm⟩ := bind_of hm
  obtain ⟨y, h2, hm⟩ := bind_of' hm
  obtain ⟨z, h3, hm⟩ := bind_of' hm
  cases hm
  exact run_aug ho (ha _ _ _ _ h1 ⟨y, z, isD1_of h2, h3, hr⟩) ⟨x0, isD1_of h0⟩

/-! ### calls, defs -/
abbrev Fm := List Sl → Option (D × List Sl)
def PhiF (c : Fm) : Fs := fun as R => ∃ d as', c as = some (d, as') ∧ R d as'
def mCall (n : Nat) (c : Fm) (a : M (List D)) : M D := fun e => (a e).bind fun p => if p.1.length = n then (c (p.1.map .d)).bind fun q => some (q.1, p.2) else none
theorem se_g {n : Nat} {c : Fm} (h : SimA W tr mr) : SimE W (tG (SpD W n (PhiF c)) tr) (mCall n c mr) := fun env R d e1 hm hr => by
  obtain ⟨x, e2, h1, hm⟩ := bind_of hm
  split at hm
  · rename_i hz
    obtain ⟨y, e3, h2, hm⟩ := bind_of hm
    cases hm
    exact ev_g (h _ _ _ _ h1 ⟨hz, _, _, h2, hr⟩)
  · cases hm
def mCallK (n m : Nat) (pm : List Nat) (c : Fm) (a : M (List D)) : M D := fun e => (a e).bind fun p => if p.1.length = m ∧ (permD pm p.1).length = n then (c ((permD pm p.1).map .d)).bind fun q => some (q.1, p.2) else none
theorem se_gK {n m : Nat} {pm : List Nat} {c : Fm} (h : SimA W tr mr) : SimE W (tGK m pm (SpD W n (PhiF c)) tr) (mCallK n m pm c mr) := fun env R d e1 hm hr => by
  obtain ⟨x, e2, h1, hm⟩ := bind_of hm
  split at hm
  · rename_i hz
    obtain ⟨y, e3, h2, hm⟩ := bind_of hm
    cases hm
    exact ev_gK (h _ _ _ _ h1 ⟨hz.1, hz.2, _, _, h2, hr⟩)
  · cases hm
def isOwn (i : Nat) (e : Env) : Option Sl := (e[i]?).bind fun s => if s.owned = true then some s else none
theorem isOwn_of {i : Nat} {e : Env} {s : Sl} (h : isOwn i e = some s) : e[i]? = some s ∧ s.owned = true := by
  obtain ⟨x, h1, h2⟩ := bind_of' h
  split at h2
  · rename_i hz
    cases h2
    exact ⟨h1, hz⟩
  · cases h2
def mCallP (n i : Nat) (c : Fm) (a : M (List D)) : M D := fun e => (isOwn i e).bind fun _ => (a e).bind fun p => (isOwn i p.2).bind fun s => if p.1.length + 1 = n then (c (s.lend :: p.1.map .d)).bind fun q => (q.2[0]?).bind fun s' => some (q.1, p.2.set i (s.back s')) else none
theorem se_gp {n i : Nat} {c : Fm} (h : SimA W tr mr) : SimE W (tG (SpD W n (PhiF c)) (tCons (tVar i) tr)) (mCallP n i c mr) := fun env R d e1 hm hr => by
  obtain ⟨s0, h0, hm⟩ := bind_of' hm
  obtain ⟨x, e2, h1, hm⟩ := bind_of hm
  obtain ⟨s, h2, hm⟩ := bind_of' hm
  split at hm
  · rename_i hz
    obtain ⟨y, e3, h3, hm⟩ := bind_of hm
    obtain ⟨s', h4, hm⟩ := bind_of' hm
    cases hm
    obtain ⟨a1, a2⟩ := isOwn_of h0
    obtain ⟨b1, b2⟩ := isOwn_of h2
    exact ev_gp ⟨s0, a1, a2⟩ (h _ _ _ _ h1 ⟨hz, s, b1, b2, _, _, h3, s', h4, hr⟩)
  · cases hm
/-- a def's mirror by its body's -/
def defM (n N : Nat) (b : MS) : Fm := fun as => if as.length = n then (b (as ++ List.replicate (N - n) .no)).bind fun p => match p.1 with
  | .rt d => some (d, mergeS as p.2)
  | .nx => some (.non, mergeS as p.2)
  | _ => none else none
end
section
variable {P : Program} {w : World} {mg : Str → Option Value} {base : Heap} {k : Nat} {f : Addr} {fd : FuncData} {ps : List Str} {W : Wd}
theorem fn_m {x qual : Str} {st : Stmt} {N : List Str} {n nN : Nat} {m : MS} (F : Fun W.K x qual st f fd) (S : FnScope N ps (defScope st)) (hn : ps.length = n) (hN : N.length = nN)
    (hbody : ∀ (cdv : Value) (A : Around) (outer : List PySem.Env) (s : Shared) (H : Hp) (E : XK), (Bx P w W.K mg base N qual st f cdv A outer s H E).A.guards = some [] → Room k (Bx P w W.K mg base N qual st f cdv A outer s H E).A →
      ∃ t, PSs (Bx P w W.K mg base N qual st f cdv A outer s H E) (defBody st) t ∧ SimS W t m) :
    FnG P w W.K mg base (k + 1) f fd ps (SpD W n (PhiF (defM n nN m))) := by
  subst hn
  subst hN
  refine fn_d F S fun cdv A outer s H E hg hr => ?_
  obtain ⟨t, h1, h2⟩ := hbody cdv A outer s H E hg hr
  refine ⟨t, h1, fun as R hl ⟨d, as', hc, hR⟩ => ?_⟩
  unfold defM at hc
  rw [if_pos hl] at hc
  obtain ⟨o, e1, h3, hc⟩ := bind_of hc
  refine h2 _ _ _ _ h3 ?_
  cases o with
  | nx => cases hc; exact hR
  | rt d => cases hc; exact hR
  | bk => cases hc
  | ct => cases hc
end
end Nv

set_option Elab.async false
set_option linter.all false
set_option maxRecDepth 100000
set_option maxHeartbeats 4000000
/-! NvW: the pen of a law (a dict of one's own, made by a def from the script). -/
namespace Nv
open PySem L2 PyProof.Rows PySem.Spec

section
variable {W : Wd} {G H : Hp} {σ : L2.St} {env : List Sl}
theorem St.takeS (S : St W G H σ env) {j : Nat} {p : Addr} {s : Sl} (ok : OkS W G H (some (some (.ref p))) s) (no : ¬ own σ env p) : St W G H (σ.set j (some (.ref p))) (env.set j s) := by
  by_cases jl : j < env.length
  · refine ⟨S.gh, by rw [List.length_set, List.length_set]; exact S.len, fun k t f => ?_, fun a b s1 t1 m e1 o1 v1 e2 o2 v2 => ?_⟩
    · by_cases z : j = k
      · subst z
        rw [List.getElem?_set_self jl] at f
        cases f
        rw [List.getElem?_set_self (by rw [S.len]; exact jl)]
        exact ok
      · rw [List.getElem?_set_ne z] at f
        rw [List.getElem?_set_ne z]
        exact S.ok k t f
    · have at_j : ∀ {m : Addr}, (σ.set j (some (V.ref p)))[j]? = some (some (.ref m)) → m = p := fun {m} v => by
        rw [List.getElem?_set_self (by rw [S.len]; exact jl)] at v
        cases v
        rfl
      by_cases za : j = a
      · subst za
        by_cases zb : j = b
        · exact zb
        · rw [List.getElem?_set_ne zb] at e2 v2
          rw [at_j v1] at v2
          exact absurd ⟨b, t1, e2, o2, v2⟩ no
      · rw [List.getElem?_set_ne za] at e1 v1
        by_cases zb : j = b
        · subst zb
          rw [at_j v2] at v1
          exact absurd ⟨a, s1, e1, o1, v1⟩ no
        · rw [List.getElem?_set_ne zb] at e2 v2
          exact S.ds a b s1 t1 m e1 o1 v1 e2 o2 v2
  · rw [List.set_eq_of_length_le (by rw [S.len]; omega), List.set_eq_of_length_le (by omega)]
    exact S
theorem Tr.takeS {j : Nat} {p : Addr} {s : Sl} (hf : Free env j) {G0 H0 : Hp} {σ0 : L2.St} {env0 : List Sl} (T : Tr σ0 env0 G0 H0 σ env G H) (h0 : H0 p = none) : Tr σ0 env0 G0 H0 (σ.set j (some (.ref p))) (env.set j s) G H := by
  refine ⟨T.gg, T.fr, T.nw, fun b ⟨k, t, f, q, v⟩ => ?_, T.kp, fun i s e h => ?_⟩
  · by_cases z : j = k
    · subst z
      by_cases jl : j < σ.length
      · rw [List.getElem?_set_self jl] at v
        cases v
        exact .inr h0
      · rw [List.getElem?_eq_none (by rw [List.length_set]; omega)] at v
        cases v
    · rw [List.getElem?_set_ne z] at f v
      exact T.ow b ⟨k, t, f, q, v⟩
  · obtain ⟨e1, s', e2, h2⟩ := T.pn i s e h
    have ne : j ≠ i := fun z => by
      subst z
      rw [hf s' e2] at h2
      cases h2
    rw [List.getElem?_set_ne ne, List.getElem?_set_ne ne]
    exact ⟨e1, s', e2, h2⟩
end
def pen0 (xs : List D) : List (Key × D) := [(.inr "cells", .lst (xs.take 63)), (.inr "at", .int 0), (.inr "left", .int 0)]
def SpPen (W : Wd) : Sp := fun vs H Q _ => ∃ (G : Hp) (x : V) (xs : List D), vs = [x] ∧ Same G H ∧ Rp W G x (.frl xs) ∧
  ∀ (p : Addr) (kvs : List (Key × V)) (G' H' : Hp), Gr G H G' H' → H p = none → H' p = some (.dK kvs) → G' p = none → kvs.map (·.1) = (pen0 xs).map (·.1) → RpAll W G' (kvs.map (·.2)) ((pen0 xs).map (·.2)) → Q (.ref p) H'
def tPen (K : PySem.W.Frag) : TE := tDisp [(tC (.str "cells"), tCB (fun xs H Q => ∃ p ys, xs = [.ref p] ∧ (SqL K H p ys ∨ SqT K H p ys) ∧ ∀ l, H l = none → Q (.ref l) (upd H l (.lst ys))) (tCons (tSl (rSlU K) (tVar 0) tNoPart (tPart (tC (.int 63)))) tNil)), (tC (.str "at"), tC (.int 0)), (tC (.str "left"), tC (.int 0))]
theorem cut63 (xs : List D) : cut xs none (some 63) = xs.take 63 := by
  unfold cut
  have h0 : HT.sIx xs.length 0 none = 0 := rfl
  rw [h0, List.drop_zero, Nat.sub_zero]
  have h1 : HT.sIx xs.length xs.length (some 63) = min 63 xs.length := by
    unfold HT.sIx
    simp
    try omega
  rw [h1]
  by_cases h : xs.length ≤ 63
  · rw [Nat.min_eq_right h, List.take_of_length_le h, List.take_of_length_le (Nat.le_refl _)]
  · rw [Nat.min_eq_left (by omega)]
section
variable {P : Program} {w : World} {mg : Str → Option Value} {base : Heap} {k : Nat} {f : Addr} {fd : FuncData} {ps : List Str} {W : Wd}
theorem tPairs_c {kv : V} {tv : TE} {r : List (TE × TE)} {σ : L2.St} {H : Hp} {Q : List (V × V) → Hp → Prop} (h : tv σ H fun y H2 => tPairs r σ H2 fun ps H3 => Q ((kv, y) :: ps) H3) : tPairs ((tC kv, tv) :: r) σ H Q := h
theorem tPairs_cc {kv lv : V} {r : List (TE × TE)} {σ : L2.St} {H : Hp} {Q : List (V × V) → Hp → Prop} (h : tPairs r σ H fun ps H3 => Q ((kv, lv) :: ps) H3) : tPairs ((tC kv, tC lv) :: r) σ H Q := h
theorem pen_ok {G H : Hp} {x : V} {xs : List D} {Q : VK} (e : Same G H) (r : Rp W G x (.frl xs))
    (q : ∀ (p : Addr) (kvs : List (Key × V)) (G' H' : Hp), Gr G H G' H' → H p = none → H' p = some (.dK kvs) → G' p = none → kvs.map (·.1) = (pen0 xs).map (·.1) → RpAll W G' (kvs.map (·.2)) ((pen0 xs).map (·.2)) → Q (.ref p) H') :
    tPen W.K [some x] H Q := by
  have S0 : St W G H [some x] [.d (.frl xs)] := St.data (vs := [x]) (ds := [.frl xs]) e (.cons r .nil)
  intro p hp
  have gp : G p = none := e.free hp
  have no : ¬ own [some x] [Sl.d (.frl xs)] p := not_own_data (vs := [x]) (ds := [.frl xs])
  have S1 : St W G (upd H p (.dK [])) [some x] [.d (.frl xs)] := S0.mut gp no
  have hm : mLst (mList (mCons (mSl (mVar 0) mONone (mOSome (mC (.int 63)))) mNil)) [Sl.d (.frl xs)] = some (.lst (xs.take 63), [Sl.d (.frl xs)]) := by
    have : mLst (mList (mCons (mSl (mVar 0) mONone (mOSome (mC (.int 63)))) mNil)) [Sl.d (.frl xs)] = some (.lst (cut xs none (some 63)), [Sl.d (.frl xs)]) := rfl
    rw [this, cut63]
  refine tPairs_c ?_
  refine (se_f (sf_list (sa_cons (se_sl se_var so_none (so_some se_int)) sa_nil))) _ (fun d e1 => d = .lst (xs.take 63) ∧ e1 = [Sl.d (.frl xs)]) _ _ hm ⟨rfl, rfl⟩ G _ _ S1 _ fun v d G2 H2 e2 S2 T2 rv ⟨hd, he⟩ => ?_
  subst hd he
  have hp2 : H2 p = some (.dK []) := T2.fr p _ no upd_same
  have gp2 : G2 p = none := T2.nw p no (by rw [upd_same]; exact fun z => nomatch z) gp
  refine tPairs_cc (tPairs_cc ?_)
  refine ⟨hp2, [(.inr "cells", v), (.inr "at", .int 0), (.inr "left", .int 0)], rfl, (by show 3 ≤ 15; omega), ?_⟩
  refine q p [(.inr "cells", v), (.inr "at", .int 0), (.inr "left", .int 0)] G2 _ ⟨T2.gg, fun b u hb => ?_, fun b u hb => ?_, fun b hb hg => ?_⟩ hp ?_ gp2 rfl (.cons rv (.cons (.int 0) (.cons (.int 0) .nil)))
  · rw [upd_ne (ne_of_none hb gp2)]
    exact S2.gh b u hb
  · have ne : b ≠ p := ne_of_none hb hp
    rw [upd_ne ne]
    exact T2.fr b u (not_own_data (vs := [x]) (ds := [.frl xs])) (by rw [upd_ne ne]; exact hb)
  · have ne : b ≠ p := fun z => hb (by rw [z]; exact hp)
    exact T2.nw b (not_own_data (vs := [x]) (ds := [.frl xs])) (by rw [upd_ne ne]; exact hb) hg
  · rw [upd_same]
    rfl
theorem fn_pen {x qual : Str} {st : Stmt} {y : Str} (F : Fun W.K x qual st f fd) (S : FnScope [y] [y] (defScope st))
    (hbody : ∀ (cdv : Value) (A : Around) (outer : List PySem.Env) (s : Shared) (H : Hp) (E : XK), (Bx P w W.K mg base [y] qual st f cdv A outer s H E).A.guards = some [] → Room k (Bx P w W.K mg base [y] qual st f cdv A outer s H E).A →
      PSs (Bx P w W.K mg base [y] qual st f cdv A outer s H E) (defBody st) (tRet (tPen W.K))) : FnG P w W.K mg base (k + 1) f fd [y] (SpPen W) := by
  refine fn_g F S (fun vs H Q E h => ?_) fun cdv A outer s H vs Q E hg hr h => ?_
  · obtain ⟨_, _, _, l, _⟩ := h
    rw [l]
    rfl
  · obtain ⟨G, x, xs, hl, e, r, q⟩ := h
    subst hl
    exact ⟨_, (hbody cdv A outer s H E hg hr).nox, pen_ok e r q⟩
end
def frlOf : Sl → Option (List D)
  | .d (.frl xs) => some xs
  | _ => none
def mPen (i j : Nat) : MS := fun e => ((e[i]?).bind frlOf).bind fun xs => if freeB e j = true then some (.nx, e.set j (.od (pen0 xs))) else none
theorem ss_pen {W : Wd} {i j : Nat} : SimS W (tAsg (tG (SpPen W) (tCons (tVar i) tNil)) (gName j)) (mPen i j) := fun env P o e1 hm hr => by
  obtain ⟨xs, h1, hm⟩ := bind_of' hm
  obtain ⟨s, h2, h3⟩ := bind_of' h1
  split at hm
  · rename_i hz
    cases hm
    have hs : s = .d (.frl xs) := by
      unfold frlOf at h3
      split at h3
      · cases h3; rfl
      · cases h3
    subst hs
    intro G H σ E S n r b c
    obtain ⟨v, ev, rv⟩ := S.ok i _ h2
    refine ⟨v, ev, G, v, xs, rfl, S.gh, rv, fun p kvs G' H' g hp hp' gp' ke ra => ?_⟩
    have S1 := S.up g
    have no : ¬ own σ env p := fun z => by
      obtain ⟨_, o, ho⟩ := S.own_at z
      rw [hp] at ho
      cases ho
    exact n G' H' _ _ (S1.takeS (s := .od (pen0 xs)) ⟨p, kvs, rfl, gp', hp', ke, ra⟩ no) (Tr.takeS (freeB_of hz) (Tr.up S g) hp) hr
  · cases hm
end Nv

set_option Elab.async false
set_option linter.all false
set_option maxRecDepth 100000
set_option maxHeartbeats 4000000
/-! NvQ: == of data. -/
namespace Nv
open PySem L2 PyProof.Rows PySem.Spec
mutual
def D.deep : D → Bool
  | .lst xs => deepAll xs
  | .tup xs => deepAll xs
  | .dct _ => false
  | .ins _ _ => false
  | .ty _ => false
  | .frl _ => false
  | _ => true
def deepAll : List D → Bool
  | [] => true
  | d :: ds => d.deep && deepAll ds
end
mutual
theorem dp_of {W : Wd} {G : Hp} : ∀ (d : D) (v : V), Rp W G v d → d.deep = true → Dp W.K G v d.py
  | .non, _, r, _ => by rw [r.non_inv]; exact .non
  | .bl b, _, r, _ => by rw [r.bl_inv]; exact .bl b
  | .int i, _, r, _ => by rw [r.int_inv]; exact .int i
  | .str x, _, r, _ => by rw [r.str_inv]; exact .str x
  | .lst xs, _, r, h => by
    obtain ⟨a, vs, rfl, hs, ra⟩ := r.lst_inv
    exact .lst (.inl (.inl hs)) (dp_all xs vs ra h)
  | .tup xs, _, r, h => by
    obtain ⟨a, vs, rfl, hs, ra⟩ := r.tup_inv
    exact .tup hs (dp_all xs vs ra h)
  | .dct _, _, _, h => nomatch h
  | .ins _ _, _, _, h => nomatch h
  | .ty _, _, _, h => nomatch h
  | .frl _, _, _, h => nomatch h
theorem dp_all {W : Wd} {G : Hp} : ∀ (ds : List D) (vs : List V), RpAll W G vs ds → deepAll ds = true → DpAll W.K G vs (pyAll ds)
  | [], _, r, _ => by cases r; exact .nil
  | d :: ds, _, r, h => by
    have h : (d.deep && deepAll ds) = true := h
    rw [Bool.and_eq_true] at h
    cases r with
    | cons r1 r2 => exact .cons (dp_of d _ r1 h.1) (dp_all ds _ r2 h.2)
end
mutual
theorem dp_up {K : PySem.W.Frag} {G H : Hp} (e : Same G H) : ∀ (d : PyData) (v : V), Dp K G v d → Dp K H v d
  | .none, _, h => by cases h; exact .non
  | .bool b, _, h => by cases h; exact .bl b
  | .int i, _, h => by cases h; exact .int i
  | .str x, _, h => by cases h; exact .str x
  | .list ds, _, h => by
    cases h with
    | lst hs ha => exact .lst (Same.lst e hs) (dp_upAll e ds _ ha)
  | .tuple ds, _, h => by
    cases h with
    | tup hs ha => exact .tup (Same.tup e hs) (dp_upAll e ds _ ha)
  | .dict _, _, h => by cases h
theorem dp_upAll {K : PySem.W.Frag} {G H : Hp} (e : Same G H) : ∀ (ds : List PyData) (vs : List V), DpAll K G vs ds → DpAll K H vs ds
  | [], _, h => by cases h; exact .nil
  | d :: ds, _, h => by
    cases h with
    | cons h1 h2 => exact .cons (dp_up e d _ h1) (dp_upAll e ds _ h2)
end
def rEqX (K : PySem.W.Frag) : R2 := fun x y H Q => rEq x y H Q ∨ rEqD K x y H Q
def rNeX (K : PySem.W.Frag) : R2 := fun x y H Q => rNe x y H Q ∨ rNeD K x y H Q
theorem ka_eq {X : Cx} {K : PySem.W.Frag} (hu : X.A.units + 64 < cLine) (h : X.K = K) : OpR X (compareOp .Eq) (rEqX K) := h ▸ opr_or op_eq (op_eqD hu)
theorem ka_ne {X : Cx} {K : PySem.W.Frag} (hu : X.A.units + 64 < cLine) (h : X.K = K) : OpR X (compareOp .NotEq) (rNeX K) := h ▸ opr_or op_ne (op_neD hu)
def shp (d : D) : Bool := d.deep && SeqAt.shaped d.py
def eqX (x y : D) : Option Bool := match eqS x y with
  | some b => some b
  | none => if (shp x && shp y) = true then some (PyData.eqv x.py y.py) else none
def eqXD (x y : D) : Option D := (eqX x y).map .bl
def neXD (x y : D) : Option D := (eqX x y).map fun b => .bl (!b)
theorem opd_eqX {W : Wd} : OpD W (rEqX W.K) eqXD := by
  intro G H x y dx dy dz e rx ry ho Q q
  unfold eqXD at ho
  cases h : eqX dx dy with
  | none => rw [h] at ho; cases ho
  | some b =>
    rw [h] at ho
    cases ho
    unfold eqX at h
    cases h2 : eqS dx dy with
    | some c =>
      rw [h2] at h
      cases h
      exact .inl (opd_eq G H x y dx dy (.bl b) e rx ry (by unfold eqD; rw [h2]; rfl) Q q)
    | none =>
      rw [h2] at h
      have h : (if (shp dx && shp dy) = true then some (PyData.eqv dx.py dy.py) else none) = some b := h
      split at h
      · rename_i hz
        cases h
        unfold shp at hz
        simp only [Bool.and_eq_true] at hz
        exact .inr ⟨_, _, dp_up e _ _ (dp_of dx x rx hz.1.1), dp_up e _ _ (dp_of dy y ry hz.2.1), hz.1.2, hz.2.2, q _ G H (Gr.refl e) (.bl _)⟩
      · cases h
theorem opd_neX {W : Wd} : OpD W (rNeX W.K) neXD := by
  intro G H x y dx dy dz e rx ry ho Q q
  unfold neXD at ho
  cases h : eqX dx dy with
  | none => rw [h] at ho; cases ho
  | some b =>
    rw [h] at ho
    cases ho
    unfold eqX at h
    cases h2 : eqS dx dy with
    | some c =>
      rw [h2] at h
      cases h
      exact .inl (opd_ne G H x y dx dy (.bl (!b)) e rx ry (by unfold neD; rw [h2]; rfl) Q q)
    | none =>
      rw [h2] at h
      have h : (if (shp dx && shp dy) = true then some (PyData.eqv dx.py dy.py) else none) = some b := h
      split at h
      · rename_i hz
        cases h
        unfold shp at hz
        simp only [Bool.and_eq_true] at hz
        exact .inr ⟨_, _, dp_up e _ _ (dp_of dx x rx hz.1.1), dp_up e _ _ (dp_of dy y ry hz.2.1), hz.1.2, hz.2.2, q _ G H (Gr.refl e) (.bl _)⟩
      · cases h
/-! ### what no def is promised at the depth 0 -/
theorem fn_none {P : Program} {w : World} {W : Wd} {mg : Str → Option Value} {base : Heap} {f : Addr} {fd : FuncData} {ps : List Str} {n : Nat} (hn : ps.length = n) : FnG P w W.K mg base 0 f fd ps (SpD W n (PhiF fun _ => none)) := by
  subst hn
  refine ⟨fun vs H Q E h => ?_, fun A outer s H args us vs Q E hg hr he hb hv hs => ?_⟩
  · obtain ⟨_, _, _, l, _⟩ := h
    exact l
  · obtain ⟨_, _, _, _, _, _, ⟨_, _, z, _⟩, _⟩ := hs
    cases z
end Nv
namespace Nv
open PySem L2 PyProof.Rows PySem.Spec
def ltD : D → D → Option D := intD fun i j => some (.bl (decide (i < j)))
def leD : D → D → Option D := intD fun i j => some (.bl (decide (i ≤ j)))
def gtD : D → D → Option D := intD fun i j => some (.bl (decide (j < i)))
def geD : D → D → Option D := intD fun i j => some (.bl (decide (j ≤ i)))
def iaddD : D → D → Option D := intD fun i j => some (.int (i + j))
def mYes : M Bool := fun e => some (true, e)
/-! ### a dict display, as data -/
def mergeD (kvs more : List (Key × D)) : List (Key × D) := more.foldl (fun acc kv => putD acc kv.1 kv.2) kvs
def mPNil : M (List (Key × D)) := fun e => some ([], e)
def mPCons (k : Key) (a : M D) (r : M (List (Key × D))) : M (List (Key × D)) := fun e => (a e).bind fun p => (r p.2).bind fun q => some ((k, p.1) :: q.1, q.2)
def mDisp (r : M (List (Key × D))) : M D := fun e => (r e).bind fun p => if p.1.length ≤ 15 then some (.dct (mergeD [] p.1), p.2) else none
section
variable {W : Wd} {env : List Sl}
def KvR (W : Wd) (G : Hp) (kvs : List (Key × V)) (kds : List (Key × D)) : Prop := kvs.map (·.1) = kds.map (·.1) ∧ RpAll W G (kvs.map (·.2)) (kds.map (·.2))
theorem KvR.merge {G : Hp} : ∀ {more : List (Key × V)} {mds : List (Key × D)} {kvs : List (Key × V)} {kds : List (Key × D)}, KvR W G more mds → KvR W G kvs kds → KvR W G (mergeK kvs more) (mergeD kds mds)
  | [], [], _, _, _, h => h
  | [], _ :: _, _, _, h, _ => by cases h.1
  | _ :: _, [], _, _, h, _ => by cases h.1
  | (a, v) :: more, (b, x) :: mds, kvs, kds, h, k => by
    have e1 : a = b := (List.cons.inj h.1).1
    subst e1
    obtain ⟨h1, h2⟩ := h
    cases h2 with
    | cons r0 r1 => exact KvR.merge (more := more) (mds := mds) ⟨(List.cons.inj h1).2, r1⟩ (put_of (k := a) r0 k.1 k.2)
def EvP (W : Wd) (trs : List (TE × TE)) (env : List Sl) (R : List (Key × D) → List Sl → Prop) : Prop :=
  ∀ (G H : Hp) (σ : L2.St), St W G H σ env → ∀ Q : List (V × V) → Hp → Prop, (∀ kvs kds G' H' env', St W G' H' σ env' → Tr σ env G H σ env' G' H' → KvR W G' kvs kds → R kds env' → Q (kvs.map fun kv => (kV kv.1, kv.2)) H') → tPairs trs σ H Q
def SimP (W : Wd) (trs : List (TE × TE)) (m : M (List (Key × D))) : Prop := ∀ env R ds e1, m env = some (ds, e1) → R ds e1 → EvP W trs env R
theorem sp_nil : SimP W [] mPNil := fun env R x e1 hm hr => by
  cases hm
  exact fun G H σ S Q q => q [] [] G H env S (Tr.refl S) ⟨rfl, .nil⟩ hr
theorem sp_key {k : Key} {tv : TE} {mv : M D} {trs : List (TE × TE)} {mr : M (List (Key × D))} (ha : SimE W tv mv) (h : SimP W trs mr) : SimP W ((tC (kV k), tv) :: trs) (mPCons k mv mr) := fun env R d e1 hm hr => by
  obtain ⟨x, e2, h1, hm⟩ := bind_of hm
  obtain ⟨y, e3, h2, hm⟩ := bind_of hm
  cases hm
  intro G H σ S Q q
  refine tPairs_c ?_
  refine ha _ (fun d e => d = x ∧ e = e2) _ _ h1 ⟨rfl, rfl⟩ G H σ S _ fun v d G1 H1 e4 S1 T1 r1 ⟨z1, z2⟩ => ?_
  subst z1 z2
  refine h _ (fun kds e => kds = y ∧ e = e3) _ _ h2 ⟨rfl, rfl⟩ G1 H1 σ S1 _ fun kvs kds G2 H2 e5 S2 T2 r2 ⟨z3, z4⟩ => ?_
  subst z3 z4
  exact q ((k, v) :: kvs) ((k, d) :: kds) G2 H2 _ S2 (T1.trans' T2) ⟨by rw [List.map_cons, List.map_cons, r2.1], .cons (r1.up T2.gg) r2.2⟩ hr
theorem sp_str {x : Str} {tv : TE} {mv : M D} {trs : List (TE × TE)} {mr : M (List (Key × D))} (ha : SimE W tv mv) (h : SimP W trs mr) : SimP W ((tC (.str x), tv) :: trs) (mPCons (.inr x) mv mr) := sp_key (k := .inr x) ha h
theorem sp_int {x : Int} {tv : TE} {mv : M D} {trs : List (TE × TE)} {mr : M (List (Key × D))} (ha : SimE W tv mv) (h : SimP W trs mr) : SimP W ((tC (.int x), tv) :: trs) (mPCons (.inl x) mv mr) := sp_key (k := .inl x) ha h
theorem se_disp {trs : List (TE × TE)} {mr : M (List (Key × D))} (h : SimP W trs mr) : SimE W (tDisp trs) (mDisp mr) := fun env R d e1 hm hr => by
  obtain ⟨x, e2, h1, hm⟩ := bind_of hm
  split at hm
  · rename_i hz
    cases hm
    intro G H σ S Q q p hp
    have no : ¬ own σ env p := fun z => by
      obtain ⟨_, o, ho⟩ := S.own_at z
      rw [hp] at ho
      cases ho
    have S1 : St W G (upd H p (.dK [])) σ env := S.mut (S.gh.free hp) no
    refine h _ (fun kds e => kds = x ∧ e = e2) _ _ h1 ⟨rfl, rfl⟩ G _ σ S1 _ fun kvs kds G2 H2 e3 S2 T2 r2 ⟨z1, z2⟩ => ?_
    subst z1 z2
    have hp2 : H2 p = some (.dK []) := T2.fr p _ no upd_same
    have gp2 : G2 p = none := T2.nw p no (by rw [upd_same]; exact fun z => nomatch z) (S.gh.free hp)
    have no2 : ¬ own σ e3 p := fun z => by
      rcases T2.ow p z with y | y
      · exact no y
      · rw [upd_same] at y
        cases y
    have lk : kvs.length = kds.length := by
      have := congrArg List.length r2.1
      simpa using this
    obtain ⟨m1, m2⟩ := KvR.merge (kvs := []) (kds := []) r2 ⟨rfl, .nil⟩
    refine ⟨hp2, kvs, rfl, by rw [lk]; exact hz, ?_⟩
    have S3 : St W G2 (upd H2 p (.dK (mergeK [] kvs))) σ e3 := S2.mut gp2 no2
    have S4 := S3.freeze (p := p) (o := .dK (mergeK [] kvs)) upd_same gp2 no2
    have gg : Same G2 (upd G2 p (.dK (mergeK [] kvs))) := fun b u z => by
      rw [upd_ne (ne_of_none z gp2)]
      exact z
    have T3 : Tr σ env G H σ e3 G2 (upd H2 p (.dK (mergeK [] kvs))) := by
      have z := T2.del (A := p)
      rw [del_upd, del_off hp] at z
      have y := z.late (o := .dK (mergeK [] kvs)) hp
      have w : upd (Nv.del p H2) p (.dK (mergeK [] kvs)) = upd H2 p (.dK (mergeK [] kvs)) := by
        funext b
        by_cases hb : b = p
        · subst hb
          rw [upd_same, upd_same]
        · rw [upd_ne hb, upd_ne hb, del_ne hb]
      rw [w] at y
      exact y
    exact q _ _ _ _ e3 S4 (Tr.told S T3 hp) (.dct (.inl upd_same) m1 (m2.up gg)) hr
  · cases hm
end
end Nv
namespace Nv
open PySem L2 PyProof.Rows PySem.Spec
theorem u64 {k : Nat} {A : Around} (r : Room k A) : A.units + 64 < cLine := by have := r.un; omega
theorem u1 {k : Nat} {A : Around} (r : Room k A) : A.units + 1 < cLine := by have := r.un; omega
end Nv

set_option Elab.async false
set_option linter.all false
set_option maxRecDepth 100000
set_option maxHeartbeats 4000000
/-! NvT: is not None; texts joined; lists of one's own read and stored into by place. -/
namespace Nv
open PySem L2 PyProof.Rows PySem.Spec
section
variable {W : Wd} {G H : Hp} {σ : L2.St} {env : List Sl}
theorem op_noU {X : Cx} : OpR X (compareOp .IsNot) rNoU := opr_or op_notN1 op_notBl
theorem opd_no : OpD W rNoU noD := by
  intro G H x y dx dy dz e rx ry ho Q q
  cases dy with
  | non =>
    have ho : some (D.bl (!isNon dx)) = some dz := by cases dx <;> exact ho
    cases ho
    rw [ry.non_inv]
    exact .inl ⟨rfl, by rw [isNon_of rx]; exact q _ G H (Gr.refl e) (.bl _)⟩
  | bl b =>
    cases dx <;> first | (cases ho; done) | skip
    cases ho
    rw [rx.bl_inv, ry.bl_inv]
    exact .inr ⟨_, b, rfl, rfl, q _ G H (Gr.refl e) (.bl _)⟩
  | _ => cases dx <;> cases ho
/-! ### s.join(xs) -/
def strsOf : List D → Option (List Str)
  | [] => some []
  | .str s :: r => (strsOf r).map (s :: ·)
  | _ => none
theorem strsOf_of : ∀ {ds : List D} {ss : List Str}, strsOf ds = some ss → ds = ss.map D.str
  | [], _, h => by cases h; rfl
  | d :: ds, ss, h => by
    cases d <;> first | (cases h; done) | skip
    rename_i s
    have h : (strsOf ds).map (s :: ·) = some ss := h
    cases q : strsOf ds with
    | none => rw [q] at h; cases h
    | some cs =>
      rw [q] at h
      cases h
      rw [strsOf_of q]
      rfl
theorem rp_strs_inv {G : Hp} : ∀ {vs : List V} {ss : List Str}, RpAll W G vs (ss.map D.str) → vs = ss.map V.str
  | _, [], r => by cases r; rfl
  | _, s :: ss, r => by
    cases r with
    | cons h k =>
      rw [h.str_inv, rp_strs_inv k]
      rfl
def joinB (a : Str) (ys : List Str) : Bool := decide ((ys.map (·.length)).sum + ys.length * a.length ≤ 16777216)
def joinD : D → D → Option D
  | .str a, .lst xs => (strsOf xs).bind fun ys => if joinB a ys = true then some (.str (Txt.join a ys)) else none
  | .str a, .tup xs => (strsOf xs).bind fun ys => if joinB a ys = true then some (.str (Txt.join a ys)) else none
  | _, _ => none
theorem md_join : MetD W (fun x xs H Q => ∃ a p, ∃ ys : List Str, x = .str a ∧ xs = [.ref p] ∧ (SqL W.K H p (ys.map V.str) ∨ SqT W.K H p (ys.map V.str)) ∧
      (ys.map (·.length)).sum + ys.length * a.length ≤ 16777216 ∧ Q (.str (Txt.join a ys)) H) joinD := by
  intro G H x y dx dy dz e rx ry ho Q q
  cases dx <;> first | (cases ho; done) | skip
  cases dy <;> first | (cases ho; done) | skip
  all_goals
    rename_i a xs
    have ho : ((strsOf xs).bind fun ys => if joinB a ys = true then some (D.str (Txt.join a ys)) else none) = some dz := ho
    obtain ⟨ys, h1, h2⟩ := bind_of' ho
    split at h2
    · rename_i hz
      cases h2
      have ex := strsOf_of h1
      subst ex
      have hb := of_decide_eq_true hz
      first
        | (obtain ⟨p, vs, rfl, hs, ra⟩ := ry.lst_inv
           rw [rp_strs_inv ra] at hs
           rw [rx.str_inv]
           exact ⟨a, p, ys, rfl, rfl, .inl (.inl (.inl (e _ _ hs))), hb, q _ G H (Gr.refl e) (.str _)⟩)
        | (obtain ⟨p, vs, rfl, hs, ra⟩ := ry.tup_inv
           rw [rp_strs_inv ra] at hs
           rw [rx.str_inv]
           exact ⟨a, p, ys, rfl, rfl, .inr (Same.tup e hs), hb, q _ G H (Gr.refl e) (.str _)⟩)
    · cases h2

/-! ### xs[i], xs[i] = v, xs one's own -/
def Sl.list : Sl → Option (List D)
  | .ol xs => some xs
  | .pl xs => some xs
  | _ => none
def Sl.listTo : Sl → List D → Sl
  | .pl _, xs => .pl xs
  | _, xs => .ol xs
theorem OkS.list {ov : Option (Option V)} {s : Sl} {xs : List D} (h : OkS W G H ov s) (e : s.list = some xs) : ∃ l vs, ov = some (some (.ref l)) ∧ G l = none ∧ H l = some (.lst vs) ∧ RpAll W G vs xs := by
  cases s <;> first | (cases e; done) | skip
  all_goals
    cases e
    exact h
theorem list_owned {s : Sl} {xs : List D} (e : s.list = some xs) : s.owned = true := by
  cases s <;> first | rfl | cases e
def isL (i : Nat) (e : Env) : Option (List D) := (e[i]?).bind Sl.list
theorem isL_of {i : Nat} {e : Env} {xs : List D} (h : isL i e = some xs) : ∃ s, e[i]? = some s ∧ s.list = some xs := by
  obtain ⟨s, h1, h2⟩ := bind_of' h
  exact ⟨s, h1, h2⟩
def mLGet (i : Nat) (a : M D) : M D := fun e => (isL i e).bind fun _ => (a e).bind fun p => (isL i p.2).bind fun xs => (isInt p.1).bind fun k => (atI xs k).bind fun d => some (d, p.2)
theorem se_lget {i : Nat} {ta : TE} {ma : M D} (ha : SimE W ta ma) : SimE W (tOp (rIxU W.K) (tVar i) ta) (mLGet i ma) := fun env R d e1 hm hr => by
  obtain ⟨k0, h0, hm⟩ := bind_of' hm
  obtain ⟨y, e2, h1, hm⟩ := bind_of hm
  obtain ⟨xs, h2, hm⟩ := bind_of' hm
  obtain ⟨k, h3, hm⟩ := bind_of' hm
  obtain ⟨z, h4, hm⟩ := bind_of' hm
  cases hm
  obtain ⟨s0, a1, a2⟩ := isL_of h0
  obtain ⟨s, b1, b2⟩ := isL_of h2
  intro G H σ S Q q
  obtain ⟨p, _, ev, _⟩ := (S.ok i _ a1).list a2
  refine ⟨.ref p, ev, ha _ (fun x e => x = y ∧ e = e2) _ _ h1 ⟨rfl, rfl⟩ G H σ S _ fun v dv G1 H1 e3 S1 T1 rv ⟨z1, z2⟩ => ?_⟩
  subst z1 z2
  obtain ⟨p', vs, ev', g1, hh, ra⟩ := (S1.ok i _ b1).list b2
  rw [ev] at ev'
  cases ev'
  obtain ⟨w, w1, w2⟩ := ra.atI h4
  have ek : dv = .int k := isInt_of h3
  rw [ek] at rv
  rw [rv.int_inv]
  exact .inl ⟨p, vs, k, w, rfl, rfl, .inl (.inl hh), w1, q w _ G1 H1 _ S1 T1 w2 hr⟩
def mLPut (i : Nat) (k : Int) (a : M D) : MS := fun e => (a e).bind fun p => (p.2[i]?).bind fun s => s.list.bind fun xs => (ixN xs.length k).bind fun j => some (.nx, p.2.set i (s.listTo (xs.set j p.1)))
theorem ss_lput {i : Nat} {k : Int} {te : TE} {me : M D} (ha : SimE W te me) : SimS W (tAsg te (gSub (tVar i) (tC (.int k)) rSetL)) (mLPut i k me) := fun env P o e1 hm hr => by
  obtain ⟨x, e2, h1, hm⟩ := bind_of hm
  obtain ⟨s, h2, hm⟩ := bind_of' hm
  obtain ⟨xs, h3, hm⟩ := bind_of' hm
  obtain ⟨j, h4, hm⟩ := bind_of' hm
  cases hm
  intro G H σ E S n r b c
  refine ha _ (fun y e => y = x ∧ e = e2) _ _ h1 ⟨rfl, rfl⟩ G H σ S _ fun v d G1 H1 e3 S1 T1 rv ⟨z1, z2⟩ => ?_
  subst z1 z2
  obtain ⟨p, vs, ev, g1, hh, ra⟩ := (S1.ok i _ h2).list h3
  have os := list_owned h3
  refine ⟨.ref p, ev, p, vs, k, j, rfl, rfl, hh, by rw [ra.length]; exact h4, n G1 _ σ _ (S1.chg (o := .lst (vs.set j v)) h2 os ev ?_) (T1.trans S (Tr.chg S1 h2 os ev ?_)) hr⟩
  · cases s <;> first | (cases h3; done) | skip
    all_goals
      cases h3
      exact ⟨p, _, rfl, g1, upd_same, ra.set rv j⟩
  · cases s <;> first | (cases h3; done) | skip
    all_goals
      intro y
      first | rfl | cases y
end
end Nv

set_option Elab.async false
set_option linter.all false
set_option maxRecDepth 100000
set_option maxHeartbeats 4000000
/-! NvU: what is one's own is looked at and stays one's own; calls that hand on several things of one's own. -/
namespace Nv
open PySem L2 PyProof.Rows PySem.Spec

/-! ### looked at -/
def Sl.frz : Sl → Sl
  | .no => .no
  | .d x => .d x
  | .ol xs => .d (.lst xs)
  | .pl xs => .d (.lst xs)
  | .od kvs => .d (.dct kvs)
  | .pd kvs => .d (.dct kvs)
theorem Sl.frz_owned (s : Sl) : s.frz.owned = false := by cases s <;> rfl
theorem Sl.frz_pinned (s : Sl) : s.frz.pinned = false := by cases s <;> rfl
section
variable {W : Wd} {G H : Hp} {σ : L2.St} {env : List Sl}
theorem frz_get {i : Nat} {s : Sl} (e : (env.map Sl.frz)[i]? = some s) : ∃ t, env[i]? = some t ∧ s = t.frz := by
  rw [List.getElem?_map] at e
  cases q : env[i]? with
  | none => rw [q] at e; cases e
  | some t =>
    rw [q] at e
    cases e
    exact ⟨t, rfl, rfl⟩
open Classical in
theorem St.frzAll (S : St W G H σ env) : ∃ G2, Same G G2 ∧ St W G2 H σ (env.map Sl.frz) := by
  refine ⟨fun b => if own σ env b then H b else G b, fun b o h => ?_, fun b o h => ?_, by rw [List.length_map]; exact S.len, fun i s e => ?_, fun i j s t l e1 o1 => ?_⟩
  · show (if own σ env b then H b else G b) = some o
    split
    · exact S.gh b o h
    · exact h
  · have h : (if own σ env b then H b else G b) = some o := h
    split at h
    · exact h
    · exact S.gh b o h
  · obtain ⟨t, e0, rfl⟩ := frz_get e
    have q := S.ok i t e0
    have gg : Same G (fun b => if own σ env b then H b else G b) := fun b o h => by
      show (if own σ env b then H b else G b) = some o
      split
      · exact S.gh b o h
      · exact h
    have at_ : ∀ (l : Addr), σ[i]? = some (some (.ref l)) → t.owned = true → (if own σ env l then H l else G l) = H l := fun l e1 e2 => if_pos ⟨i, t, e0, e2, e1⟩
    cases t with
    | no => exact trivial
    | d x =>
      obtain ⟨v, e1, r⟩ := q
      exact ⟨v, e1, r.up gg⟩
    | ol xs =>
      obtain ⟨l, vs, e1, a, b, r⟩ := q
      exact ⟨.ref l, e1, .lst ((at_ l e1 rfl).trans b) (r.up gg)⟩
    | pl xs =>
      obtain ⟨l, vs, e1, a, b, r⟩ := q
      exact ⟨.ref l, e1, .lst ((at_ l e1 rfl).trans b) (r.up gg)⟩
    | od kvs =>
      obtain ⟨l, vs, e1, a, b, c, r⟩ := q
      exact ⟨.ref l, e1, .dct (.inl ((at_ l e1 rfl).trans b)) c (r.up gg)⟩
    | pd kvs =>
      obtain ⟨l, vs, e1, a, b, c, r⟩ := q
      exact ⟨.ref l, e1, .dct (.inl ((at_ l e1 rfl).trans b)) c (r.up gg)⟩
  · obtain ⟨t, _, rfl⟩ := frz_get e1
    rw [Sl.frz_owned] at o1
    cases o1
theorem not_own_frz {b : Addr} : ¬ own σ (env.map Sl.frz) b := fun ⟨i, s, e, o, _⟩ => by
  obtain ⟨t, _, rfl⟩ := frz_get e
  rw [Sl.frz_owned] at o
  cases o
theorem Gr.peek {G2 G' H' : Hp} {e' : List Sl} (S : St W G H σ env) (T : Tr σ (env.map Sl.frz) G2 H σ e' G' H') : Gr G H G H' := by
  have hh : Same H H' := fun b o h => T.fr b o not_own_frz h
  exact ⟨Same.refl G, fun b o h => hh b o (S.gh b o h), hh, fun _ _ h => h⟩
def scalB : D → Bool
  | .non => true
  | .bl _ => true
  | .int _ => true
  | .str _ => true
  | _ => false
theorem rp_scal {G' : Hp} {v : V} {d : D} (h : scalB d = true) (r : Rp W G' v d) : Rp W G v d := by
  cases d <;> first | (cases h; done) | skip
  · rw [r.non_inv]; exact .non
  · rw [r.bl_inv]; exact .bl _
  · rw [r.int_inv]; exact .int _
  · rw [r.str_inv]; exact .str _
end
def mPeek (m : M D) : M D := fun e => (m (e.map Sl.frz)).bind fun p => if scalB p.1 = true then some (p.1, e) else none
theorem se_peek {W : Wd} {te : TE} {m : M D} (h : SimE W te m) : SimE W te (mPeek m) := fun env R d e1 hm hr => by
  obtain ⟨x, e2, h1, hm⟩ := bind_of hm
  split at hm
  · rename_i hz
    cases hm
    intro G H σ S Q q
    obtain ⟨G2, gg, S2⟩ := S.frzAll
    refine h _ (fun y _ => y = x) _ _ h1 rfl G2 H σ S2 Q fun v d G' H' e' S' T' r hd => ?_
    subst hd
    have g := Gr.peek S T'
    exact q v d G H' env (S.up g) (Tr.up S g) (rp_scal hz r) hr
  · cases hm
def mPeekT (m : M Bool) : M Bool := fun e => (m (e.map Sl.frz)).bind fun p => some (p.1, e)
theorem st_peek {W : Wd} {tt : TT} {m : M Bool} (h : SimT W tt m) : SimT W tt (mPeekT m) := fun env R d e1 hm hr => by
  obtain ⟨x, e2, h1, hm⟩ := bind_of hm
  cases hm
  intro G H σ S Q q
  obtain ⟨G2, gg, S2⟩ := S.frzAll
  refine h _ (fun y _ => y = x) _ _ h1 rfl G2 H σ S2 Q fun b G' H' e' S' T' hb => ?_
  subst hb
  have g := Gr.peek S T'
  exact q b G H' env (S.up g) (Tr.up S g) hr

/-! ### calls with several things of one's own -/
inductive Am where
  | dat (d : D)
  | own (i : Nat)
def AmOk (W : Wd) (G : Hp) (σ : L2.St) (v : V) : Am → Prop
  | .dat d => Rp W G v d
  | .own i => σ[i]? = some (some v)
def AmAll (W : Wd) (G : Hp) (σ : L2.St) : List V → List Am → Prop
  | [], [] => True
  | v :: vs, a :: as => AmOk W G σ v a ∧ AmAll W G σ vs as
  | _, _ => False
theorem AmAll.up {W : Wd} {G G' : Hp} {σ : L2.St} (e : Same G G') : ∀ {vs : List V} {as : List Am}, AmAll W G σ vs as → AmAll W G' σ vs as
  | [], [], _ => trivial
  | [], _ :: _, h => h
  | _ :: _, [], h => h
  | _ :: _, .dat d :: _, ⟨h, k⟩ => ⟨Rp.up e h, AmAll.up e k⟩
  | _ :: _, .own i :: _, ⟨h, k⟩ => ⟨h, AmAll.up e k⟩
theorem AmAll.length {W : Wd} {G : Hp} {σ : L2.St} : ∀ {vs : List V} {as : List Am}, AmAll W G σ vs as → vs.length = as.length
  | [], [], _ => rfl
  | [], _ :: _, h => h.elim
  | _ :: _, [], h => h.elim
  | _ :: _, _ :: _, ⟨_, k⟩ => congrArg Nat.succ (AmAll.length k)
theorem AmAll.get {W : Wd} {G : Hp} {σ : L2.St} : ∀ {vs : List V} {as : List Am} {k : Nat} {a : Am}, AmAll W G σ vs as → as[k]? = some a → ∃ v, vs[k]? = some v ∧ AmOk W G σ v a
  | [], [], _, _, _, e => by simp at e
  | [], _ :: _, _, _, h, _ => h.elim
  | _ :: _, [], _, _, h, _ => h.elim
  | v :: _, a :: _, 0, _, ⟨h, _⟩, e => by
    simp at e
    subst e
    exact ⟨v, rfl, h⟩
  | _ :: _, _ :: _, k + 1, _, ⟨_, h⟩, e => by
    obtain ⟨w, q, r⟩ := h.get (k := k) (by simpa using e)
    exact ⟨w, by simpa using q, r⟩
/-- the slot that an argument is for the callee -/
def Am.slot (e : Env) : Am → Option Sl
  | .dat d => some (.d d)
  | .own i => (isOwn i e).map Sl.lend
def slots (e : Env) : List Am → Option (List Sl)
  | [] => some []
  | a :: as => (a.slot e).bind fun s => (slots e as).map (s :: ·)
def ownsOf : List Am → List Nat
  | [] => []
  | .dat _ :: as => ownsOf as
  | .own i :: as => i :: ownsOf as
def distinctB : List Nat → Bool
  | [] => true
  | i :: is => !is.contains i && distinctB is
def backs : List Am → List Sl → Env → Env
  | .own i :: as, s' :: ss, e => backs as ss (e.set i (((e[i]?).getD .no).back s'))
  | .dat _ :: as, _ :: ss, e => backs as ss e
  | _, _, e => e
theorem backs_len : ∀ (as : List Am) (ss : List Sl) (e : Env), (backs as ss e).length = e.length
  | [], _, _ => by unfold backs; rfl
  | .own i :: as, [], _ => rfl
  | .dat _ :: as, [], _ => rfl
  | .own i :: as, s :: ss, e => by
    show (backs as ss _).length = _
    rw [backs_len, List.length_set]
  | .dat _ :: as, _ :: ss, e => backs_len as ss e
theorem backs_off {i : Nat} : ∀ (as : List Am) (ss : List Sl) (e : Env), i ∉ ownsOf as → (backs as ss e)[i]? = e[i]?
  | [], _, _, _ => by unfold backs; rfl
  | .own j :: as, [], _, _ => rfl
  | .dat _ :: as, [], _, _ => rfl
  | .own j :: as, s :: ss, e, h => by
    show (backs as ss _)[i]? = _
    have hj : j ≠ i := fun z => h (by subst z; exact List.mem_cons_self)
    rw [backs_off as ss _ (fun z => h (List.mem_cons_of_mem _ z)), List.getElem?_set_ne hj]
  | .dat _ :: as, _ :: ss, e, h => backs_off as ss e h
theorem backs_at {i : Nat} {t s' : Sl} : ∀ (as : List Am) (ss : List Sl) (e : Env) (k : Nat), distinctB (ownsOf as) = true → as[k]? = some (.own i) → ss[k]? = some s' → e[i]? = some t → (backs as ss e)[i]? = some (t.back s')
  | [], _, _, _, _, h, _, _ => by simp at h
  | _ :: _, [], _, _, _, _, h, _ => by simp at h
  | .own j :: as, s :: ss, e, 0, hd, h1, h2, h3 => by
    simp at h1 h2
    subst h1 h2
    have hd : (!(ownsOf as).contains j && distinctB (ownsOf as)) = true := hd
    rw [Bool.and_eq_true] at hd
    have hn : j ∉ ownsOf as := by
      have := hd.1
      simpa using this
    show (backs as ss _)[j]? = _
    rw [backs_off as ss _ hn, List.getElem?_set_self (List.getElem?_eq_some_iff.mp h3).1, h3]
    rfl
  | .dat _ :: as, s :: ss, e, 0, hd, h1, h2, h3 => by simp at h1
  | .own j :: as, s :: ss, e, k + 1, hd, h1, h2, h3 => by
    have hd : (!(ownsOf as).contains j && distinctB (ownsOf as)) = true := hd
    rw [Bool.and_eq_true] at hd
    have hn : j ∉ ownsOf as := by
      have := hd.1
      simpa using this
    have hm : ∀ (as : List Am) (k : Nat), as[k]? = some (.own i) → i ∈ ownsOf as := by
      intro as
      induction as with
      | nil => intro k h; simp at h
      | cons a as ih =>
        intro k h
        cases k with
        | zero =>
          simp at h
          subst h
          exact List.mem_cons_self
        | succ k =>
          have := ih k (by simpa using h)
          cases a with
          | dat d => exact this
          | own m => exact List.mem_cons_of_mem _ this
    have h1 : as[k]? = some (.own i) := by simpa using h1
    have hj : j ≠ i := fun z => hn (by subst z; exact hm as k h1)
    show (backs as ss _)[i]? = _
    exact backs_at as ss _ k hd.2 h1 (by simpa using h2) (by rw [List.getElem?_set_ne hj]; exact h3)
  | .dat _ :: as, s :: ss, e, k + 1, hd, h1, h2, h3 => backs_at as ss e k hd (by simpa using h1) (by simpa using h2) h3
theorem owns_at {i : Nat} : ∀ {as : List Am}, i ∈ ownsOf as → ∃ k : Nat, as[k]? = some (Am.own i)
  | [], h => by cases h
  | .dat _ :: as, h => by
    obtain ⟨k, e⟩ := owns_at (as := as) h
    exact ⟨k + 1, by simpa using e⟩
  | .own j :: as, h => by
    rcases List.mem_cons.mp h with z | z
    · exact ⟨0, by rw [z]; rfl⟩
    · obtain ⟨k, e⟩ := owns_at (as := as) z
      exact ⟨k + 1, by simpa using e⟩
theorem owns_mem {i : Nat} : ∀ {as : List Am} {k : Nat}, as[k]? = some (.own i) → i ∈ ownsOf as
  | [], k, h => by simp at h
  | .dat _ :: as, 0, h => by simp at h
  | .dat _ :: as, k + 1, h => owns_mem (as := as) (k := k) (by simpa using h)
  | .own j :: as, 0, h => by
    simp at h
    subst h
    exact List.mem_cons_self
  | .own j :: as, k + 1, h => List.mem_cons_of_mem _ (owns_mem (as := as) (k := k) (by simpa using h))
theorem owns_inj {i : Nat} : ∀ {as : List Am} {k l : Nat}, distinctB (ownsOf as) = true → as[k]? = some (.own i) → as[l]? = some (.own i) → k = l
  | [], k, l, _, h, _ => by simp at h
  | .dat _ :: as, 0, _, _, h, _ => by simp at h
  | .dat _ :: as, _, 0, _, _, h => by simp at h
  | .dat _ :: as, k + 1, l + 1, hd, h1, h2 => congrArg Nat.succ (owns_inj (as := as) hd (by simpa using h1) (by simpa using h2))
  | .own j :: as, 0, 0, _, _, _ => rfl
  | .own j :: as, 0, l + 1, hd, h1, h2 => by
    simp at h1
    subst h1
    have hd : (!(ownsOf as).contains j && distinctB (ownsOf as)) = true := hd
    rw [Bool.and_eq_true] at hd
    have hn : j ∉ ownsOf as := by
      have := hd.1
      simpa using this
    exact absurd (owns_mem (as := as) (k := l) (by simpa using h2)) hn
  | .own j :: as, k + 1, 0, hd, h1, h2 => by
    simp at h2
    subst h2
    have hd : (!(ownsOf as).contains j && distinctB (ownsOf as)) = true := hd
    rw [Bool.and_eq_true] at hd
    have hn : j ∉ ownsOf as := by
      have := hd.1
      simpa using this
    exact absurd (owns_mem (as := as) (k := k) (by simpa using h1)) hn
  | .own j :: as, k + 1, l + 1, hd, h1, h2 => by
    have hd : (!(ownsOf as).contains j && distinctB (ownsOf as)) = true := hd
    rw [Bool.and_eq_true] at hd
    exact congrArg Nat.succ (owns_inj (as := as) hd.2 (by simpa using h1) (by simpa using h2))
theorem slots_len {e : Env} : ∀ {as : List Am} {ss : List Sl}, slots e as = some ss → ss.length = as.length
  | [], _, h => by cases h; rfl
  | a :: as, ss, h => by
    obtain ⟨s, h1, h2⟩ := bind_of' (show (a.slot e).bind (fun s => (slots e as).map (s :: ·)) = some ss from h)
    cases q : slots e as with
    | none => rw [q] at h2; cases h2
    | some r =>
      rw [q] at h2
      cases h2
      exact congrArg Nat.succ (slots_len q)
theorem slots_get {e : Env} : ∀ {as : List Am} {ss : List Sl} {k : Nat} {s : Sl}, slots e as = some ss → ss[k]? = some s → ∃ a, as[k]? = some a ∧ a.slot e = some s
  | [], _, k, _, h, e1 => by cases h; simp at e1
  | a :: as, ss, k, s, h, e1 => by
    obtain ⟨s0, h1, h2⟩ := bind_of' (show (a.slot e).bind (fun s => (slots e as).map (s :: ·)) = some ss from h)
    cases q : slots e as with
    | none => rw [q] at h2; cases h2
    | some r =>
      rw [q] at h2
      cases h2
      cases k with
      | zero =>
        have e1 : some s0 = some s := e1
        cases e1
        exact ⟨a, rfl, h1⟩
      | succ k =>
        obtain ⟨b, h3, h4⟩ := slots_get (k := k) q (by simpa using e1)
        exact ⟨b, by simpa using h3, h4⟩
theorem slot_own {e : Env} {i : Nat} {s : Sl} (h : (Am.own i).slot e = some s) : ∃ t, e[i]? = some t ∧ t.owned = true ∧ s = t.lend := by
  have h : (isOwn i e).map Sl.lend = some s := h
  cases q : isOwn i e with
  | none => rw [q] at h; cases h
  | some t =>
    rw [q] at h
    cases h
    obtain ⟨a, b⟩ := isOwn_of q
    exact ⟨t, a, b, rfl⟩
section
variable {W : Wd} {G H : Hp} {σ : L2.St} {env : List Sl} {n : Nat} {Phi : Fs}
theorem args_st {vs : List V} {ms : List Am} {as : List Sl} (S : St W G H σ env) (ha : AmAll W G σ vs ms) (hs : slots env ms = some as) (hd : distinctB (ownsOf ms) = true) :
    St W G H (vs.map some) as ∧ (∀ s ∈ as, ArgOk s) ∧ (∀ b, own (vs.map some) as b → own σ env b) ∧ (∀ b, own (vs.map some) as b → ∃ i ∈ ownsOf ms, σ[i]? = some (some (.ref b))) := by
  have lv : vs.length = as.length := by rw [ha.length, slots_len hs]
  have own_at : ∀ {k : Nat} {s : Sl} {l : Addr}, as[k]? = some s → s.owned = true → (vs.map some)[k]? = some (some (.ref l)) → ∃ i t, ms[k]? = some (.own i) ∧ env[i]? = some t ∧ t.owned = true ∧ s = t.lend ∧ σ[i]? = some (some (.ref l)) := fun {k s l} e o v => by
    obtain ⟨a, h1, h2⟩ := slots_get hs e
    obtain ⟨w, h3, h4⟩ := ha.get h1
    cases a with
    | dat d =>
      cases h2
      cases o
    | own i =>
      obtain ⟨t, h5, h6, h7⟩ := slot_own h2
      rw [List.getElem?_map, h3] at v
      have v : some (some w) = some (some (V.ref l)) := v
      cases v
      exact ⟨i, t, h1, h5, h6, h7, h4⟩
  refine ⟨⟨S.gh, by rw [List.length_map, lv], fun k s e => ?_, fun k l s t b e1 o1 v1 e2 o2 v2 => ?_⟩, fun s hm => ?_, fun b ⟨k, s, e, o, v⟩ => ?_, fun b ⟨k, s, e, o, v⟩ => ?_⟩
  · obtain ⟨a, h1, h2⟩ := slots_get hs e
    obtain ⟨w, h3, h4⟩ := ha.get h1
    rw [List.getElem?_map, h3]
    cases a with
    | dat d =>
      cases h2
      exact ⟨w, rfl, h4⟩
    | own i =>
      obtain ⟨t, h5, h6, rfl⟩ := slot_own h2
      have q := (S.ok i t h5).lend
      rw [show σ[i]? = some (some w) from h4] at q
      exact q
  · obtain ⟨i, t1, a1, a2, a3, _, a5⟩ := own_at e1 o1 v1
    obtain ⟨j, t2, b1, b2, b3, _, b5⟩ := own_at e2 o2 v2
    have : i = j := S.ds i j t1 t2 b a2 a3 a5 b2 b3 b5
    subst this
    exact owns_inj hd a1 b1
  · obtain ⟨k, hk⟩ := List.getElem?_of_mem hm
    obtain ⟨a, h1, h2⟩ := slots_get hs hk
    cases a with
    | dat d =>
      cases h2
      exact trivial
    | own i =>
      obtain ⟨t, h5, h6, rfl⟩ := slot_own h2
      cases t <;> first | exact trivial | cases h6
  · obtain ⟨i, t, a1, a2, a3, _, a5⟩ := own_at e o v
    exact ⟨i, t, a2, a3, a5⟩
  · obtain ⟨i, t, a1, a2, a3, _, a5⟩ := own_at e o v
    exact ⟨i, owns_mem a1, a5⟩
theorem Sl.back_owned {t s' : Sl} (h : s'.pinned = true) : (t.back s').owned = true := by
  unfold Sl.back
  split
  · exact Sl.pinned_owned h
  · cases s' <;> first | rfl | cases h
/-- the callee's promise at such arguments -/
theorem sp_args {vs : List V} {ms : List Am} {as : List Sl} {R : D → List Sl → Prop} {Q : VK} {E : XK} (S : St W G H σ env) (ha : AmAll W G σ vs ms) (hs : slots env ms = some as) (hd : distinctB (ownsOf ms) = true) (hl : ms.length = n)
    (hP : Phi as fun d as' => R d (backs ms as' env)) (q : ∀ v d G' H' env', St W G' H' σ env' → Tr σ env G H σ env' G' H' → Rp W G' v d → R d env' → env'.length = env.length → (∀ i ∈ ownsOf ms, ∃ t, env'[i]? = some t ∧ t.owned = true) → Q v H') : SpD W n Phi vs H Q E := by
  obtain ⟨SA, hok, hown, hidx⟩ := args_st S ha hs hd
  refine ⟨G, as, _, by rw [ha.length, hl], SA, hok, hP, fun v d G' H' as' S' T' rv k => ?_⟩
  let A : Addr → Prop := fun b => own (vs.map some) as b
  have hh : ∀ b o, ¬ A b → H b = some o → H' b = some o := fun b o n h => T'.fr b o n h
  have nw : ∀ b, ¬ A b → H b ≠ none → G b = none → G' b = none := fun b n => T'.nw b n
  -- a slot that was handed on
  have lent : ∀ {i : Nat}, i ∈ ownsOf ms → ∃ t l s', env[i]? = some t ∧ t.owned = true ∧ σ[i]? = some (some (.ref l)) ∧ (backs ms as' env)[i]? = some (t.back s') ∧ OkS W G' H' (some (some (.ref l))) s' ∧ s'.pinned = true := fun {i} hi => by
    obtain ⟨k, hk⟩ := owns_at hi
    obtain ⟨w, h3, h4⟩ := ha.get hk
    have lk : k < as.length := by
      rw [slots_len hs]
      exact (List.getElem?_eq_some_iff.mp hk).1
    have hk2 : as[k]? = some as[k] := by simp [lk]
    obtain ⟨a, h1, h2⟩ := slots_get hs hk2
    rw [hk] at h1
    cases h1
    obtain ⟨t, h5, h6, h7⟩ := slot_own h2
    obtain ⟨l, hl⟩ := (S.ok i t h5).addr h6
    have hw : w = .ref l := by
      have := h4.symm.trans hl
      cases this
      rfl
    subst hw
    have lp : as[k].pinned = true := by rw [h7]; exact Sl.lend_pinned h6
    obtain ⟨e1, s', e2, p2⟩ := T'.pn k as[k] hk2 lp
    have ok2 := S'.ok k s' e2
    rw [List.getElem?_map, h3] at ok2
    exact ⟨t, l, s', h5, h6, hl, backs_at ms as' env k hd hk e2 h5, ok2, p2⟩
  have S2 : St W G' H' σ (backs ms as' env) := S.swap A T'.gg S'.gh hh nw (backs_len _ _ _) fun i s e => by
    by_cases z : i ∈ ownsOf ms
    · obtain ⟨t, l, s', h5, h6, hl, hb, ok2, _⟩ := lent z
      rw [hb] at e
      cases e
      exact .inr ⟨by rw [hl]; exact ok2.back, t, h5, h6⟩
    · rw [backs_off _ _ _ z] at e
      refine .inl ⟨e, fun o l hl hA => ?_⟩
      obtain ⟨j, hj, hjl⟩ := hidx l hA
      obtain ⟨t, l2, s', h5, h6, hl2, _⟩ := lent hj
      rw [hjl] at hl2
      cases hl2
      have : i = j := S.ds i j s t l e o hl h5 h6 hjl
      subst this
      exact z hj
  have T2 : Tr σ env G H σ (backs ms as' env) G' H' := Tr.swap A T'.gg hh nw T'.kp (fun b hb => hown b hb) (fun i s e o => by
      by_cases z : i ∈ ownsOf ms
      · obtain ⟨t, l, s', h5, h6, _⟩ := lent z
        exact ⟨t, h5, h6⟩
      · rw [backs_off _ _ _ z] at e
        exact ⟨s, e, o⟩) fun i s e o => by
      by_cases z : i ∈ ownsOf ms
      · obtain ⟨t, l, s', h5, h6, hl, hb, _, p2⟩ := lent z
        rw [e] at h5
        cases h5
        refine ⟨_, hb, ?_⟩
        unfold Sl.back
        rw [if_pos o]
        exact p2
      · exact ⟨s, by rw [backs_off _ _ _ z]; exact e, o⟩
  exact q v d G' H' _ S2 T2 rv k (backs_len _ _ _) fun i hi => by
    obtain ⟨t, l, s', h5, h6, hl, hb, _, p2⟩ := lent hi
    exact ⟨_, hb, Sl.back_owned p2⟩
end
/-- arguments: data, or what is one's own, handed on -/
def EvL (W : Wd) (ta : TA) (env : List Sl) (R : List Am → List Sl → Prop) : Prop :=
  ∀ (G H : Hp) (σ : L2.St), St W G H σ env → ∀ Q : List V → Hp → Prop, (∀ vs ms G' H' env', St W G' H' σ env' → Tr σ env G H σ env' G' H' → AmAll W G' σ vs ms → R ms env' → Q vs H') → ta σ H Q
def SimL (W : Wd) (ta : TA) (m : M (List Am)) : Prop := ∀ env R ds e1, m env = some (ds, e1) → R ds e1 → EvL W ta env R
def mLNil : M (List Am) := fun e => some ([], e)
def mLDat (a : M D) (r : M (List Am)) : M (List Am) := fun e => (a e).bind fun p => (r p.2).bind fun q => some (.dat p.1 :: q.1, q.2)
def mLOwn (i : Nat) (r : M (List Am)) : M (List Am) := fun e => (isOwn i e).bind fun _ => (r e).bind fun q => some (.own i :: q.1, q.2)
section
variable {W : Wd} {te : TE} {me : M D} {tr : TA} {mr : M (List Am)}
theorem sl_nil : SimL W tNil mLNil := fun env R d e1 hm hr => by
  cases hm
  exact fun G H σ S Q q => q [] [] G H env S (Tr.refl S) trivial hr
theorem sl_dat (h1 : SimE W te me) (h2 : SimL W tr mr) : SimL W (tCons te tr) (mLDat me mr) := fun env R d e1 hm hr => by
  obtain ⟨x, e2, a1, hm⟩ := bind_of hm
  obtain ⟨y, e3, a2, hm⟩ := bind_of hm
  cases hm
  intro G H σ S Q q
  refine h1 _ (fun x' e' => x' = x ∧ e' = e2) _ _ a1 ⟨rfl, rfl⟩ G H σ S _ fun v d G1 H1 e1' S1 T1 r1 ⟨z1, z2⟩ => ?_
  subst z1 z2
  refine h2 _ (fun y' e' => y' = y ∧ e' = e3) _ _ a2 ⟨rfl, rfl⟩ G1 H1 σ S1 _ fun vs ms G2 H2 e2' S2 T2 r2 ⟨z3, z4⟩ => ?_
  subst z3 z4
  exact q (v :: vs) (.dat d :: ms) G2 H2 _ S2 (T1.trans S T2) ⟨r1.up T2.gg, r2⟩ hr
theorem sl_own {i : Nat} (h2 : SimL W tr mr) : SimL W (tCons (tVar i) tr) (mLOwn i mr) := fun env R d e1 hm hr => by
  obtain ⟨s0, a0, hm⟩ := bind_of' hm
  obtain ⟨y, e3, a2, hm⟩ := bind_of hm
  cases hm
  intro G H σ S Q q
  obtain ⟨b1, b2⟩ := isOwn_of a0
  obtain ⟨l, hl⟩ := (S.ok i _ b1).addr b2
  refine ⟨.ref l, hl, h2 _ (fun y' e' => y' = y ∧ e' = e3) _ _ a2 ⟨rfl, rfl⟩ G H σ S _ fun vs ms G2 H2 e2' S2 T2 r2 ⟨z3, z4⟩ => ?_⟩
  subst z3 z4
  exact q (.ref l :: vs) (.own i :: ms) G2 H2 _ S2 T2 ⟨hl, r2⟩ hr
def mCallL (n : Nat) (c : Fm) (a : M (List Am)) : M D := fun e => (a e).bind fun p => if p.1.length = n ∧ distinctB (ownsOf p.1) = true then (slots p.2 p.1).bind fun as => (c as).bind fun q => some (q.1, backs p.1 q.2 p.2) else none
theorem se_gl {n : Nat} {c : Fm} (h : SimL W tr mr) : SimE W (tG (SpD W n (PhiF c)) tr) (mCallL n c mr) := fun env R d e1 hm hr => by
  obtain ⟨ms, e2, h1, hm⟩ := bind_of hm
  split at hm
  · rename_i hz
    obtain ⟨as, h2, hm⟩ := bind_of' hm
    obtain ⟨y, as', h3, hm⟩ := bind_of hm
    cases hm
    intro G H σ S Q q
    refine h _ (fun ms' e' => ms' = ms ∧ e' = e2) _ _ h1 ⟨rfl, rfl⟩ G H σ S _ fun vs ms' G1 H1 e1' S1 T1 ra ⟨z1, z2⟩ => ?_
    subst z1 z2
    exact sp_args S1 ra h2 hz.2 hz.1 ⟨_, _, h3, hr⟩ fun v d G' H' env' S' T' r k _ _ => q v d G' H' env' S' (T1.trans S T') r k
  · cases hm

/-! ### a new list as the last argument, which the callee changes -/
theorem St.ext {G H : Hp} {σ : L2.St} {env : List Sl} {p : Addr} {vs : List V} {xs : List D} (S : St W G H σ env) (hh : H p = some (.lst vs)) (hg : G p = none) (no : ¬ own σ env p) (r : RpAll W G vs xs) : St W G H (σ ++ [some (.ref p)]) (env ++ [.ol xs]) := by
  have le := S.len
  have low : ∀ {i : Nat} {s : Sl}, (env ++ [Sl.ol xs])[i]? = some s → (env[i]? = some s ∧ (σ ++ [some (V.ref p)])[i]? = σ[i]?) ∨ (i = env.length ∧ s = .ol xs) := fun {i s} e => by
    by_cases z : i < env.length
    · rw [List.getElem?_append_left z] at e
      exact .inl ⟨e, List.getElem?_append_left (by rw [le]; exact z)⟩
    · rw [List.getElem?_append_right (by omega)] at e
      by_cases y : i = env.length
      · subst y
        rw [Nat.sub_self] at e
        simp at e
        exact .inr ⟨rfl, e.symm⟩
      · have : (i - env.length) ≠ 0 := by omega
        obtain ⟨k, hk⟩ := Nat.exists_eq_succ_of_ne_zero this
        rw [hk] at e
        simp at e
  have last : (σ ++ [some (V.ref p)])[env.length]? = some (some (.ref p)) := by
    rw [List.getElem?_append_right (by omega), le, Nat.sub_self]
    rfl
  refine ⟨S.gh, by rw [List.length_append, List.length_append, le]; rfl, fun i s e => ?_, fun i j s t l e1 o1 v1 e2 o2 v2 => ?_⟩
  · rcases low e with ⟨f, g⟩ | ⟨rfl, rfl⟩
    · rw [g]
      exact S.ok i s f
    · rw [last]
      exact ⟨p, vs, rfl, hg, hh, r⟩
  · rcases low e1 with ⟨f1, g1⟩ | ⟨rfl, rfl⟩
    · rcases low e2 with ⟨f2, g2⟩ | ⟨rfl, rfl⟩
      · rw [g1] at v1
        rw [g2] at v2
        exact S.ds i j s t l f1 o1 v1 f2 o2 v2
      · rw [last] at v2
        cases v2
        rw [g1] at v1
        exact absurd ⟨i, s, f1, o1, v1⟩ no
    · rcases low e2 with ⟨f2, g2⟩ | ⟨rfl, rfl⟩
      · rw [last] at v1
        cases v1
        rw [g2] at v2
        exact absurd ⟨j, t, f2, o2, v2⟩ no
      · rfl
theorem St.cutL {G H : Hp} {σ : L2.St} {env : List Sl} {x : Option V} {s : Sl} (S : St W G H (σ ++ [x]) (env ++ [s])) : St W G H σ env := by
  have le : σ.length = env.length := by
    have := S.len
    rw [List.length_append, List.length_append] at this
    simpa using this
  have up : ∀ {i : Nat} {t : Sl}, env[i]? = some t → (env ++ [s])[i]? = some t ∧ (σ ++ [x])[i]? = σ[i]? := fun {i t} e => by
    have z := (List.getElem?_eq_some_iff.mp e).1
    exact ⟨by rw [List.getElem?_append_left z]; exact e, List.getElem?_append_left (by rw [le]; exact z)⟩
  refine ⟨S.gh, le, fun i t e => ?_, fun i j t u l e1 o1 v1 e2 o2 v2 => ?_⟩
  · obtain ⟨f, g⟩ := up e
    rw [← g]
    exact S.ok i t f
  · obtain ⟨f1, g1⟩ := up e1
    obtain ⟨f2, g2⟩ := up e2
    exact S.ds i j t u l f1 o1 (by rw [g1]; exact v1) f2 o2 (by rw [g2]; exact v2)
theorem Tr.cutL {GA HA G H : Hp} {σ : L2.St} {envA env0 env : List Sl} {p : Addr} {s s0 : Sl} (le0 : env0.length = σ.length) (le : env.length = σ.length) (hp : HA p = none) {Gm Hm : Hp} (T0 : Tr σ envA GA HA σ env0 Gm Hm)
    (T : Tr (σ ++ [some (.ref p)]) (env0 ++ [s0]) Gm Hm (σ ++ [some (.ref p)]) (env ++ [s]) G H) (hno : ¬ own σ env p) : Tr σ envA GA HA σ env G H := by
  have o1 : ∀ b, own (σ ++ [some (.ref p)]) (env0 ++ [s0]) b → own σ env0 b ∨ b = p := fun b ⟨i, t, e, o, v⟩ => by
    by_cases z : i < env0.length
    · rw [List.getElem?_append_left z] at e
      rw [List.getElem?_append_left (by omega)] at v
      exact .inl ⟨i, t, e, o, v⟩
    · have hi : i < (env0 ++ [s0]).length := (List.getElem?_eq_some_iff.mp e).1
      rw [List.length_append] at hi
      have : i = σ.length := by simp at hi; omega
      subst this
      rw [List.getElem?_append_right (Nat.le_refl _), Nat.sub_self] at v
      have v : some (some (V.ref p)) = some (some (V.ref b)) := v
      cases v
      exact .inr rfl
  have o2 : ∀ b, own σ env b → own (σ ++ [some (.ref p)]) (env ++ [s]) b := fun b ⟨i, t, e, o, v⟩ => by
    have z := (List.getElem?_eq_some_iff.mp e).1
    exact ⟨i, t, by rw [List.getElem?_append_left z]; exact e, o, by rw [List.getElem?_append_left (by omega)]; exact v⟩
  have o3 : ∀ b, ¬ own σ envA b → HA b ≠ none → ¬ own (σ ++ [some (.ref p)]) (env0 ++ [s0]) b := fun b n h z => by
    rcases o1 b z with y | y
    · rcases T0.ow b y with x | x
      · exact n x
      · exact h x
    · rw [y] at h
      exact h hp
  refine ⟨T0.gg.trans T.gg, fun b o n h => ?_, fun b m n h => ?_, fun b h => ?_, fun b n => T.kp b (T0.kp b n), fun i t e q => ?_⟩
  · exact T.fr b o (o3 b n (by rw [h]; exact fun y => nomatch y)) (T0.fr b o n h)
  · exact T.nw b (o3 b m n) (T0.kp b n) (T0.nw b m n h)
  · have hb : b ≠ p := fun z => hno (by rw [← z]; exact h)
    rcases T.ow b (o2 b h) with z | z
    · rcases o1 b z with y | y
      · exact T0.ow b y
      · exact absurd y hb
    · refine .inr ?_
      cases w : HA b with
      | none => rfl
      | some o => exact absurd z (T0.kp b (by rw [w]; exact fun y => nomatch y))
  · obtain ⟨_, s1, e1, h1⟩ := T0.pn i t e q
    have i0 := (List.getElem?_eq_some_iff.mp e1).1
    obtain ⟨_, s', e2, h2⟩ := T.pn i s1 (by rw [List.getElem?_append_left i0]; exact e1) h1
    rw [List.getElem?_append_left (by omega)] at e2
    exact ⟨rfl, s', e2, h2⟩
def EvLF (W : Wd) (ta : TA) (env : List Sl) (R : List Am × List D → List Sl → Prop) : Prop :=
  ∀ (G H : Hp) (σ : L2.St), St W G H σ env → ∀ Q : List V → Hp → Prop, (∀ vs ms p ws xs G' H' env', St W G' H' σ env' → Tr σ env G H σ env' G' H' → AmAll W G' σ vs ms → H p = none → H' p = some (.lst ws) → G' p = none → ¬ own σ env' p → RpAll W G' ws xs →
    R (ms, xs) env' → Q (vs ++ [.ref p]) H') → ta σ H Q
def SimLF (W : Wd) (ta : TA) (m : M (List Am × List D)) : Prop := ∀ env R ds e1, m env = some (ds, e1) → R ds e1 → EvLF W ta env R
def mFLast (f : M (List D)) : M (List Am × List D) := fun e => (f e).bind fun p => some (([], p.1), p.2)
def mFDat (a : M D) (r : M (List Am × List D)) : M (List Am × List D) := fun e => (a e).bind fun p => (r p.2).bind fun q => some ((.dat p.1 :: q.1.1, q.1.2), q.2)
def mFOwn (i : Nat) (r : M (List Am × List D)) : M (List Am × List D) := fun e => (isOwn i e).bind fun _ => (r e).bind fun q => some ((.own i :: q.1.1, q.1.2), q.2)
section
variable {mrf : M (List Am × List D)}
theorem kp_none {σ σ' : L2.St} {env env' : List Sl} {G H G' H' : Hp} {p : Addr} (T : Tr σ env G H σ' env' G' H') (h : H' p = none) : H p = none := by
  cases w : H p with
  | none => rfl
  | some o => exact absurd h (T.kp p (by rw [w]; exact fun y => nomatch y))
theorem sf_last {m : M (List D)} (h : SimF W te m) : SimLF W (tCons te tNil) (mFLast m) := fun env R d e1 hm hr => by
  obtain ⟨x, e2, a1, hm⟩ := bind_of hm
  cases hm
  intro G H σ S Q q
  refine h _ (fun x' e' => x' = x ∧ e' = e2) _ _ a1 ⟨rfl, rfl⟩ G H σ S _ fun p ws xs G1 H1 e1' S1 T1 h0 h1 g1 no r1 ⟨z1, z2⟩ => ?_
  subst z1 z2
  exact q [] [] p ws _ G1 H1 _ S1 T1 trivial h0 h1 g1 no r1 hr
theorem sf_dat (h1 : SimE W te me) (h2 : SimLF W tr mrf) : SimLF W (tCons te tr) (mFDat me mrf) := fun env R d e1 hm hr => by
  obtain ⟨x, e2, a1, hm⟩ := bind_of hm
  obtain ⟨⟨y1, y2⟩, e3, a2, hm⟩ := bind_of hm
  cases hm
  intro G H σ S Q q
  refine h1 _ (fun x' e' => x' = x ∧ e' = e2) _ _ a1 ⟨rfl, rfl⟩ G H σ S _ fun v d G1 H1 e1' S1 T1 r1 ⟨z1, z2⟩ => ?_
  subst z1 z2
  refine h2 _ (fun y' e' => y' = (y1, y2) ∧ e' = e3) _ _ a2 ⟨rfl, rfl⟩ G1 H1 σ S1 _ fun vs ms p ws xs G2 H2 e2' S2 T2 r2 h0 hp g2 no rw2 ⟨z3, z4⟩ => ?_
  cases z3
  subst z4
  exact q (v :: vs) (.dat d :: y1) p ws _ G2 H2 _ S2 (T1.trans S T2) ⟨r1.up T2.gg, r2⟩ (kp_none T1 h0) hp g2 no rw2 hr
theorem sf_own {i : Nat} (h2 : SimLF W tr mrf) : SimLF W (tCons (tVar i) tr) (mFOwn i mrf) := fun env R d e1 hm hr => by
  obtain ⟨s0, a0, hm⟩ := bind_of' hm
  obtain ⟨⟨y1, y2⟩, e3, a2, hm⟩ := bind_of hm
  cases hm
  intro G H σ S Q q
  obtain ⟨b1, b2⟩ := isOwn_of a0
  obtain ⟨l, hl⟩ := (S.ok i _ b1).addr b2
  refine ⟨.ref l, hl, h2 _ (fun y' e' => y' = (y1, y2) ∧ e' = e3) _ _ a2 ⟨rfl, rfl⟩ G H σ S _ fun vs ms p ws xs G2 H2 e2' S2 T2 r2 h0 hp g2 no rw2 ⟨z3, z4⟩ => ?_⟩
  cases z3
  subst z4
  exact q (.ref l :: vs) (.own i :: y1) p ws _ G2 H2 _ S2 T2 ⟨hl, r2⟩ h0 hp g2 no rw2 hr
theorem isOwn_ext {e : Env} {s : Sl} {i : Nat} {t : Sl} (h : isOwn i e = some t) : isOwn i (e ++ [s]) = some t := by
  obtain ⟨a, b⟩ := isOwn_of h
  unfold isOwn
  rw [List.getElem?_append_left (List.getElem?_eq_some_iff.mp a).1, a]
  exact if_pos b
theorem slots_ext {e : Env} {xs : List D} : ∀ {ms : List Am} {as : List Sl}, slots e ms = some as → slots (e ++ [.ol xs]) (ms ++ [.own e.length]) = some (as ++ [.pl xs])
  | [], as, h => by
    cases h
    show ((isOwn e.length (e ++ [.ol xs])).map Sl.lend).bind (fun s => (slots _ []).map (s :: ·)) = _
    have : isOwn e.length (e ++ [.ol xs]) = some (.ol xs) := by
      unfold isOwn
      rw [List.getElem?_append_right (Nat.le_refl _), Nat.sub_self]
      rfl
    rw [this]
    rfl
  | m :: ms, as, h => by
    obtain ⟨s, h1, h2⟩ := bind_of' (show (m.slot e).bind (fun s => (slots e ms).map (s :: ·)) = some as from h)
    cases q : slots e ms with
    | none => rw [q] at h2; cases h2
    | some r =>
      rw [q] at h2
      cases h2
      show (m.slot (e ++ [.ol xs])).bind (fun s => (slots (e ++ [.ol xs]) (ms ++ [.own e.length])).map (s :: ·)) = _
      rw [slots_ext q]
      have : m.slot (e ++ [.ol xs]) = some s := by
        cases m with
        | dat d => exact h1
        | own i =>
          have h1 : (isOwn i e).map Sl.lend = some s := h1
          cases w : isOwn i e with
          | none => rw [w] at h1; cases h1
          | some t =>
            rw [w] at h1
            show (isOwn i (e ++ [.ol xs])).map Sl.lend = some s
            rw [isOwn_ext w]
            exact h1
      rw [this]
      rfl
theorem backs_ext {t : Sl} : ∀ (ms : List Am) (ss : List Sl) (e : Env) (L : Nat), L = e.length → (∀ i ∈ ownsOf ms, i < L) → ∃ s, backs (ms ++ [.own L]) ss (e ++ [t]) = backs ms ss e ++ [s]
  | [], [], e, L, _, _ => ⟨t, by unfold backs; rfl⟩
  | [], s :: ss, e, L, hL, _ => by
    refine ⟨((((e ++ [t])[L]?).getD .no).back s), ?_⟩
    show backs [] ss ((e ++ [t]).set L _) = backs [] (s :: ss) e ++ [_]
    have z1 : ∀ (ss : List Sl) (e : Env), backs [] ss e = e := fun ss e => by unfold backs; rfl
    rw [z1, z1, hL, List.set_append_right _ _ (Nat.le_refl _), Nat.sub_self]
    rfl
  | .own i :: ms, [], e, L, _, _ => ⟨t, rfl⟩
  | .dat d :: ms, [], e, L, _, _ => ⟨t, rfl⟩
  | .dat d :: ms, s :: ss, e, L, hL, hi => backs_ext ms ss e L hL hi
  | .own i :: ms, s :: ss, e, L, hL, hi => by
    have il : i < e.length := by rw [← hL]; exact hi i List.mem_cons_self
    obtain ⟨s1, h⟩ := backs_ext (t := t) ms ss (e.set i (((e[i]?).getD .no).back s)) L (by rw [List.length_set]; exact hL) fun j hj => hi j (List.mem_cons_of_mem _ hj)
    refine ⟨s1, ?_⟩
    show backs (ms ++ [.own L]) ss ((e ++ [t]).set i _) = backs ms ss (e.set i _) ++ [s1]
    rw [List.set_append_left _ _ il, List.getElem?_append_left il]
    exact h
theorem distinct_ext : ∀ (ms : List Am) (L : Nat), distinctB (ownsOf ms) = true → (∀ i ∈ ownsOf ms, i < L) → distinctB (ownsOf (ms ++ [.own L])) = true
  | [], L, _, _ => rfl
  | .dat d :: ms, L, h, k => distinct_ext ms L h k
  | .own i :: ms, L, h, k => by
    have h : (!(ownsOf ms).contains i && distinctB (ownsOf ms)) = true := h
    rw [Bool.and_eq_true] at h
    show (!(ownsOf (ms ++ [.own L])).contains i && distinctB (ownsOf (ms ++ [.own L]))) = true
    rw [distinct_ext ms L h.2 fun j hj => k j (List.mem_cons_of_mem _ hj), Bool.and_true]
    have hn : i ∉ ownsOf ms := by simpa using h.1
    have hL : i ≠ L := fun z => by have := k i List.mem_cons_self; omega
    have ap : ∀ ms : List Am, ownsOf (ms ++ [.own L]) = ownsOf ms ++ [L] := by
      intro ms
      induction ms with
      | nil => rfl
      | cons a ms ih => cases a with
        | dat d => exact ih
        | own j => exact congrArg (j :: ·) ih
    rw [ap]
    simp [hn, hL]
def mCallF (n : Nat) (c : Fm) (a : M (List Am × List D)) : M D := fun e => (a e).bind fun p => if p.1.1.length + 1 = n ∧ distinctB (ownsOf p.1.1) = true then (slots p.2 p.1.1).bind fun as => (c (as ++ [.pl p.1.2])).bind fun q => some (q.1, backs p.1.1 q.2 p.2) else none
theorem se_glf {n : Nat} {c : Fm} (h : SimLF W tr mrf) : SimE W (tG (SpD W n (PhiF c)) tr) (mCallF n c mrf) := fun env R d e1 hm hr => by
  obtain ⟨⟨ms, xs⟩, e2, h1, hm⟩ := bind_of hm
  split at hm
  · rename_i hz
    obtain ⟨as, h2, hm⟩ := bind_of' hm
    obtain ⟨y, as', h3, hm⟩ := bind_of hm
    cases hm
    intro G H σ S Q q
    refine h _ (fun ms' e' => ms' = (ms, xs) ∧ e' = e2) _ _ h1 ⟨rfl, rfl⟩ G H σ S _ fun vs ms' p ws xs' G1 H1 e1' S1 T1 ra h0 hp g1 no rx ⟨z1, z2⟩ => ?_
    cases z1
    subst z2
    have SE := S1.ext hp g1 no rx
    have il : ∀ i ∈ ownsOf ms, i < e1'.length := fun i hi => by
      obtain ⟨k, hk⟩ := owns_at hi
      have lk : k < as.length := by
        rw [slots_len h2]
        exact (List.getElem?_eq_some_iff.mp hk).1
      obtain ⟨a, b1, b2⟩ := slots_get h2 (k := k) (s := as[k]) (List.getElem?_eq_getElem lk)
      rw [hk] at b1
      cases b1
      obtain ⟨t, h5, _⟩ := slot_own b2
      exact (List.getElem?_eq_some_iff.mp h5).1
    have last : (σ ++ [some (V.ref p)])[e1'.length]? = some (some (.ref p)) := by
      rw [List.getElem?_append_right (by have := S1.len; omega), S1.len, Nat.sub_self]
      rfl
    have AE : AmAll W G1 (σ ++ [some (.ref p)]) (vs ++ [.ref p]) (ms ++ [.own e1'.length]) := by
      have : ∀ {vs : List V} {ms : List Am}, AmAll W G1 σ vs ms → AmAll W G1 (σ ++ [some (.ref p)]) (vs ++ [.ref p]) (ms ++ [.own e1'.length]) := by
        intro vs
        induction vs with
        | nil => intro ms h; cases ms with
          | nil => exact ⟨last, trivial⟩
          | cons a ms => exact h.elim
        | cons v vs ih => intro ms h; cases ms with
          | nil => exact h.elim
          | cons a ms =>
            refine ⟨?_, ih h.2⟩
            cases a with
            | dat d => exact h.1
            | own i =>
              have hi : σ[i]? = some (some v) := h.1
              show (σ ++ [some (V.ref p)])[i]? = some (some v)
              rw [List.getElem?_append_left (List.getElem?_eq_some_iff.mp hi).1]
              exact hi
      exact this ra
    obtain ⟨s, hs⟩ := backs_ext (t := .ol xs) ms as' e1' _ rfl il
    refine sp_args (R := fun d e => d = y ∧ e = backs (ms ++ [.own e1'.length]) as' (e1' ++ [.ol xs])) SE AE (slots_ext h2) (distinct_ext ms _ hz.2 il) (by rw [List.length_append]; exact hz.1) ⟨y, as', h3, rfl, rfl⟩ fun v d G' H' env' S' T' r ⟨k1, k2⟩ _ ko => ?_
    rw [hs] at k2
    subst k1 k2
    have S2 := S'.cutL
    have ap : e1'.length ∈ ownsOf (ms ++ [.own e1'.length]) := owns_mem (k := ms.length) (by rw [List.getElem?_append_right (Nat.le_refl _), Nat.sub_self]; rfl)
    obtain ⟨t, ht, ot⟩ := ko _ ap
    have no2 : ¬ own σ (backs ms as' e1') p := fun ⟨i, u, e, o, v⟩ => by
      have ib : i < (backs ms as' e1').length := (List.getElem?_eq_some_iff.mp e).1
      have iv : i < σ.length := by rw [S2.len]; exact ib
      have := S'.ds i e1'.length u t p (by rw [List.getElem?_append_left ib]; exact e) o (by rw [List.getElem?_append_left iv]; exact v) ht ot last
      rw [backs_len] at ib
      omega
    exact q v d G' H' _ S2 (Tr.cutL S1.len.symm S2.len.symm h0 T1 T' no2) r hr
  · cases hm
end
end
end Nv

set_option Elab.async false
set_option linter.all false
set_option maxRecDepth 100000
set_option maxHeartbeats 4000000
/-! NvV: t[::-1], t[:0:-1] of tuples; xs[::-1] of lists. -/
namespace Nv
open PySem L2 PyProof.Rows PySem.Spec HT

theorem pick_neg {α : Type} (l : List α) (k : Nat) (hk : k ≤ l.length) : ((List.range k).filterMap fun (m : Nat) => l[((l.length : Int) - 1 + (m : Int) * -1).toNat]?) = l.reverse.take k := by
  have h1 : ∀ m ∈ List.range k, (fun (m : Nat) => l[((l.length : Int) - 1 + (m : Int) * -1).toNat]?) m = (fun m => l.reverse[m]?) m := fun m hm => by
    have hm := List.mem_range.mp hm
    show l[((l.length : Int) - 1 + (m : Int) * -1).toNat]? = l.reverse[m]?
    have : ((l.length : Int) - 1 + (m : Int) * -1).toNat = l.length - 1 - m := by omega
    rw [this, List.getElem?_reverse (by omega)]
  have hc : ∀ (f g : Nat → Option α) (r : List Nat), (∀ m ∈ r, f m = g m) → r.filterMap f = r.filterMap g := fun f g r => by
    induction r with
    | nil => intro _; rfl
    | cons a r ih =>
      intro h
      rw [List.filterMap_cons, List.filterMap_cons, h a List.mem_cons_self, ih fun m hm => h m (List.mem_cons_of_mem _ hm)]
  rw [hc _ _ _ h1]
  have h2 : ∀ (r : List α) (k : Nat), k ≤ r.length → (List.range k).filterMap (fun m => r[m]?) = r.take k := fun r k hr => by
    induction k with
    | zero => rfl
    | succ k ih =>
      rw [List.range_succ, List.filterMap_append, ih (by omega), List.take_succ]
      congr 1
  exact h2 l.reverse k (by rw [List.length_reverse]; exact hk)
section
variable {prog : Program} {w : World} {A : Around} {E : Value → Shared → Prop} {s : Shared}
def negN (n : Nat) (hi : Option Int) : Nat := n - (if hi = none then 0 else 1)
theorem sliceApplied_neg {sl : Addr} {vl vu vs : Value} {hi : Option Int} {n : Nat} {Q : Int × Int × Nat → Shared → Prop} (hs : s.heap.IsSliceOf sl vl vu vs) (pl : IsPart vl none) (pu : IsPart vu hi) (ps : IsPart vs (some (-1))) (hh : hi = none ∨ hi = some 0)
    (h : Q ((n : Int) - 1, -1, negN n hi) s) : wpAny (model prog w) A (Builtin.Slice.sliceApplied (.ref sl) (pure (n : Int))) Q E s := by
  obtain ⟨os, hos, hcs, hds⟩ := hs
  unfold Builtin.Slice.sliceApplied Builtin.Slice.sliceFields
  refine wpAny_bind (wpAny_bind (wpAny_field hos hds (x := vl) rfl (wpAny_bind (wpAny_field hos hds (x := vu) rfl (wpAny_bind (wpAny_field hos hds (x := vs) rfl (wpAny_pure ?_)))))))
  refine wpAny_bind (slicePart_ ps ?_)
  show wpAny _ _ (if ((-1 : Int) == 0) = true then _ else _) _ _ s
  rw [if_neg (by decide)]
  refine wpAny_bind (slicePart_ pl (wpAny_bind (slicePart_ pu (wpAny_bind (wpAny_pure ?_)))))
  show wpAny _ _ (match Builtin.Slice.sliceAdjust none hi (-1) (n : Int) with | (lo, hi) => pure (lo, (-1 : Int), Builtin.Slice.slicePlaces lo hi (-1))) _ _ s
  have e : (match Builtin.Slice.sliceAdjust none hi (-1) (n : Int) with | (lo, hi) => (pure (lo, (-1 : Int), Builtin.Slice.slicePlaces lo hi (-1)) : Sem (Int × Int × Nat))) = pure ((n : Int) - 1, -1, negN n hi) := by
    have e1 : Builtin.Slice.sliceAdjust none hi (-1) (n : Int) = ((n : Int) - 1, if hi = none then -1 else min 0 ((n : Int) - 1)) := by
      unfold Builtin.Slice.sliceAdjust
      rcases hh with rfl | rfl <;> simp
    have e2 : ∀ a b : Int, Builtin.Slice.slicePlaces a b (-1) = (a - b).toNat := fun a b => by
      unfold Builtin.Slice.slicePlaces
      rw [if_neg (by decide)]
      by_cases h : a > b
      · rw [if_pos h]
        have : (a - b - 1) / -(-1 : Int) = a - b - 1 := by rw [show -(-1 : Int) = 1 from rfl, Int.ediv_one]
        rw [this]
        omega
      · rw [if_neg h]
        omega
    rw [e1]
    show (pure ((n : Int) - 1, (-1 : Int), Builtin.Slice.slicePlaces _ _ (-1)) : Sem (Int × Int × Nat)) = _
    rw [e2]
    have e3 : ((n : Int) - 1 - (if hi = none then -1 else min 0 ((n : Int) - 1))).toNat = negN n hi := by
      unfold negN
      rcases hh with rfl | rfl
      · simp
      · simp
        omega
    rw [e3]
  rw [e]
  exact wpAny_pure h
theorem getItem_tuple_neg {t sl : Addr} {items : Array Value} {vl vu vs : Value} {hi : Option Int} {Q : Value → Shared → Prop} (ht : IsTup s.heap t items) (hs : s.heap.IsSliceOf sl vl vu vs) (pl : IsPart vl none) (pu : IsPart vu hi) (ps : IsPart vs (some (-1))) (hh : hi = none ∨ hi = some 0)
    (h : Q (.ref s.heap.objs.size) { s with heap := s.heap.push { cls := .type "tuple", data := .seq (items.toList.reverse.take (negN items.size hi)).toArray } })
    (hsz : items.size ≤ sizeLine) : wpAny (model prog w) A (getItem (.ref t) (.ref sl)) Q E s := by
  have htake : sizeOk (.seq (items.toList.reverse.take (negN items.size hi)).toArray) := by
    show (items.toList.reverse.take (negN items.size hi)).toArray.size ≤ sizeLine
    rw [List.size_toArray, List.length_take, List.length_reverse, Array.length_toList]
    omega
  obtain ⟨os, hos, hcs, hds⟩ := id hs
  have hTs : s.TypeIs (.ref sl) "slice" := ⟨os, hos, hcs⟩
  unfold getItem
  try with_reducible refine wpAny_holding ?_
  first | refine wpAny_bind (wpAny_pure ?_) | skip
  refine wpAny_bind (wpAny_sequenceKey ht.typeIs (by decide) ?_)
  refine wpAny_bind (wpAny_callSpecial?_slot (name := Str.ofString "__getitem__") ht.typeIs PyProof.Rows.slot_tuple_getitem
    (wpAny_call_entry PyProof.Rows.slot_tuple_getitem ht.typeIs entry_tuple_getitem ?_ (args_tuple_getitem _ _)))
  show wpAny _ _ (Builtin.Tuple.tupleItemsOf (.ref t) >>= _) _ _ s
  refine wpAny_bind (tupleItemsOf_ ht ?_)
  refine wpAny_bind (wpAny_typeOf hTs ?_)
  rw [if_pos (by decide)]
  refine wpAny_bind (sliceApplied_neg hs pl pu ps hh ?_)
  have hno : ¬ ((((items.size : Int) - 1) == 0 && (-1 : Int) == 1 && negN items.size hi == items.size) = true) := by
    intro q
    rw [Bool.and_eq_true, Bool.and_eq_true] at q
    exact absurd (eq_of_beq q.1.2) (by decide)
  show wpAny _ _ (if (((items.size : Int) - 1) == 0 && (-1 : Int) == 1 && negN items.size hi == items.size) = true then _ else _) _ _ s
  have hpick : ((List.range (negN items.size hi)).filterMap fun (m : Nat) => items[((items.size : Int) - 1 + (m : Int) * -1).toNat]?).toArray = (items.toList.reverse.take (negN items.size hi)).toArray := by
    have := pick_neg items.toList (negN items.size hi) (by rw [Array.length_toList]; unfold negN; omega)
    rw [Array.length_toList] at this
    rw [← this]
    simp only [Array.getElem?_toList]
  rw [if_neg hno, hpick]
  first
    | exact wpAny_bind (m := Builtin.Tuple.tupleExact _) (wpAny_newObj_type (wpAny_pure ⟨_, rfl, wpAny_pure h⟩) htake)
    | exact wpAny_bind (m := Builtin.Tuple.tupleExact _) (wpAny_newObj_type (wpAny_bind (wpAny_pure (wpAny_pure ⟨_, rfl, wpAny_pure h⟩))) htake)
    | exact wpAny_bind (wpAny_bind (m := Builtin.Tuple.tupleExact _) (wpAny_newObj_type (wpAny_pure (wpAny_pure ⟨_, rfl, wpAny_pure h⟩)) htake))
    | exact wpAny_bind (wpAny_bind (m := Builtin.Tuple.tupleExact _) (wpAny_newObj_type (wpAny_pure ⟨_, rfl, wpAny_pure h⟩) htake))
end
section
variable {X : Cx}
/-- t[::-1], t[:0:-1], t a tuple -/
def tRevT (K : PySem.W.Frag) (hi : Option Int) (te : TE) : TE := fun σ H Q => te σ H fun x H1 => ∃ a xs, x = .ref a ∧ SqT K H1 a xs ∧ ∀ p, H1 p = none → Q (.ref p) (upd H1 p (.tup (xs.reverse.take (negN xs.length hi))))
theorem pe_revN {e : Expr} {te : TE} {up : Option Expr} {tu : TO} {hi : Option Int} (hh : hi = none ∨ hi = some 0) {k : Nat} {p1 p2 p3 pos : Pos} (he : PE X e te) (hu : PO X up tu) (htu : ∀ σ H Q, Q hi H → tu σ H Q) :
    PE X (.Subscript e (.Slice none up (some (.UnaryOp .USub (.Constant (.int 1) k p1) p2)) p3) pos) (tRevT X.K hi te) := by
  refine ⟨fun pins s σ H Q I h => ?_⟩
  refine Subscript_ (thn (he.run pins s σ H _ I h) fun v s1 ⟨x, H1, I1, r1, q1⟩ => ?_)
  obtain ⟨a, xs, ex, hx, q⟩ := q1
  subst ex
  cases r1
  have hst : PO X (some (.UnaryOp .USub (.Constant (.int 1) k p1) p2)) (tPart (tUn (rU fun i => .int (-i)) (tC (.int 1)))) := po_some (pe_un un_neg pe_int)
  refine wpAny_Slice (thn (po_none.run pins s1 σ H1 (fun o H2 => o = none ∧ H2 = H1) I1 ⟨rfl, rfl⟩) fun vl s2 ⟨l, H2, I2, pl, el, e2⟩ => ?_)
  subst el e2
  refine thn (hu.run pins s2 σ H2 (fun o H3 => o = hi ∧ H3 = H2) I2 (htu _ _ _ ⟨rfl, rfl⟩)) fun vu s3 ⟨u, H3, I3, pu, eu, e3⟩ => ?_
  subst eu e3
  refine thn (hst.run pins s3 σ H3 (fun o H4 => o = some (-1) ∧ H4 = H3) I3 ⟨1, rfl, -1, rfl, rfl, rfl⟩) fun vs s4 ⟨o, H4, I4, ps, eo, e4⟩ => ?_
  subst eo e4
  have I5 : Inv X pins σ H4 { s4 with heap := s4.heap.push { cls := .type "slice", data := .fields #[vl, vu, vs] } } := I4.kept (t' := s4.toks) fun b ob q => Heap.get?_push_of_some _ q
  obtain ⟨its, r, ht, hz⟩ := I5.tuple hx
  have hlen := r.length
  show wpAny (model X.prog X.w) X.A (subscriptTail e (.Slice none up (some (.UnaryOp .USub (.Constant (.int 1) k p1) p2)) p3) (.ref a) (.ref s4.heap.objs.size)) (EP X pins σ Q) X.xe { s4 with heap := s4.heap.push { cls := .type "slice", data := .fields #[vl, vu, vs] } }
  refine tail_any (ops := [.ref a, .ref s4.heap.objs.size]) ht.typeIs (PyProof.Rows.slot_tuple_getitem.lookup) ?_ (by with_unfolding_all rfl)
  have hl2 : its.toArray.size = xs.length := by rw [List.size_toArray]; exact hlen.symm
  refine getItem_tuple_neg ht (Heap.IsSliceOf.new _ vl vu vs) pl pu ps hh ?_ (by rw [hl2]; exact hz)
  rw [hl2]
  refine ⟨.ref _, _, I5.laid (t' := s4.toks) (o := .tup (xs.reverse.take (negN xs.length u))) (fun b ob q => Heap.get?_push_of_some _ q) (Nat.le_refl _) ?_, rfl, q _ (I5.hok.fresh (Nat.le_refl _))⟩
  exact ⟨by rw [List.length_take, List.length_reverse]; omega, _, r.reverse.take _, IsTup.new _ _⟩
end

/-! ### by data -/
def revD (hi : Option Int) : D → Option D
  | .tup xs => some (.tup (xs.reverse.take (negN xs.length hi)))
  | _ => none
def revLD : D → Option D
  | .lst xs => some (.lst xs.reverse)
  | _ => none
section
variable {W : Wd} {te : TE} {me : M D}
theorem se_revT {hi : Option Int} (h : SimE W te me) : SimE W (tRevT W.K hi te) (mUn (revD hi) me) := fun env R d e1 hm hr => by
  obtain ⟨x, e2, h1, hm⟩ := bind_of hm
  obtain ⟨z, h3, hm⟩ := bind_of' hm
  cases hm
  cases x <;> first | (cases h3; done) | skip
  cases h3
  intro G H σ S Q q
  refine h _ (fun x' e' => x' = _ ∧ e' = e2) _ _ h1 ⟨rfl, rfl⟩ G H σ S _ fun v d G1 H1 e1' S1 T1 r1 ⟨z1, z2⟩ => ?_
  subst z1 z2
  obtain ⟨a, xs, rfl, hx, ra⟩ := r1.tup_inv
  refine ⟨a, xs, rfl, Same.tup S1.gh hx, fun p hp => ?_⟩
  obtain ⟨g, rp⟩ := Gr.newT S1.gh hp (ra.reverse.take (negN xs.length hi))
  refine q _ _ _ _ _ (S1.up g) (T1.trans S (Tr.up S1 g)) ?_ hr
  rw [← ra.length]
  exact rp
theorem se_revL (h : SimE W te me) : SimE W (tRevL W.K te) (mUn revLD me) := fun env R d e1 hm hr => by
  obtain ⟨x, e2, h1, hm⟩ := bind_of hm
  obtain ⟨z, h3, hm⟩ := bind_of' hm
  cases hm
  cases x <;> first | (cases h3; done) | skip
  cases h3
  intro G H σ S Q q
  refine h _ (fun x' e' => x' = _ ∧ e' = e2) _ _ h1 ⟨rfl, rfl⟩ G H σ S _ fun v d G1 H1 e1' S1 T1 r1 ⟨z1, z2⟩ => ?_
  subst z1 z2
  obtain ⟨a, xs, rfl, hx, ra⟩ := r1.lst_inv
  refine ⟨a, xs, rfl, .inl (.inl (S1.gh _ _ hx)), fun p hp => ?_⟩
  obtain ⟨g, rp⟩ := Gr.newL S1.gh hp ra.reverse
  exact q _ _ _ _ _ (S1.up g) (T1.trans S (Tr.up S1 g)) rp hr
end
end Nv

set_option Elab.async false
set_option linter.all false
set_option maxRecDepth 100000
set_option maxHeartbeats 4000000
/-! NvY: more operators and built-ins by data: count, max, list * int, list + list as a new list, str. -/
namespace Nv
open PySem L2 PyProof.Rows PySem.Spec
section
variable {W : Wd} {ta tb te : TE} {ma mb me : M D} {tr : TA} {mr : M (List D)}
def countD : D → D → Option D
  | .str a, .str b => some (.int (Txt.count a b))
  | _, _ => none
theorem md_count : MetD W (fun x xs H Q => ∃ a b, x = .str a ∧ xs = [.str b] ∧ Q (.int (Txt.count a b)) H) countD := by
  intro G H x y dx dy dz e rx ry ho Q q
  cases dx <;> first | (cases ho; done) | skip
  cases dy <;> first | (cases ho; done) | skip
  cases ho
  rw [rx.str_inv, ry.str_inv]
  exact ⟨_, _, rfl, rfl, q _ G H (Gr.refl e) (.int _)⟩
def max2D : List D → Option D
  | [.int i, .int j] => some (.int (if j > i then j else i))
  | _ => none
theorem cd_max2 : CallD W (fun xs H Q => ∃ i j, xs = [.int i, .int j] ∧ Q (.int (if j > i then j else i)) H) max2D := by
  intro G H xs ds dz e r ho Q q
  unfold max2D at ho
  split at ho
  · cases ho
    obtain ⟨v, w, rfl, r1, r2⟩ := rp2 r
    rw [r1.int_inv, r2.int_inv]
    exact ⟨_, _, rfl, q _ G H (Gr.refl e) (.int _)⟩
  · cases ho
def strOfD : List D → Option D
  | [.int i] => if i.natAbs.log2 < 1920 then some (.str (toString i)) else none
  | [.str a] => some (.str a)
  | _ => none
def rStrOf : List V → Hp → VK → Prop := fun xs H Q => (∃ i, xs = [.int i] ∧ i.natAbs.log2 < 1920 ∧ Q (.str (toString i)) H) ∨ ∃ a, xs = [.str a] ∧ Q (.str a) H
theorem cr_strOf {X : Cx} : CallR X (.type "str") rStrOf := callr_or call_str_int SkE.call_str_str
theorem cd_str : CallD W rStrOf strOfD := by
  intro G H xs ds dz e r ho Q q
  unfold strOfD at ho
  split at ho
  · split at ho
    · rename_i hz
      cases ho
      obtain ⟨v, rfl, r1⟩ := rp1 r
      rw [r1.int_inv]
      exact .inl ⟨_, rfl, hz, q _ G H (Gr.refl e) (.str _)⟩
    · cases ho
  · cases ho
    obtain ⟨v, rfl, r1⟩ := rp1 r
    rw [r1.str_inv]
    exact .inr ⟨_, rfl, q _ G H (Gr.refl e) (.str _)⟩
  · cases ho
theorem RpAll.rep {G : Hp} {vs : List V} {ds : List D} (r : RpAll W G vs ds) : ∀ n : Nat, RpAll W G (List.replicate n vs).flatten (List.replicate n ds).flatten
  | 0 => .nil
  | n + 1 => by
    rw [List.replicate_succ, List.replicate_succ, List.flatten_cons, List.flatten_cons]
    exact r.append (RpAll.rep r n)
def repD : D → D → Option D
  | .lst xs, .int k => if -(2 ^ 63) ≤ k ∧ k < 2 ^ 63 ∧ xs.length * k.toNat ≤ sizeLine then some (.lst (List.replicate k.toNat xs).flatten) else none
  | _, _ => none
theorem opd_rep : OpD W rRep repD := by
  intro G H x y dx dy dz e rx ry ho Q q
  cases dx <;> first | (cases ho; done) | skip
  cases dy <;> first | (cases ho; done) | skip
  rename_i xs k
  have ho : (if -(2 ^ 63) ≤ k ∧ k < 2 ^ 63 ∧ xs.length * k.toNat ≤ sizeLine then some (D.lst (List.replicate k.toNat xs).flatten) else none) = some dz := ho
  split at ho
  · rename_i hz
    cases ho
    obtain ⟨a, vs, rfl, hs, ra⟩ := rx.lst_inv
    rw [ry.int_inv]
    refine ⟨a, k, vs, rfl, rfl, e _ _ hs, hz.1, hz.2.1, by rw [ra.length]; exact hz.2.2, fun p hp => ?_⟩
    obtain ⟨g, rp⟩ := Gr.newL e hp (ra.rep k.toNat)
    exact q _ _ _ g rp
  · cases ho
/-! list + list, a new list of one's own -/
def mAddF (a b : M D) : M (List D) := fun e => (a e).bind fun p => (isLst p.1).bind fun xs => (b p.2).bind fun q => (isLst q.1).bind fun ys => if xs.length + ys.length ≤ sizeLine then some (xs ++ ys, q.2) else none
theorem sf_add (ha : SimE W ta ma) (hb : SimE W tb mb) : SimF W (tOp (rAddU W.K) ta tb) (mAddF ma mb) := fun env R d e1 hm hr => by
  obtain ⟨x, e2, h1, hm⟩ := bind_of hm
  obtain ⟨xs, h2, hm⟩ := bind_of' hm
  obtain ⟨y, e3, h3, hm⟩ := bind_of hm
  obtain ⟨ys, h4, hm⟩ := bind_of' hm
  split at hm
  · rename_i hz
    cases hm
    intro G H σ S Q q
    refine ha _ (fun x' e' => x' = x ∧ e' = e2) _ _ h1 ⟨rfl, rfl⟩ G H σ S _ fun v dv G1 H1 e1' S1 T1 r1 ⟨z1, z2⟩ => ?_
    subst z1 z2
    refine hb _ (fun y' e' => y' = y ∧ e' = e3) _ _ h3 ⟨rfl, rfl⟩ G1 H1 σ S1 _ fun u du G2 H2 e2' S2 T2 r2 ⟨z3, z4⟩ => ?_
    subst z3 z4
    have r1 := r1.up T2.gg
    have k2 : dv = .lst xs := isLst_of h2
    have k4 : du = .lst ys := isLst_of h4
    subst k2 k4
    obtain ⟨a, vs, rfl, hs, ra⟩ := r1.lst_inv
    obtain ⟨b, ws, rfl, ht, rb⟩ := r2.lst_inv
    refine .inr (.inr (.inl ⟨a, b, vs, ws, rfl, rfl, S2.gh _ _ hs, S2.gh _ _ ht, by rw [ra.length, rb.length]; exact hz, fun p hp => ?_⟩))
    have no : ¬ own σ e2' p := fun z => by
      obtain ⟨_, o, ho⟩ := S2.own_at z
      rw [hp] at ho
      cases ho
    have T := T1.trans S T2
    have h0 : H p = none := kp_none T hp
    have hg : G2 p = none := S2.gh.free hp
    exact q p _ _ G2 _ e2' (S2.mut hg no) (T.late h0) h0 upd_same hg no (ra.append rb) hr
  · cases hm
/-! {} -/
theorem se_dnew : SimE W tDNewK (mC (.dct [])) := fun env R d e1 hm hr => by
  cases hm
  intro G H σ S Q q p hp
  have g : Gr G H (upd G p (.dK [])) (upd H p (.dK [])) := Gr.new S.gh hp
  exact q _ _ _ _ _ (S.up g) (Tr.up S g) (.dct (.inl upd_same) rfl .nil) hr
def mOwnD (j : Nat) : MS := fun e => if freeB e j = true then some (.nx, e.set j (.od [])) else none
theorem ss_ownD {j : Nat} : SimS W (tAsg tDNewK (gName j)) (mOwnD j) := fun env P o e1 hm hr => by
  have hm : (if freeB env j = true then some (Out.nx, env.set j (.od [])) else none) = some (o, e1) := hm
  split at hm
  · rename_i hz
    cases hm
    intro G H σ E S n r b c p hp
    have no : ¬ own σ env p := fun z => by
      obtain ⟨_, o, ho⟩ := S.own_at z
      rw [hp] at ho
      cases ho
    have hg : G p = none := S.gh.free hp
    exact n G _ _ _ ((S.mut hg no).takeS (s := .od []) ⟨p, [], rfl, hg, upd_same, rfl, .nil⟩ no) (Tr.takeS (freeB_of hz) ((Tr.refl S).late hp) hp) hr
  · cases hm
/-! xs == [] -/
def rEqNil (K : PySem.W.Frag) : R2 := fun x y H Q => (∃ l b xs, x = .ref l ∧ y = .ref b ∧ H l = some (.lst xs) ∧ H b = some (.lst []) ∧ xs ≠ [] ∧ Q (.bl false) H) ∨ rEqX K x y H Q
theorem op_eqLen {X : Cx} (hu : X.A.units + 64 < cLine) : OpR X (compareOp .Eq) (fun x y H Q => ∃ l b xs, x = .ref l ∧ y = .ref b ∧ H l = some (.lst xs) ∧ H b = some (.lst []) ∧ xs ≠ [] ∧ Q (.bl false) H) := by
  intro pins s σ H x y v u Q I rx ry h
  obtain ⟨l, b, xs, rfl, rfl, hH, hB, hne, q⟩ := h
  cases rx
  cases ry
  obtain ⟨z, its, n, r, hl, e⟩ := I.lstM hH
  obtain ⟨z2, its2, n2, r2, hl2, e2⟩ := I.lstM hB
  cases r2
  refine PySem.P.eq_list_lengths e e2 ?_ (by omega) ⟨.bl false, H, I, rfl, q⟩
  cases r with
  | nil => exact absurd rfl hne
  | cons _ _ => rfl
theorem ka_eqNil {X : Cx} {K : PySem.W.Frag} (hu : X.A.units + 64 < cLine) (h : X.K = K) : OpR X (compareOp .Eq) (rEqNil K) := h ▸ opr_or (op_eqLen hu) (ka_eq hu rfl)
def eqNilD : D → D → Option D
  | .lst xs, .lst [] => some (.bl xs.isEmpty)
  | _, _ => none
theorem opd_eqNil : OpD W (rEqNil W.K) eqNilD := by
  intro G H x y dx dy dz e rx ry ho Q q
  unfold eqNilD at ho
  split at ho
  · rename_i xs
    cases ho
    cases xs with
    | nil => exact .inr (opd_eqX G H x y _ _ _ e rx ry rfl Q q)
    | cons d ds =>
      obtain ⟨a, vs, rfl, hs, ra⟩ := rx.lst_inv
      obtain ⟨b, ws, rfl, ht, rb⟩ := ry.lst_inv
      cases rb
      refine .inl ⟨a, b, vs, rfl, rfl, e _ _ hs, e _ _ ht, fun z => ?_, q _ G H (Gr.refl e) (.bl _)⟩
      subst z
      cases ra
  · cases ho
end
end Nv

set_option Elab.async false
set_option linter.all false
set_option maxRecDepth 100000
set_option maxHeartbeats 4000000
/-! NvH: mirrors read forwards: Wp m e Q: the mirror m at the slots e gives an answer and slots of which Q holds; Wc likewise of a def's mirror. -/
namespace Nv
open PySem L2 PyProof.Rows PySem.Spec

def Wp {α : Type} (m : M α) (e : Env) (Q : α → Env → Prop) : Prop := ∃ x e', m e = some (x, e') ∧ Q x e'
def Wc (c : Fm) (as : List Sl) (R : D → List Sl → Prop) : Prop := ∃ d as', c as = some (d, as') ∧ R d as'
section
variable {α β : Type} {e e1 : Env} {d : D} {i j n : Nat}
theorem Wp.mono {m : M α} {Q Q' : α → Env → Prop} (h : Wp m e Q) (k : ∀ x e', Q x e' → Q' x e') : Wp m e Q' := by
  obtain ⟨x, e', a, b⟩ := h
  exact ⟨x, e', a, k x e' b⟩
theorem Wc.mono {c : Fm} {as : List Sl} {R R' : D → List Sl → Prop} (h : Wc c as R) (k : ∀ x e', R x e' → R' x e') : Wc c as R' := by
  obtain ⟨x, e', a, b⟩ := h
  exact ⟨x, e', a, k x e' b⟩
theorem Wp.of {m : M α} {Q : α → Env → Prop} {x : α} {e' : Env} (h : m e = some (x, e')) (k : Q x e') : Wp m e Q := ⟨x, e', h, k⟩
theorem Wc.of {c : Fm} {as as' : List Sl} {R : D → List Sl → Prop} (h : c as = some (d, as')) (k : R d as') : Wc c as R := ⟨d, as', h, k⟩
theorem wp_bind {m : M α} {f : α × Env → Option (β × Env)} {g : Env → Option (β × Env)} {Q : β → Env → Prop} (hg : g e = (m e).bind f) (h : Wp m e fun x e1 => ∃ y e2, f (x, e1) = some (y, e2) ∧ Q y e2) : ∃ y e2, g e = some (y, e2) ∧ Q y e2 := by
  obtain ⟨x, e1, a, y, e2, b, c⟩ := h
  exact ⟨y, e2, by rw [hg, a]; exact b, c⟩
theorem set_same {x : Sl} (h : e[i]? = some x) : e.set i x = e := by
  apply List.ext_getElem?
  intro k
  by_cases z : i = k
  · subst z
    rw [List.getElem?_set_self (List.getElem?_eq_some_iff.mp h).1, h]
  · rw [List.getElem?_set_ne z]

/-! ### expressions -/
variable {Q : D → Env → Prop} {a b c : M D} {r : M (List D)} {t u : M Bool}
theorem wp_c (k : Q d e) : Wp (mC d) e Q := ⟨d, e, rfl, k⟩
theorem wp_var (h : e[i]? = some (.d d)) (k : Q d e) : Wp (mVar i) e Q := ⟨d, e, by unfold mVar; rw [h]; show some (d, e.set i (.d d)) = _; rw [set_same h], k⟩
theorem wp_varL {xs : List D} (h : e[i]? = some (.ol xs)) (k : Q (.lst xs) (e.set i (.d (.lst xs)))) : Wp (mVar i) e Q := ⟨.lst xs, _, by unfold mVar; rw [h]; rfl, k⟩
theorem wp_varO {kvs : List (Key × D)} (h : e[i]? = some (.od kvs)) (k : Q (.dct kvs) (e.set i (.d (.dct kvs)))) : Wp (mVar i) e Q := ⟨.dct kvs, _, by unfold mVar; rw [h]; rfl, k⟩
theorem wp_op {o : D → D → Option D} (h : Wp a e fun x e1 => Wp b e1 fun y e2 => ∃ z, o x y = some z ∧ Q z e2) : Wp (mOp o a b) e Q := by
  obtain ⟨x, e1, h1, y, e2, h2, z, h3, k⟩ := h
  exact ⟨z, e2, by unfold mOp; rw [h1]; show (b e1).bind _ = _; rw [h2]; show (o x y).bind _ = _; rw [h3]; rfl, k⟩
theorem wp_un {o : D → Option D} (h : Wp a e fun x e1 => ∃ z, o x = some z ∧ Q z e1) : Wp (mUn o a) e Q := by
  obtain ⟨x, e1, h1, z, h3, k⟩ := h
  exact ⟨z, e1, by unfold mUn; rw [h1]; show (o x).bind _ = _; rw [h3]; rfl, k⟩
theorem wp_nil {Q : List D → Env → Prop} (k : Q [] e) : Wp mNil e Q := ⟨[], e, rfl, k⟩
theorem wp_cons {Q : List D → Env → Prop} (h : Wp a e fun x e1 => Wp r e1 fun xs e2 => Q (x :: xs) e2) : Wp (mCons a r) e Q := by
  obtain ⟨x, e1, h1, y, e2, h2, k⟩ := h
  exact ⟨x :: y, e2, by unfold mCons; rw [h1]; show (r e1).bind _ = _; rw [h2]; rfl, k⟩
theorem wp_cb {o : List D → Option D} (h : Wp r e fun xs e1 => ∃ z, o xs = some z ∧ Q z e1) : Wp (mCb o r) e Q := by
  obtain ⟨x, e1, h1, z, h3, k⟩ := h
  exact ⟨z, e1, by unfold mCb; rw [h1]; show (o x).bind _ = _; rw [h3]; rfl, k⟩
theorem wp_bl {Q : Bool → Env → Prop} (h : Wp a e fun x e1 => ∃ z, x = .bl z ∧ Q z e1) : Wp (mBl a) e Q := by
  obtain ⟨x, e1, h1, z, rfl, k⟩ := h
  exact ⟨z, e1, by unfold mBl; rw [h1]; rfl, k⟩
theorem wp_tru {Q : Bool → Env → Prop} (h : Wp a e fun x e1 => ∃ z, truD x = some z ∧ Q z e1) : Wp (mTru a) e Q := by
  obtain ⟨x, e1, h1, z, h3, k⟩ := h
  exact ⟨z, e1, by unfold mTru; rw [h1]; show (truD x).bind _ = _; rw [h3]; rfl, k⟩
theorem wp_not {Q : Bool → Env → Prop} (h : Wp t e fun x e1 => Q (!x) e1) : Wp (mNot t) e Q := by
  obtain ⟨x, e1, h1, k⟩ := h
  exact ⟨!x, e1, by unfold mNot; rw [h1]; rfl, k⟩
theorem wp_and {Q : Bool → Env → Prop} (h : Wp t e fun x e1 => if x = true then Wp u e1 Q else Q false e1) : Wp (mAnd t u) e Q := by
  obtain ⟨x, e1, h1, k⟩ := h
  cases x with
  | true =>
    obtain ⟨y, e2, h2, k⟩ := (show Wp u e1 Q from k)
    exact ⟨y, e2, by unfold mAnd; rw [h1]; exact h2, k⟩
  | false => exact ⟨false, e1, by unfold mAnd; rw [h1]; rfl, k⟩
theorem wp_or {Q : Bool → Env → Prop} (h : Wp t e fun x e1 => if x = true then Q true e1 else Wp u e1 Q) : Wp (mOr t u) e Q := by
  obtain ⟨x, e1, h1, k⟩ := h
  cases x with
  | false =>
    obtain ⟨y, e2, h2, k⟩ := (show Wp u e1 Q from k)
    exact ⟨y, e2, by unfold mOr; rw [h1]; exact h2, k⟩
  | true => exact ⟨true, e1, by unfold mOr; rw [h1]; rfl, k⟩
theorem wp_if {Q : α → Env → Prop} {x y : M α} (h : Wp t e fun b e1 => if b = true then Wp x e1 Q else Wp y e1 Q) : Wp (mIf t x y) e Q := by
  obtain ⟨b, e1, h1, k⟩ := h
  cases b with
  | true =>
    obtain ⟨y, e2, h2, k⟩ := (show Wp x e1 Q from k)
    exact ⟨y, e2, by unfold mIf; rw [h1]; exact h2, k⟩
  | false =>
    obtain ⟨y, e2, h2, k⟩ := (show Wp y e1 Q from k)
    exact ⟨y, e2, by unfold mIf; rw [h1]; exact h2, k⟩
theorem wp_andV (h : Wp a e fun x e1 => ∃ z, x = .bl z ∧ if z = true then Wp b e1 Q else Q (.bl false) e1) : Wp (mAndV a b) e Q := by
  obtain ⟨x, e1, h1, z, rfl, k⟩ := h
  cases z with
  | true =>
    obtain ⟨y, e2, h2, k⟩ := (show Wp b e1 Q from k)
    exact ⟨y, e2, by unfold mAndV; rw [h1]; exact h2, k⟩
  | false => exact ⟨.bl false, e1, by unfold mAndV; rw [h1]; rfl, k⟩
theorem wp_orV (h : Wp a e fun x e1 => ∃ z, x = .bl z ∧ if z = true then Q (.bl true) e1 else Wp b e1 Q) : Wp (mOrV a b) e Q := by
  obtain ⟨x, e1, h1, z, rfl, k⟩ := h
  cases z with
  | false =>
    obtain ⟨y, e2, h2, k⟩ := (show Wp b e1 Q from k)
    exact ⟨y, e2, by unfold mOrV; rw [h1]; exact h2, k⟩
  | true => exact ⟨.bl true, e1, by unfold mOrV; rw [h1]; rfl, k⟩
theorem wp_notV (h : Wp a e fun x e1 => ∃ z, x = .bl z ∧ Q (.bl (!z)) e1) : Wp (mNotV a) e Q := by
  obtain ⟨x, e1, h1, z, rfl, k⟩ := h
  exact ⟨.bl (!z), e1, by unfold mNotV; rw [h1]; rfl, k⟩
theorem wp_chain {o o' : D → D → Option D} (h : Wp a e fun x e1 => Wp b e1 fun y e2 => ∃ z, o x y = some (.bl z) ∧ if z = true then Wp c e2 (fun w e3 => ∃ v, o' y w = some v ∧ Q v e3) else Q (.bl false) e2) : Wp (mChain o o' a b c) e Q := by
  obtain ⟨x, e1, h1, y, e2, h2, z, h3, k⟩ := h
  cases z with
  | true =>
    obtain ⟨w, e3, h4, v, h5, k⟩ := (show Wp c e2 _ from k)
    exact ⟨v, e3, by unfold mChain; rw [h1]; show (b e1).bind _ = _; rw [h2]; show (o x y).bind _ = _; rw [h3]; show (c e2).bind _ = _; rw [h4]; show (o' y w).bind _ = _; rw [h5]; rfl, k⟩
  | false => exact ⟨.bl false, e2, by unfold mChain; rw [h1]; show (b e1).bind _ = _; rw [h2]; show (o x y).bind _ = _; rw [h3]; rfl, k⟩
theorem wp_sz {Q : List D → Env → Prop} (h : Wp r e fun xs e1 => xs.length ≤ sizeLine ∧ Q xs e1) : Wp (mSz r) e Q := by
  obtain ⟨x, e1, h1, h2, k⟩ := h
  exact ⟨x, e1, by unfold mSz; rw [h1]; exact if_pos h2, k⟩
theorem wp_lst (h : Wp r e fun xs e1 => Q (.lst xs) e1) : Wp (mLst r) e Q := by
  obtain ⟨x, e1, h1, k⟩ := h
  exact ⟨.lst x, e1, by unfold mLst; rw [h1]; rfl, k⟩
theorem wp_tup (h : Wp r e fun xs e1 => xs.length ≤ sizeLine ∧ Q (.tup xs) e1) : Wp (mTup r) e Q := by
  obtain ⟨x, e1, h1, k⟩ := wp_sz (Q := fun xs e1 => Q (.tup xs) e1) h
  exact ⟨.tup x, e1, by unfold mTup; rw [h1]; rfl, k⟩
theorem wp_is {p : D → Bool} (h : Wp a e fun x e1 => kindOk x = true ∧ Q (.bl (p x)) e1) : Wp (mIs p a) e Q := by
  obtain ⟨x, e1, h1, h2, k⟩ := h
  exact ⟨.bl (p x), e1, by unfold mIs; rw [h1]; exact if_pos h2, k⟩
theorem wp_onone {Q : Option Int → Env → Prop} (k : Q none e) : Wp mONone e Q := ⟨none, e, rfl, k⟩
theorem wp_osome {Q : Option Int → Env → Prop} (h : Wp a e fun x e1 => ∃ i, x = .int i ∧ Q (some i) e1) : Wp (mOSome a) e Q := by
  obtain ⟨x, e1, h1, z, rfl, k⟩ := h
  exact ⟨some z, e1, by unfold mOSome; rw [h1]; rfl, k⟩
theorem wp_sl {lo hi : M (Option Int)} (h : Wp a e fun x e1 => Wp lo e1 fun l e2 => Wp hi e2 fun v e3 => ∃ z, slD x l v = some z ∧ Q z e3) : Wp (mSl a lo hi) e Q := by
  obtain ⟨x, e1, h1, l, e2, h2, v, e3, h3, z, h4, k⟩ := h
  exact ⟨z, e3, by unfold mSl; rw [h1]; show (lo e1).bind _ = _; rw [h2]; show (hi e2).bind _ = _; rw [h3]; show (slD x l v).bind _ = _; rw [h4]; rfl, k⟩
theorem wp_m1 {o : D → D → Option D} (h : Wp a e fun x e1 => ∃ s, x = .str s ∧ Wp b e1 fun y e2 => ∃ z, o (.str s) y = some z ∧ Q z e2) : Wp (mM1 o a b) e Q := by
  obtain ⟨x, e1, h1, s, rfl, y, e2, h2, z, h3, k⟩ := h
  exact ⟨z, e2, by unfold mM1; rw [h1]; show (b e1).bind _ = _; rw [h2]; show (o (.str s) y).bind _ = _; rw [h3]; rfl, k⟩
theorem wp_all (h : Wp r e fun xs e1 => ∃ bs, all1 xs = some bs ∧ Q (.bl (bs.all id)) e1) : Wp (mAll r) e Q := by
  obtain ⟨x, e1, h1, bs, h2, k⟩ := h
  exact ⟨_, e1, by unfold mAll; rw [h1]; show (all1 x).bind _ = _; rw [h2]; rfl, k⟩
theorem wp_repr (h : Wp r e fun xs e1 => ∃ x, xs = [x] ∧ rokB x = true ∧ Q (.str x.py.shown) e1) : Wp (mRepr r) e Q := by
  obtain ⟨x, e1, h1, y, rfl, h2, k⟩ := h
  exact ⟨_, e1, by unfold mRepr; rw [h1]; show (repr1 [y]).bind _ = _; rw [show repr1 [y] = some (.str y.py.shown) from if_pos h2]; rfl, k⟩
theorem wp_peek (h : Wp a (e.map Sl.frz) fun x _ => scalB x = true ∧ Q x e) : Wp (mPeek a) e Q := by
  obtain ⟨x, e1, h1, h2, k⟩ := h
  exact ⟨x, e, by unfold mPeek; rw [h1]; exact if_pos h2, k⟩
theorem wp_peekT {Q : Bool → Env → Prop} (h : Wp t (e.map Sl.frz) fun x _ => Q x e) : Wp (mPeekT t) e Q := by
  obtain ⟨x, e1, h1, k⟩ := h
  exact ⟨x, e, by unfold mPeekT; rw [h1]; rfl, k⟩
theorem wp_addF {Q : List D → Env → Prop} (h : Wp a e fun x e1 => ∃ xs, x = .lst xs ∧ Wp b e1 fun y e2 => ∃ ys, y = .lst ys ∧ xs.length + ys.length ≤ sizeLine ∧ Q (xs ++ ys) e2) : Wp (mAddF a b) e Q := by
  obtain ⟨x, e1, h1, xs, rfl, y, e2, h2, ys, rfl, h3, k⟩ := h
  exact ⟨_, e2, by unfold mAddF; rw [h1]; show (b e1).bind _ = _; rw [h2]; exact if_pos h3, k⟩
theorem wp_dget {s0 s : Sl} {k0 kvs : List (Key × D)} {k : Key} (h0 : e[i]? = some s0) (h0' : s0.dict = some k0) (h : Wp a e fun x e1 => ∃ s kvs k v, e1[i]? = some s ∧ s.dict = some kvs ∧ keyD x = some k ∧ valD kvs k = some v ∧ Q v e1) : Wp (mDGet i a) e Q := by
  obtain ⟨x, e1, h1, s, kvs, k, v, h2, h3, h4, h5, kk⟩ := h
  exact ⟨v, e1, by unfold mDGet isOD; rw [h0]; show (s0.dict).bind _ = _; rw [h0']; show (a e).bind _ = _; rw [h1]; show (e1[i]?.bind Sl.dict).bind _ = _; rw [h2]; show (s.dict).bind _ = _; rw [h3]; show (keyD x).bind _ = _; rw [h4]; show (valD kvs k).bind _ = _; rw [h5]; rfl, kk⟩
theorem wp_lget {s0 : Sl} {k0 : List D} (h0 : e[i]? = some s0) (h0' : s0.list = some k0) (h : Wp a e fun x e1 => ∃ s xs k v, e1[i]? = some s ∧ s.list = some xs ∧ x = .int k ∧ atI xs k = some v ∧ Q v e1) : Wp (mLGet i a) e Q := by
  obtain ⟨x, e1, h1, s, xs, k, v, h2, h3, rfl, h5, kk⟩ := h
  exact ⟨v, e1, by unfold mLGet isL; rw [h0]; show (s0.list).bind _ = _; rw [h0']; show (a e).bind _ = _; rw [h1]; show (e1[i]?.bind Sl.list).bind _ = _; rw [h2]; show (s.list).bind _ = _; rw [h3]; show (atI xs k).bind _ = _; rw [h5]; rfl, kk⟩
/-! what is walked -/
theorem wp_ilist {Q : List D → Env → Prop} (h : Wp a e fun x e1 => ∃ xs, x = .lst xs ∧ Q xs e1) : Wp (mIList a) e Q := by
  obtain ⟨x, e1, h1, xs, rfl, k⟩ := h
  exact ⟨xs, e1, by unfold mIList; rw [h1]; rfl, k⟩
theorem wp_itup {Q : List D → Env → Prop} (h : Wp a e fun x e1 => ∃ xs, x = .tup xs ∧ Q xs e1) : Wp (mITup a) e Q := by
  obtain ⟨x, e1, h1, xs, rfl, k⟩ := h
  exact ⟨xs, e1, by unfold mITup; rw [h1]; rfl, k⟩
theorem wp_istr {Q : List D → Env → Prop} (h : Wp a e fun x e1 => ∃ s, x = .str s ∧ Q (signs s) e1) : Wp (mIStr a) e Q := by
  obtain ⟨x, e1, h1, xs, rfl, k⟩ := h
  exact ⟨signs xs, e1, by unfold mIStr; rw [h1]; rfl, k⟩
theorem wp_irng {Q : List D → Env → Prop} (h : Wp r e fun xs e1 => ∃ n : Int, xs = [.int n] ∧ (-(2 ^ 62) ≤ n ∧ n < 2 ^ 62) ∧ Q (upto n.toNat) e1) : Wp (mIRng r) e Q := by
  obtain ⟨x, e1, h1, n, rfl, h2, k⟩ := h
  exact ⟨_, e1, by unfold mIRng; rw [h1]; show (rngD [.int n]).bind _ = _; rw [show rngD [.int n] = some (upto n.toNat) from if_pos h2]; rfl, k⟩
theorem wp_list {Q : List D → Env → Prop} (h : Wp r e fun xs e1 => ∃ ys, seqOf xs = some ys ∧ Q ys e1) : Wp (mList r) e Q := by
  obtain ⟨x, e1, h1, ys, h2, k⟩ := h
  exact ⟨ys, e1, by unfold mList; rw [h1]; show (seqOf x).bind _ = _; rw [h2]; rfl, k⟩
/-! comprehensions -/
theorem wp_lc {Q : List D → Env → Prop} {it : M (List D)} (h : Wp it e fun ds e1 => e1[j]? = some .no ∧ ∃ rs e2, lcGo j t a ds [] e1 = some (rs, e2) ∧ Q rs e2) : Wp (mLc it t a j) e Q := by
  obtain ⟨ds, e1, h1, h2, rs, e2, h3, k⟩ := h
  refine ⟨rs, e2, ?_, k⟩
  unfold mLc
  rw [h1]
  show (if (e1[j]?).any isNo = true then lcGo j t a ds [] e1 else none) = _
  rw [h2]
  exact h3
theorem lc_inv (I : Nat → List D → Env → Prop) : ∀ (ds acc : List D) (k : Nat) (e : Env), I k acc e → acc.length + ds.length ≤ sizeLine →
    (∀ i d acc e, ds[i]? = some d → I (k + i) acc e → Wp t (e.set j (.d d)) fun b e1 => if b = true then Wp a e1 fun y e2 => I (k + i + 1) (acc ++ [y]) (e2.set j .no) else I (k + i + 1) acc (e1.set j .no)) →
    ∃ rs e2, lcGo j t a ds acc e = some (rs, e2) ∧ I (k + ds.length) rs e2
  | [], acc, k, e, h, _, _ => ⟨acc, e, rfl, h⟩
  | d :: ds, acc, k, e, h, hl, hs => by
    rw [List.length_cons] at hl
    obtain ⟨b, e1, h1, q⟩ := hs 0 d acc e rfl h
    have next : ∀ acc' e', acc'.length + ds.length ≤ sizeLine → I (k + 1) acc' e' → ∃ rs e2, lcGo j t a ds acc' e' = some (rs, e2) ∧ I (k + (ds.length + 1)) rs e2 := fun acc' e' hl' h' => by
      obtain ⟨rs, e2, p, q⟩ := lc_inv I ds acc' (k + 1) e' h' hl' fun i d acc e hd hi => by
        have := hs (i + 1) d acc e (by simpa using hd) (by rw [show k + (i + 1) = k + 1 + i by omega]; exact hi)
        rw [show k + (i + 1) = k + 1 + i by omega] at this
        exact this
      exact ⟨rs, e2, p, by rw [show k + (ds.length + 1) = k + 1 + ds.length by omega]; exact q⟩
    have e0 : lcGo j t a (d :: ds) acc e = (t (e.set j (.d d))).bind fun p => if p.1 = true then (a p.2).bind fun q => if acc.length < sizeLine then lcGo j t a ds (acc ++ [q.1]) (q.2.set j .no) else none else lcGo j t a ds acc (p.2.set j .no) := rfl
    cases b with
    | true =>
      obtain ⟨y, e2, h2, q⟩ := (show Wp a e1 _ from q)
      obtain ⟨rs, e3, h3, q3⟩ := next (acc ++ [y]) (e2.set j .no) (by rw [List.length_append]; simp; omega) q
      refine ⟨rs, e3, ?_, q3⟩
      rw [e0, h1]
      show (a e1).bind _ = _
      rw [h2]
      exact (if_pos (by omega)).trans h3
    | false =>
      obtain ⟨rs, e3, h3, q3⟩ := next acc (e1.set j .no) (by omega) q
      refine ⟨rs, e3, ?_, q3⟩
      rw [e0, h1]
      exact h3
/-! ### statements -/
variable {m1 m2 : MS} {R : Out → Env → Prop}
/-- what comes behind a statement -/
def seqK (b : MS) (R : Out → Env → Prop) : Out → Env → Prop
  | .nx, e => Wp b e R
  | o, e => R o e
theorem wp_seq (h : Wp m1 e (seqK m2 R)) : Wp (mSeq m1 m2) e R := by
  obtain ⟨o, e1, h1, k⟩ := h
  cases o with
  | nx =>
    obtain ⟨o2, e2, h2, k⟩ := (show Wp m2 e1 R from k)
    exact ⟨o2, e2, by unfold mSeq; rw [h1]; exact h2, k⟩
  | rt d => exact ⟨.rt d, e1, by unfold mSeq; rw [h1]; rfl, k⟩
  | bk => exact ⟨.bk, e1, by unfold mSeq; rw [h1]; rfl, k⟩
  | ct => exact ⟨.ct, e1, by unfold mSeq; rw [h1]; rfl, k⟩
theorem wk_nx (h : Wp m2 e R) : seqK m2 R .nx e := h
theorem wk_rt (h : R (.rt d) e) : seqK m2 R (.rt d) e := h
theorem wk_bk (h : R .bk e) : seqK m2 R .bk e := h
theorem wk_ct (h : R .ct e) : seqK m2 R .ct e := h
theorem wp_ret (h : Wp a e fun x e1 => R (.rt x) e1) : Wp (mRet a) e R := by
  obtain ⟨x, e1, h1, k⟩ := h
  exact ⟨.rt x, e1, by unfold mRet; rw [h1]; rfl, k⟩
theorem wp_retN (h : R (.rt .non) e) : Wp mRetN e R := ⟨_, e, rfl, h⟩
theorem wp_next (h : R .nx e) : Wp mNext e R := ⟨_, e, rfl, h⟩
theorem wp_brk (h : R .bk e) : Wp mBrk e R := ⟨_, e, rfl, h⟩
theorem wp_cont (h : R .ct e) : Wp mCont e R := ⟨_, e, rfl, h⟩
theorem wp_drop (h : Wp a e fun _ e1 => R .nx e1) : Wp (mDrop a) e R := by
  obtain ⟨x, e1, h1, k⟩ := h
  exact ⟨.nx, e1, by unfold mDrop; rw [h1]; rfl, k⟩
theorem wp_set (h : Wp a e fun x e1 => freeB e1 j = true ∧ R .nx (e1.set j (.d x))) : Wp (mSet j a) e R := by
  obtain ⟨x, e1, h1, h2, k⟩ := h
  exact ⟨.nx, _, by unfold mSet; rw [h1]; exact if_pos h2, k⟩
theorem wp_own (h : Wp r e fun x e1 => freeB e1 j = true ∧ R .nx (e1.set j (.ol x))) : Wp (mOwn j r) e R := by
  obtain ⟨x, e1, h1, h2, k⟩ := h
  exact ⟨.nx, _, by unfold mOwn; rw [h1]; exact if_pos h2, k⟩
theorem wp_app {ys : List D} (h0 : e[i]? = some (.ol ys)) (h : Wp a e fun x e1 => ∃ xs, e1[i]? = some (.ol xs) ∧ xs.length < sizeLine ∧ R .nx (e1.set i (.ol (xs ++ [x])))) : Wp (mApp i a) e R := by
  obtain ⟨x, e1, h1, xs, h2, h3, k⟩ := h
  refine ⟨.nx, _, ?_, k⟩
  unfold mApp isOL
  rw [h0]
  show (a e).bind _ = _
  rw [h1]
  show (e1[i]?.bind olOf).bind _ = _
  rw [h2]
  exact if_pos h3
theorem wp_aug {o : D → D → Option D} {x0 : D} (h0 : e[j]? = some (.d x0)) (h : Wp a e fun y e1 => ∃ x z, e1[j]? = some (.d x) ∧ o x y = some z ∧ R .nx (e1.set j (.d z))) : Wp (mAug j o a) e R := by
  obtain ⟨y, e1, h1, x, z, h2, h3, k⟩ := h
  refine ⟨.nx, _, ?_, k⟩
  unfold mAug isD1
  rw [h0]
  show (a e).bind _ = _
  rw [h1]
  show (e1[j]?.bind dOf).bind _ = _
  rw [h2]
  show (o x y).bind _ = _
  rw [h3]
  rfl
theorem wp_dput {k : Key} (h : Wp a e fun x e1 => ∃ s kvs, e1[i]? = some s ∧ s.dict = some kvs ∧ kvs.length < sizeLine ∧ R .nx (e1.set i (s.dictTo (putD kvs k x)))) : Wp (mDPut i k a) e R := by
  obtain ⟨x, e1, h1, s, kvs, h2, h3, h4, kk⟩ := h
  refine ⟨.nx, _, ?_, kk⟩
  unfold mDPut
  rw [h1]
  show (e1[i]?).bind _ = _
  rw [h2]
  show (s.dict).bind _ = _
  rw [h3]
  exact if_pos h4
theorem wp_lput {k : Int} (h : Wp a e fun x e1 => ∃ s xs p, e1[i]? = some s ∧ s.list = some xs ∧ ixN xs.length k = some p ∧ R .nx (e1.set i (s.listTo (xs.set p x)))) : Wp (mLPut i k a) e R := by
  obtain ⟨x, e1, h1, s, xs, p, h2, h3, h4, kk⟩ := h
  refine ⟨.nx, _, ?_, kk⟩
  unfold mLPut
  rw [h1]
  show (e1[i]?).bind _ = _
  rw [h2]
  show (s.list).bind _ = _
  rw [h3]
  show (ixN xs.length k).bind _ = _
  rw [h4]
  rfl
/-! loops -/
/-- what a turn may end in -/
def turnK (N : Env → Prop) (R : Out → Env → Prop) : Out → Env → Prop
  | .nx, e => N e
  | .ct, e => N e
  | .bk, e => R .nx e
  | .rt d, e => R (.rt d) e
theorem wt_nx {N : Env → Prop} (h : N e) : turnK N R .nx e := h
theorem wt_ct {N : Env → Prop} (h : N e) : turnK N R .ct e := h
theorem wt_bk {N : Env → Prop} (h : R .nx e) : turnK N R .bk e := h
theorem wt_rt {N : Env → Prop} (h : R (.rt d) e) : turnK N R (.rt d) e := h
theorem for_inv (I : Nat → Env → Prop) : ∀ (ds : List D) (k : Nat) (e : Env), I k e →
    (∀ i d e, ds[i]? = some d → I (k + i) e → freeB e j = true ∧ Wp m1 (e.set j (.d d)) (turnK (I (k + i + 1)) R)) → (∀ e, I (k + ds.length) e → R .nx e) → Wp (forGo j m1 ds) e R
  | [], k, e, h, _, hd => ⟨.nx, e, rfl, hd e h⟩
  | d :: ds, k, e, h, hs, hd => by
    obtain ⟨hf, o, e1, h1, q⟩ := hs 0 d e rfl h
    have next : ∀ e', I (k + 1) e' → Wp (forGo j m1 ds) e' R := fun e' h' => for_inv I ds (k + 1) e' h' (fun i d e hd hi => by
        have := hs (i + 1) d e (by simpa using hd) (by rw [show k + (i + 1) = k + 1 + i by omega]; exact hi)
        rw [show k + (i + 1) = k + 1 + i by omega] at this
        exact this) fun e he => hd e (by rw [List.length_cons, show k + (ds.length + 1) = k + 1 + ds.length by omega]; exact he)
    have e0 : forGo j m1 (d :: ds) e = (m1 (e.set j (.d d))).bind fun p => match p.1 with
        | .nx => forGo j m1 ds p.2
        | .ct => forGo j m1 ds p.2
        | .bk => some (.nx, p.2)
        | .rt d => some (.rt d, p.2) := if_pos hf
    cases o with
    | nx =>
      obtain ⟨o2, e2, h2, k2⟩ := next e1 q
      exact ⟨o2, e2, by rw [e0, h1]; exact h2, k2⟩
    | ct =>
      obtain ⟨o2, e2, h2, k2⟩ := next e1 q
      exact ⟨o2, e2, by rw [e0, h1]; exact h2, k2⟩
    | bk => exact ⟨.nx, e1, by rw [e0, h1]; rfl, q⟩
    | rt d => exact ⟨.rt d, e1, by rw [e0, h1]; rfl, q⟩
theorem wp_for {it : M (List D)} (h : Wp it e fun ds e1 => Wp (forGo j m1 ds) e1 R) : Wp (mFor it j m1) e R := by
  obtain ⟨ds, e1, h1, o, e2, h2, k⟩ := h
  exact ⟨o, e2, by unfold mFor; rw [h1]; exact h2, k⟩
theorem for_nil (h : R .nx e) : Wp (forGo j m1 []) e R := ⟨.nx, e, rfl, h⟩
theorem for_cons1 {ds : List D} (hf : freeB e j = true) (h : Wp m1 (e.set j (.d d)) (turnK (fun e1 => Wp (forGo j m1 ds) e1 R) R)) : Wp (forGo j m1 (d :: ds)) e R := by
  obtain ⟨o, e1, h1, q⟩ := h
  have e0 : forGo j m1 (d :: ds) e = (m1 (e.set j (.d d))).bind fun p => match p.1 with
      | .nx => forGo j m1 ds p.2
      | .ct => forGo j m1 ds p.2
      | .bk => some (.nx, p.2)
      | .rt d => some (.rt d, p.2) := if_pos hf
  cases o with
  | nx =>
    obtain ⟨o2, e2, h2, k2⟩ := q
    exact ⟨o2, e2, by rw [e0, h1]; exact h2, k2⟩
  | ct =>
    obtain ⟨o2, e2, h2, k2⟩ := q
    exact ⟨o2, e2, by rw [e0, h1]; exact h2, k2⟩
  | bk => exact ⟨.nx, e1, by rw [e0, h1]; rfl, q⟩
  | rt d => exact ⟨.rt d, e1, by rw [e0, h1]; rfl, q⟩
theorem wh_inv (I : Nat → Env → Prop) : ∀ (n : Nat) (e : Env), I n e → (∀ m e, I m e → Wp t e fun b e1 => if b = true then ∃ m', m = m' + 1 ∧ Wp m1 e1 (turnK (fun e2 => ∃ l, l ≤ m' ∧ I l e2) R) else R .nx e1) → ∀ N, n < N → Wp (whGo t m1 N) e R
  | n, e, h, hs, 0, hN => by omega
  | n, e, h, hs, N + 1, hN => by
    obtain ⟨b, e1, h1, q⟩ := hs n e h
    have e0 : whGo t m1 (N + 1) e = (t e).bind fun p => if p.1 = true then (m1 p.2).bind fun q => match q.1 with
        | .nx => whGo t m1 N q.2
        | .ct => whGo t m1 N q.2
        | .bk => some (.nx, q.2)
        | .rt d => some (.rt d, q.2) else some (.nx, p.2) := rfl
    cases b with
    | false => exact ⟨.nx, e1, by rw [e0, h1]; rfl, q⟩
    | true =>
      obtain ⟨m', hm, o, e2, h2, q⟩ := q
      cases o with
      | nx =>
        obtain ⟨l, hl, q⟩ := q
        obtain ⟨o3, e4, h4, k⟩ := wh_inv I l e2 q hs N (by omega)
        exact ⟨o3, e4, by rw [e0, h1]; show (m1 e1).bind _ = _; rw [h2]; exact h4, k⟩
      | ct =>
        obtain ⟨l, hl, q⟩ := q
        obtain ⟨o3, e4, h4, k⟩ := wh_inv I l e2 q hs N (by omega)
        exact ⟨o3, e4, by rw [e0, h1]; show (m1 e1).bind _ = _; rw [h2]; exact h4, k⟩
      | bk => exact ⟨.nx, e2, by rw [e0, h1]; show (m1 e1).bind _ = _; rw [h2]; rfl, q⟩
      | rt d => exact ⟨.rt d, e2, by rw [e0, h1]; show (m1 e1).bind _ = _; rw [h2]; rfl, q⟩
/-! ### calls, defs -/
theorem wp_call {f : Fm} (h : Wp r e fun ds e1 => ds.length = n ∧ Wc f (ds.map .d) fun x _ => Q x e1) : Wp (mCall n f r) e Q := by
  obtain ⟨ds, e1, h1, h2, x, as', h3, k⟩ := h
  exact ⟨x, e1, by unfold mCall; rw [h1]; show (if ds.length = n then _ else none) = _; rw [if_pos h2]; show (f (ds.map .d)).bind _ = _; rw [h3]; rfl, k⟩
theorem wp_callK {m : Nat} {pm : List Nat} {f : Fm} (h : Wp r e fun ds e1 => (ds.length = m ∧ (permD pm ds).length = n) ∧ Wc f ((permD pm ds).map .d) fun x _ => Q x e1) : Wp (mCallK n m pm f r) e Q := by
  obtain ⟨ds, e1, h1, h2, x, as', h3, k⟩ := h
  exact ⟨x, e1, by unfold mCallK; rw [h1]; show (if ds.length = m ∧ (permD pm ds).length = n then _ else none) = _; rw [if_pos h2]; show (f ((permD pm ds).map .d)).bind _ = _; rw [h3]; rfl, k⟩
theorem wp_callP {f : Fm} {s0 : Sl} (h0 : e[i]? = some s0) (o0 : s0.owned = true) (h : Wp r e fun ds e1 => ∃ s, e1[i]? = some s ∧ s.owned = true ∧ ds.length + 1 = n ∧ Wc f (s.lend :: ds.map .d) fun x as' => ∃ s', as'[0]? = some s' ∧ Q x (e1.set i (s.back s'))) : Wp (mCallP n i f r) e Q := by
  obtain ⟨ds, e1, h1, s, h2, h3, h4, x, as', h5, s', h6, k⟩ := h
  refine ⟨x, _, ?_, k⟩
  unfold mCallP isOwn
  rw [h0]
  show (if s0.owned = true then some s0 else none).bind _ = _
  rw [if_pos o0]
  show (r e).bind _ = _
  rw [h1]
  show ((e1[i]?).bind _).bind _ = _
  rw [h2]
  show (if s.owned = true then some s else none).bind _ = _
  rw [if_pos h3]
  show (if ds.length + 1 = n then _ else none) = _
  rw [if_pos h4]
  show (f _).bind _ = _
  rw [h5]
  show (as'[0]?).bind _ = _
  rw [h6]
  rfl
theorem wp_lnil {Q : List Am → Env → Prop} (k : Q [] e) : Wp mLNil e Q := ⟨[], e, rfl, k⟩
theorem wp_ldat {Q : List Am → Env → Prop} {r : M (List Am)} (h : Wp a e fun x e1 => Wp r e1 fun xs e2 => Q (.dat x :: xs) e2) : Wp (mLDat a r) e Q := by
  obtain ⟨x, e1, h1, y, e2, h2, k⟩ := h
  exact ⟨_, e2, by unfold mLDat; rw [h1]; show (r e1).bind _ = _; rw [h2]; rfl, k⟩
theorem wp_lown {Q : List Am → Env → Prop} {r : M (List Am)} {s0 : Sl} (h0 : e[i]? = some s0) (o0 : s0.owned = true) (h : Wp r e fun xs e2 => Q (.own i :: xs) e2) : Wp (mLOwn i r) e Q := by
  obtain ⟨y, e2, h2, k⟩ := h
  refine ⟨_, e2, ?_, k⟩
  unfold mLOwn isOwn
  rw [h0]
  show (if s0.owned = true then some s0 else none).bind _ = _
  rw [if_pos o0]
  show (r e).bind _ = _
  rw [h2]
  rfl
theorem wp_callL {f : Fm} {r : M (List Am)} (h : Wp r e fun ms e1 => (ms.length = n ∧ distinctB (ownsOf ms) = true) ∧ ∃ as, slots e1 ms = some as ∧ Wc f as fun x as' => Q x (backs ms as' e1)) : Wp (mCallL n f r) e Q := by
  obtain ⟨ms, e1, h1, h2, as, h3, x, as', h4, k⟩ := h
  refine ⟨x, _, ?_, k⟩
  unfold mCallL
  rw [h1]
  show (if ms.length = n ∧ distinctB (ownsOf ms) = true then _ else none) = _
  rw [if_pos h2]
  show (slots e1 ms).bind _ = _
  rw [h3]
  show (f as).bind _ = _
  rw [h4]
  rfl
theorem wp_flast {Q : List Am × List D → Env → Prop} (h : Wp r e fun xs e1 => Q ([], xs) e1) : Wp (mFLast r) e Q := by
  obtain ⟨x, e1, h1, k⟩ := h
  exact ⟨_, e1, by unfold mFLast; rw [h1]; rfl, k⟩
theorem wp_fdat {Q : List Am × List D → Env → Prop} {r : M (List Am × List D)} (h : Wp a e fun x e1 => Wp r e1 fun p e2 => Q (.dat x :: p.1, p.2) e2) : Wp (mFDat a r) e Q := by
  obtain ⟨x, e1, h1, y, e2, h2, k⟩ := h
  exact ⟨_, e2, by unfold mFDat; rw [h1]; show (r e1).bind _ = _; rw [h2]; rfl, k⟩
theorem wp_fown {Q : List Am × List D → Env → Prop} {r : M (List Am × List D)} {s0 : Sl} (h0 : e[i]? = some s0) (o0 : s0.owned = true) (h : Wp r e fun p e2 => Q (.own i :: p.1, p.2) e2) : Wp (mFOwn i r) e Q := by
  obtain ⟨y, e2, h2, k⟩ := h
  refine ⟨_, e2, ?_, k⟩
  unfold mFOwn isOwn
  rw [h0]
  show (if s0.owned = true then some s0 else none).bind _ = _
  rw [if_pos o0]
  show (r e).bind _ = _
  rw [h2]
  rfl
theorem wp_callF {f : Fm} {r : M (List Am × List D)} (h : Wp r e fun p e1 => (p.1.length + 1 = n ∧ distinctB (ownsOf p.1) = true) ∧ ∃ as, slots e1 p.1 = some as ∧ Wc f (as ++ [.pl p.2]) fun x as' => Q x (backs p.1 as' e1)) : Wp (mCallF n f r) e Q := by
  obtain ⟨p, e1, h1, h2, as, h3, x, as', h4, k⟩ := h
  refine ⟨x, _, ?_, k⟩
  unfold mCallF
  rw [h1]
  show (if p.1.length + 1 = n ∧ distinctB (ownsOf p.1) = true then _ else none) = _
  rw [if_pos h2]
  show (slots e1 p.1).bind _ = _
  rw [h3]
  show (f (as ++ [.pl p.2])).bind _ = _
  rw [h4]
  rfl
/-- how a def's body ends -/
def defK (as : List Sl) (R : D → List Sl → Prop) : Out → Env → Prop
  | .rt d, e => R d (mergeS as e)
  | .nx, e => R .non (mergeS as e)
  | _, _ => False
theorem wd_rt {as : List Sl} {R : D → List Sl → Prop} (h : R d (mergeS as e)) : defK as R (.rt d) e := h
theorem wd_nx {as : List Sl} {R : D → List Sl → Prop} (h : R .non (mergeS as e)) : defK as R .nx e := h
theorem wc_def {N : Nat} {as : List Sl} {R : D → List Sl → Prop} (hl : as.length = n) (he : as ++ List.replicate (N - n) .no = e) (h : Wp m1 e (defK as R)) : Wc (defM n N m1) as R := by
  obtain ⟨o, e1, h1, k⟩ := h
  subst he
  have e0 : defM n N m1 as = (m1 (as ++ List.replicate (N - n) .no)).bind fun p => match p.1 with
    | .rt d => some (d, mergeS as p.2)
    | .nx => some (.non, mergeS as p.2)
    | _ => none := if_pos hl
  cases o with
  | rt d => exact ⟨d, _, by rw [e0, h1]; rfl, k⟩
  | nx => exact ⟨.non, _, by rw [e0, h1]; rfl, k⟩
  | bk => exact k.elim
  | ct => exact k.elim
end

/-! small steps -/
theorem ite_t {A B : Prop} (h : A) : if true = true then A else B := by rw [if_pos rfl]; exact h
theorem ite_f {A B : Prop} (h : B) : if false = true then A else B := by rw [if_neg Bool.false_ne_true]; exact h
theorem ite_nt {A B : Prop} (h : B) : if (!true) = true then A else B := h
theorem ite_nf {A B : Prop} (h : A) : if (!false) = true then A else B := h
theorem ite_dec {A B p : Prop} [Decidable p] (h : p → A) (k : ¬ p → B) : if decide p = true then A else B := by
  by_cases z : p
  · rw [if_pos (decide_eq_true z)]; exact h z
  · rw [if_neg (by rw [decide_eq_false z]; exact Bool.false_ne_true)]; exact k z
theorem ite_y {A B p : Prop} [Decidable p] (z : p) (h : A) : if decide p = true then A else B := ite_dec (fun _ => h) fun k => absurd z k
theorem ite_n {A B p : Prop} [Decidable p] (z : ¬ p) (h : B) : if decide p = true then A else B := ite_dec (fun k => absurd k z) fun _ => h
theorem ite_ny {A B p : Prop} [Decidable p] (z : p) (h : B) : if (!decide p) = true then A else B := by
  rw [if_neg (by rw [decide_eq_true z]; exact Bool.false_ne_true)]; exact h
theorem ite_nn {A B p : Prop} [Decidable p] (z : ¬ p) (h : A) : if (!decide p) = true then A else B := by
  rw [if_pos (by rw [decide_eq_false z]; rfl)]; exact h
theorem ite_b {A B : Prop} {b : Bool} (h : b = true → A) (k : b = false → B) : if b = true then A else B := by
  cases b with
  | true => exact h rfl
  | false => exact k rfl
theorem ite_nb {A B : Prop} {b : Bool} (h : b = false → A) (k : b = true → B) : if (!b) = true then A else B := by
  cases b with
  | true => exact k rfl
  | false => exact h rfl
theorem ite_bt {A B : Prop} {b : Bool} (z : b = true) (h : A) : if b = true then A else B := by rw [if_pos z]; exact h
theorem ite_bf {A B : Prop} {b : Bool} (z : b = false) (h : B) : if b = true then A else B := by rw [if_neg (by rw [z]; exact Bool.false_ne_true)]; exact h
theorem wc_app {c : Fm} {as : List Sl} {R R' : D → List Sl → Prop} (h : Wc c as R) (k : ∀ x e', R x e' → R' x e') : Wc c as R' := h.mono k
def Plain (x : Sl) : Prop := x = .no ∨ ∃ y, x = .d y
theorem Plain.no : Plain .no := .inl rfl
theorem Plain.d (y : D) : Plain (.d y) := .inr ⟨y, rfl⟩
theorem free_and {e : Env} {j : Nat} {P : Prop} (h : freeB e j = true) (k : P) : freeB e j = true ∧ P := ⟨h, k⟩
theorem kind_and {d : D} {P : Prop} (h : kindOk d = true) (k : P) : kindOk d = true ∧ P := ⟨h, k⟩
theorem size_and {xs : List D} {P : Prop} (h : xs.length ≤ sizeLine) (k : P) : xs.length ≤ sizeLine ∧ P := ⟨h, k⟩
theorem wc_eq {c : Fm} {as r : List Sl} {d : D} {R : D → List Sl → Prop} (h : c as = some (d, r)) (k : R d r) : Wc c as R := ⟨d, r, h, k⟩
theorem eq_of_wc {c : Fm} {as r : List Sl} {d : D} (h : Wc c as fun x as' => x = d ∧ as' = r) : c as = some (d, r) := by
  obtain ⟨x, as', a, rfl, rfl⟩ := h
  exact a
theorem call_and {n : Nat} {c : Fm} {ds : List D} {R : D → List Sl → Prop} {d : D} {r : List Sl} (hl : ds.length = n) (h : c (ds.map .d) = some (d, r)) (k : R d r) : ds.length = n ∧ Wc c (ds.map .d) R := ⟨hl, d, r, h, k⟩
theorem callk_and {n m : Nat} {pm : List Nat} {c : Fm} {ds : List D} {R : D → List Sl → Prop} {d : D} {r : List Sl} (hl : ds.length = m ∧ (permD pm ds).length = n) (h : c ((permD pm ds).map .d) = some (d, r)) (k : R d r) : (ds.length = m ∧ (permD pm ds).length = n) ∧ Wc c ((permD pm ds).map .d) R := ⟨hl, d, r, h, k⟩
theorem ite_nbt {A B : Prop} {b : Bool} (z : b = true) (h : B) : if (!b) = true then A else B := by rw [if_neg (by rw [z]; exact Bool.false_ne_true)]; exact h
theorem ite_nbf {A B : Prop} {b : Bool} (z : b = false) (h : A) : if (!b) = true then A else B := by rw [if_pos (by rw [z]; rfl)]; exact h
end Nv

set_option Elab.async false
set_option linter.all false
set_option maxRecDepth 100000
set_option maxHeartbeats 4000000
/-! NvI: list(x) of a text. -/
namespace Nv
open PySem L2 PyProof.Rows PySem.Spec
def sgnV (z : Str) : List V := z.cps.toList.map fun c => .str ⟨#[c]⟩
theorem sgn_vals : ∀ (l : List Nat) (vs : List Value), vs.length = l.length → (∀ (j : Nat) (v : Value), vs[j]? = some v → ∃ c u, l[j]? = some c ∧ v = Value.str { cps := #[c] } u) → Vals (l.map fun c => V.str ⟨#[c]⟩) vs
  | [], [], _, _ => .nil
  | [], v :: vs, h, _ => by cases h
  | c :: l, [], h, _ => by cases h
  | c :: l, v :: vs, h, k => by
    obtain ⟨c', u, e1, e2⟩ := k 0 v rfl
    cases e1
    subst e2
    refine .cons ?_ (sgn_vals l vs (by simpa using h) fun j w hw => k (j + 1) w hw)
    exact ⟨u, rfl⟩
theorem cl_list_str {X : Cx} (hc : X.calm = true) : CallR X (.type "list") fun xs H Q => ∃ z, xs = [.str z] ∧ z.length ≤ sizeLine ∧ ∀ l, H l = none → Q (.ref l) (upd H l (.lst (sgnV z))) := by
  intro pins s σ H xs us Q I r h
  obtain ⟨z, rfl, hz, q⟩ := h
  obtain ⟨u, rfl, rx⟩ := vals1 r
  obtain ⟨t, rfl⟩ := rx
  refine call_list_str (I.ok.hd hc) z t (fun h' tk acc c kp e it => ?_) hz
  have r' : Vals (sgnV z) acc.toList := sgn_vals _ _ (by rw [Array.length_toList, it.1, Array.length_toList]) fun j v hv => by
    rw [Array.getElem?_toList] at hv
    obtain ⟨c, u, e1, e2⟩ := it.2 j v hv
    exact ⟨c, u, by rw [Array.getElem?_toList]; exact e1, e2⟩
  refine ⟨.ref _, upd H s.heap.objs.size (.lst (sgnV z)), I.laid kp (Nat.le_refl _) ?_, rfl, q _ (I.hok.fresh (Nat.le_refl _))⟩
  refine ⟨by unfold sgnV; rw [List.length_map]; exact hz, acc.toList, c, r', ?_⟩
  simpa using e
def rListS (K : PySem.W.Frag) : List V → Hp → VK → Prop := fun xs H Q => (∃ p ys, xs = [.ref p] ∧ (SqL K H p ys ∨ SqT K H p ys) ∧ ∀ l, H l = none → Q (.ref l) (upd H l (.lst ys))) ∨ ∃ z, xs = [.str z] ∧ z.length ≤ sizeLine ∧ ∀ l, H l = none → Q (.ref l) (upd H l (.lst (sgnV z)))
theorem ka_listS {X : Cx} {K : PySem.W.Frag} (hc : X.calm = true) (h : X.K = K) : CallR X (.type "list") (rListS K) := h ▸ callr_or call_list_of (cl_list_str hc)
def seqOfS : List D → Option (List D)
  | [.str z] => if z.length ≤ sizeLine then some (signs z) else none
  | ds => seqOf ds
def mListS (r : M (List D)) : M (List D) := fun e => (r e).bind fun p => (seqOfS p.1).bind fun xs => some (xs, p.2)
section
variable {W : Wd} {tr : TA} {mr : M (List D)}
theorem rp_signs {G : Hp} (z : Str) : RpAll W G (sgnV z) (signs z) := by
  unfold sgnV signs
  induction z.cps.toList with
  | nil => exact .nil
  | cons c l ih => exact .cons (.str _) ih
theorem sf_listS (h : SimA W tr mr) : SimF W (tCB (rListS W.K) tr) (mListS mr) := fun env R d e1 hm hr => by
  obtain ⟨x, e2, h1, hm⟩ := bind_of hm
  obtain ⟨z, h3, hm⟩ := bind_of' hm
  cases hm
  intro G H σ S Q q
  by_cases hs : ∃ t, x = [.str t]
  · obtain ⟨t, rfl⟩ := hs
    have h3 : (if t.length ≤ sizeLine then some (signs t) else none) = some d := h3
    split at h3
    · rename_i hz
      cases h3
      refine h _ (fun x' e' => x' = [.str t] ∧ e' = e2) _ _ h1 ⟨rfl, rfl⟩ G H σ S _ fun vs ds G1 H1 e1' S1 T1 r ⟨z1, z2⟩ => ?_
      subst z1 z2
      obtain ⟨v, rfl, r0⟩ := rp1 r
      rw [r0.str_inv]
      refine .inr ⟨t, rfl, hz, fun p hp => ?_⟩
      have no : ¬ own σ e1' p := fun z => by
        obtain ⟨_, o, ho⟩ := S1.own_at z
        rw [hp] at ho
        cases ho
      have h0 : H p = none := kp_none T1 hp
      exact q p _ _ G1 _ e1' (S1.mut (S1.gh.free hp) no) (T1.late h0) h0 upd_same (S1.gh.free hp) no (rp_signs t) hr
    · cases h3
  · have h4 : seqOf x = some d := by
      unfold seqOfS at h3
      split at h3
      · rename_i t ht
        exact absurd ⟨_, ht⟩ hs
      · exact h3
    refine h _ (fun x' e' => x' = x ∧ e' = e2) _ _ h1 ⟨rfl, rfl⟩ G H σ S _ fun vs ds G1 H1 e1' S1 T1 r ⟨z1, z2⟩ => ?_
    subst z1 z2
    have go : ∀ {a : Addr} {ys : List V}, (SqL W.K H1 a ys ∨ SqT W.K H1 a ys) → RpAll W G1 ys d → vs = [.ref a] → rListS W.K vs H1 _ := fun {a ys} hs' ra ev => by
      refine .inl ⟨a, ys, ev, hs', fun p hp => ?_⟩
      have no : ¬ own σ e1' p := fun z => by
        obtain ⟨_, o, ho⟩ := S1.own_at z
        rw [hp] at ho
        cases ho
      exact q p ys d G1 _ e1' (S1.mut (S1.gh.free hp) no) (T1.late (kp_none T1 hp)) (kp_none T1 hp) upd_same (S1.gh.free hp) no ra hr
    rcases seqOf_of h4 with hx | hx
    · subst hx
      obtain ⟨v, rfl, r0⟩ := rp1 r
      obtain ⟨a, ys, rfl, hs', ra⟩ := r0.lst_inv
      exact go (.inl (.inl (.inl (S1.gh _ _ hs')))) ra rfl
    · subst hx
      obtain ⟨v, rfl, r0⟩ := rp1 r
      obtain ⟨a, ys, rfl, hs', ra⟩ := r0.tup_inv
      exact go (.inr (Same.tup S1.gh hs')) ra rfl
theorem wp_listS {e : Env} {r : M (List D)} {Q : List D → Env → Prop} (h : Wp r e fun xs e1 => ∃ ys, seqOfS xs = some ys ∧ Q ys e1) : Wp (mListS r) e Q := by
  obtain ⟨x, e1, h1, ys, h2, k⟩ := h
  exact ⟨ys, e1, by unfold mListS; rw [h1]; show (seqOfS x).bind _ = _; rw [h2]; rfl, k⟩
end
end Nv

set_option Elab.async false
set_option linter.all false
set_option maxRecDepth 100000
set_option maxHeartbeats 4000000
namespace Nv
open PySem L2 PyProof.Rows PySem.Spec
def top (i : Nat) : Stmt := PySem.Challenge.pw_nevermet_k02_what_terms_and_questions_ar.main.body.getD i (.Pass ⟨0, 0, 0, 0⟩)
abbrev s_is_name : Stmt := top 7
abbrev N_is_name : List Str := ["thing", "sign"]
theorem sc_is_name : FnScope N_is_name ["thing"] (defScope s_is_name) := ⟨rfl, rfl, rfl, by decide +kernel, rfl, by decide +kernel, by decide +kernel⟩
abbrev s_is_dotted : Stmt := top 8
abbrev N_is_dotted : List Str := ["thing", "many", "names", "name"]
theorem sc_is_dotted : FnScope N_is_dotted ["thing", "many"] (defScope s_is_dotted) := ⟨rfl, rfl, rfl, by decide +kernel, rfl, by decide +kernel, by decide +kernel⟩
abbrev s_is_word : Stmt := top 9
abbrev N_is_word : List Str := ["thing"]
theorem sc_is_word : FnScope N_is_word ["thing"] (defScope s_is_word) := ⟨rfl, rfl, rfl, by decide +kernel, rfl, by decide +kernel, by decide +kernel⟩
abbrev s_is_member_word : Stmt := top 10
abbrev N_is_member_word : List Str := ["thing"]
theorem sc_is_member_word : FnScope N_is_member_word ["thing"] (defScope s_is_member_word) := ⟨rfl, rfl, rfl, by decide +kernel, rfl, by decide +kernel, by decide +kernel⟩
abbrev s_is_variable : Stmt := top 11
abbrev N_is_variable : List Str := ["thing", "sign"]
theorem sc_is_variable : FnScope N_is_variable ["thing"] (defScope s_is_variable) := ⟨rfl, rfl, rfl, by decide +kernel, rfl, by decide +kernel, by decide +kernel⟩
abbrev s_is_piece : Stmt := top 17
abbrev N_is_piece : List Str := ["thing", "members"]
theorem sc_is_piece : FnScope N_is_piece ["thing", "members"] (defScope s_is_piece) := ⟨rfl, rfl, rfl, by decide +kernel, rfl, by decide +kernel, by decide +kernel⟩
abbrev s_is_within : Stmt := top 18
abbrev N_is_within : List Str := ["thing", "members", "level", "symbols", "deep", "one", "part"]
theorem sc_is_within : FnScope N_is_within ["thing", "members"] (defScope s_is_within) := ⟨rfl, rfl, rfl, by decide +kernel, rfl, by decide +kernel, by decide +kernel⟩
abbrev s_is_term : Stmt := top 19
abbrev N_is_term : List Str := ["thing"]
theorem sc_is_term : FnScope N_is_term ["thing"] (defScope s_is_term) := ⟨rfl, rfl, rfl, by decide +kernel, rfl, by decide +kernel, by decide +kernel⟩
abbrev s_is_question : Stmt := top 20
abbrev N_is_question : List Str := ["thing", "place"]
theorem sc_is_question : FnScope N_is_question ["thing"] (defScope s_is_question) := ⟨rfl, rfl, rfl, by decide +kernel, rfl, by decide +kernel, by decide +kernel⟩
abbrev s__law_pen : Stmt := top 22
abbrev N__law_pen : List Str := ["_law_script"]
theorem sc__law_pen : FnScope N__law_pen ["_law_script"] (defScope s__law_pen) := ⟨rfl, rfl, rfl, by decide +kernel, rfl, by decide +kernel, by decide +kernel⟩
abbrev s__law_draw : Stmt := top 23
abbrev N__law_draw : List Str := ["_law_pen_here", "_law_many", "_law_digit", "_law_at", "_law_cell", "_law_great", "_law_mixed"]
theorem sc__law_draw : FnScope N__law_draw ["_law_pen_here", "_law_many"] (defScope s__law_draw) := ⟨rfl, rfl, rfl, by decide +kernel, rfl, by decide +kernel, by decide +kernel⟩
abbrev s__law_names : Stmt := top 24
abbrev N__law_names : List Str := ["_law_pen_here", "_law_many", "_law_letters_here", "_law_way", "_law_begin", "_law_found", "_law_k", "_law_sign", "_law_tail", "_law_name", "_law_j"]
theorem sc__law_names : FnScope N__law_names ["_law_pen_here", "_law_many"] (defScope s__law_names) := ⟨rfl, rfl, rfl, by decide +kernel, rfl, by decide +kernel, by decide +kernel⟩
abbrev s__law_words : Stmt := top 25
abbrev N__law_words : List Str := ["_law_pen_here", "_law_names_here", "_law_found", "_law_k"]
theorem sc__law_words : FnScope N__law_words ["_law_pen_here"] (defScope s__law_words) := ⟨rfl, rfl, rfl, by decide +kernel, rfl, by decide +kernel, by decide +kernel⟩
abbrev s__law_letters : Stmt := top 26
abbrev N__law_letters : List Str := ["_law_pen_here", "_law_way", "_law_begin", "_law_signs", "_law_k"]
theorem sc__law_letters : FnScope N__law_letters ["_law_pen_here"] (defScope s__law_letters) := ⟨rfl, rfl, rfl, by decide +kernel, rfl, by decide +kernel, by decide +kernel⟩
abbrev s__law_term : Stmt := top 27
abbrev N__law_term : List Str := ["_law_pen_here", "_law_lexicon", "_law_letters_here", "_law_deep", "_law_purse", "_law_way", "_law_found", "_law_k"]
theorem sc__law_term : FnScope N__law_term ["_law_pen_here", "_law_lexicon", "_law_letters_here", "_law_deep", "_law_purse"] (defScope s__law_term) := ⟨rfl, rfl, rfl, by decide +kernel, rfl, by decide +kernel, by decide +kernel⟩
abbrev s__law_odd : Stmt := top 28
abbrev N__law_odd : List Str := ["_law_pen_here", "_law_tree", "_law_word", "_law_some"]
theorem sc__law_odd : FnScope N__law_odd ["_law_pen_here", "_law_tree"] (defScope s__law_odd) := ⟨rfl, rfl, rfl, by decide +kernel, rfl, by decide +kernel, by decide +kernel⟩
abbrev s__law_bent : Stmt := top 29
abbrev N__law_bent : List Str := ["_law_pen_here", "_law_tree", "_law_at", "_law_way"]
theorem sc__law_bent : FnScope N__law_bent ["_law_pen_here", "_law_tree"] (defScope s__law_bent) := ⟨rfl, rfl, rfl, by decide +kernel, rfl, by decide +kernel, by decide +kernel⟩
abbrev s__law_is_word : Stmt := top 30
abbrev N__law_is_word : List Str := ["_law_entry", "_law_part", "_law_odd_here", "_law_sign"]
theorem sc__law_is_word : FnScope N__law_is_word ["_law_entry"] (defScope s__law_is_word) := ⟨rfl, rfl, rfl, by decide +kernel, rfl, by decide +kernel, by decide +kernel⟩
abbrev s__law_count : Stmt := top 31
abbrev N__law_count : List Str := ["_law_entry", "_law_odd_here", "_law_is_good", "_law_symbols", "_law_deep", "_law_part", "_law_told", "_law_sign"]
theorem sc__law_count : FnScope N__law_count ["_law_entry"] (defScope s__law_count) := ⟨rfl, rfl, rfl, by decide +kernel, rfl, by decide +kernel, by decide +kernel⟩
abbrev s__law_is_term : Stmt := top 32
abbrev N__law_is_term : List Str := ["_law_entry", "_law_told"]
theorem sc__law_is_term : FnScope N__law_is_term ["_law_entry"] (defScope s__law_is_term) := ⟨rfl, rfl, rfl, by decide +kernel, rfl, by decide +kernel, by decide +kernel⟩
abbrev s__law_full : Stmt := top 33
abbrev N__law_full : List Str := ["_law_pen_here", "_law_lexicon", "_law_letters_here", "_law_deep", "_law_parts", "_law_k"]
theorem sc__law_full : FnScope N__law_full ["_law_pen_here", "_law_lexicon", "_law_letters_here", "_law_deep"] (defScope s__law_full) := ⟨rfl, rfl, rfl, by decide +kernel, rfl, by decide +kernel, by decide +kernel⟩
abbrev s__law_tower : Stmt := top 34
abbrev N__law_tower : List Str := ["_law_pen_here", "_law_lexicon", "_law_deep", "_law_found", "_law_k"]
theorem sc__law_tower : FnScope N__law_tower ["_law_pen_here", "_law_lexicon", "_law_deep"] (defScope s__law_tower) := ⟨rfl, rfl, rfl, by decide +kernel, rfl, by decide +kernel, by decide +kernel⟩
abbrev s__law_things : Stmt := top 35
abbrev N__law_things : List Str := ["_law_pen_here", "_law_lexicon", "_law_letters_here", "_law_found", "_law_full_here", "_law_k", "_law_entry"]
theorem sc__law_things : FnScope N__law_things ["_law_pen_here"] (defScope s__law_things) := ⟨rfl, rfl, rfl, by decide +kernel, rfl, by decide +kernel, by decide +kernel⟩
abbrev s__law_is_question : Stmt := top 36
abbrev N__law_is_question : List Str := ["_law_entry", "_law_place"]
theorem sc__law_is_question : FnScope N__law_is_question ["_law_entry"] (defScope s__law_is_question) := ⟨rfl, rfl, rfl, by decide +kernel, rfl, by decide +kernel, by decide +kernel⟩
abbrev s__law_asked : Stmt := top 37
abbrev N__law_asked : List Str := ["_law_pen_here", "_law_lexicon", "_law_letters_here", "_law_places", "_law_k"]
theorem sc__law_asked : FnScope N__law_asked ["_law_pen_here", "_law_lexicon", "_law_letters_here"] (defScope s__law_asked) := ⟨rfl, rfl, rfl, by decide +kernel, rfl, by decide +kernel, by decide +kernel⟩
abbrev s__law_changed : Stmt := top 38
abbrev N__law_changed : List Str := ["_law_pen_here", "_law_lexicon", "_law_question", "_law_at", "_law_full_here", "_law_some", "_law_odd_here"]
theorem sc__law_changed : FnScope N__law_changed ["_law_pen_here", "_law_lexicon", "_law_question"] (defScope s__law_changed) := ⟨rfl, rfl, rfl, by decide +kernel, rfl, by decide +kernel, by decide +kernel⟩
abbrev s__law_terms_right : Stmt := top 39
abbrev N__law_terms_right : List Str := ["_law_pen_here", "_law_odd_here", "_law_entry", "_law_kept", "_law_due"]
theorem sc__law_terms_right : FnScope N__law_terms_right ["_law_pen_here"] (defScope s__law_terms_right) := ⟨rfl, rfl, rfl, by decide +kernel, rfl, by decide +kernel, by decide +kernel⟩
abbrev s_law : Stmt := top 40
abbrev N_law : List Str := ["_law_script", "_law_pen_here", "_law_lexicon", "_law_letters_here", "_law_entries", "_law_k", "_law_question", "_law_entry", "_law_kept", "_law_due"]
theorem sc_law : FnScope N_law ["_law_script"] (defScope s_law) := ⟨rfl, rfl, rfl, by decide +kernel, rfl, by decide +kernel, by decide +kernel⟩
/-! mirrors -/
def m_is_name (c : Nat → Fm) : MS := (mSeq (mIf (mOr (mNot (mTru (mIs isStrD (mVar 0)))) (mNot (mBl (mChain leD leD (mC (.int 1)) (mCb lenD (mCons (mVar 0) mNil)) (mC (.int 8)))))) (mRet (mC (.bl false))) mNext)
    (mRet (mAndV (mOp (inD true) (mVar 0) (mC (.tup [(.str "self"), (.str "head")]))) (mAll (mCons (mLst (mLc (mIStr (mVar 0)) mYes (mOp (inD false) (mVar 1) (mC (.str "abcdefghijklmnopqrstuvwxyz"))) 1)) mNil)))))
def m_is_dotted (c : Nat → Fm) : MS := (mSeq (mIf (mNot (mTru (mIs isStrD (mVar 0)))) (mRet (mC (.bl false))) mNext)
    (mSeq (mSet 2 (mM1 splitD (mVar 0) (mC (.str "."))))
    (mRet (mAndV (mOp eqXD (mCb lenD (mCons (mVar 2) mNil)) (mVar 1)) (mAll (mCons (mLst (mLc (mIList (mVar 2)) mYes (mCall 1 (c 0) (mCons (mVar 3) mNil)) 3)) mNil))))))
def m_is_word (c : Nat → Fm) : MS := (mRet (mCall 2 (c 1) (mCons (mVar 0) (mCons (mC (.int 2)) mNil))))
def m_is_member_word (c : Nat → Fm) : MS := (mRet (mCall 2 (c 1) (mCons (mVar 0) (mCons (mC (.int 3)) mNil))))
def m_is_variable (c : Nat → Fm) : MS := (mSeq (mIf (mOr (mNot (mTru (mIs isStrD (mVar 0)))) (mNot (mBl (mChain leD leD (mC (.int 1)) (mCb lenD (mCons (mVar 0) mNil)) (mC (.int 4)))))) (mRet (mC (.bl false))) mNext)
    (mRet (mAndV (mOp (inD false) (mOp ixD (mVar 0) (mC (.int 0))) (mC (.str "ABCDEFGHIJKLMNOPQRSTUVWXYZ"))) (mAll (mCons (mLst (mLc (mIStr (mSl (mVar 0) (mOSome (mC (.int 1))) mONone)) mYes (mOp (inD false) (mVar 1) (mC (.str "0123456789"))) 1)) mNil)))))
def m_is_piece (c : Nat → Fm) : MS := (mSeq (mIf (mTru (mCall 1 (c 4) (mCons (mVar 0) mNil))) (mRet (mC (.bl true))) mNext)
    (mSeq (mIf (mOr (mNot (mTru (mIs isTupD (mVar 0)))) (mNot (mBl (mChain leD leD (mC (.int 1)) (mCb lenD (mCons (mVar 0) mNil)) (mOp addD (mC (.int 1)) (mC (.int 3))))))) (mRet (mC (.bl false))) mNext)
    (mRet (mOrV (mCall 1 (c 2) (mCons (mOp ixD (mVar 0) (mC (.int 0))) mNil)) (mAndV (mVar 1) (mAndV (mOp gtD (mCb lenD (mCons (mVar 0) mNil)) (mC (.int 1))) (mCall 1 (c 3) (mCons (mOp ixD (mVar 0) (mC (.int 0))) mNil))))))))
def m_is_within (c : Nat → Fm) : MS := (mSeq (mSet 2 (mLst (mSz (mCons (mVar 0) mNil))))
    (mSeq (mSet 3 (mC (.int 0)))
    (mSeq (mSet 4 (mC (.int 0)))
    (mSeq (mWhile 1000 (mTru (mVar 2)) (mSeq (mAug 3 iaddD (mCb lenD (mCons (mVar 2) mNil)))
    (mSeq (mAug 4 iaddD (mC (.int 1)))
    (mSeq (mIf (mOr (mBl (mOp gtD (mVar 3) (mC (.int 40)))) (mOr (mBl (mOp gtD (mVar 4) (mC (.int 6)))) (mNot (mTru (mAll (mCons (mLst (mLc (mIList (mVar 2)) mYes (mCall 2 (c 5) (mCons (mVar 5) (mCons (mVar 1) mNil))) 5)) mNil)))))) (mRet (mC (.bl false))) mNext)
    (mSet 2 (mLst (mLc2 (mIList (mVar 2)) (mTru (mIs isTupD (mVar 5))) (mITup (mSl (mVar 5) (mOSome (mC (.int 1))) mONone)) mYes (mVar 6) 5 6)))))))
    (mRet (mC (.bl true)))))))
def m_is_term (c : Nat → Fm) : MS := (mRet (mCall 2 (c 6) (mCons (mVar 0) (mCons (mC (.bl false)) mNil))))
def m_is_question (c : Nat → Fm) : MS := (mSeq (mIf (mOr (mNot (mTru (mIs isTupD (mVar 0)))) (mNot (mBl (mChain leD leD (mC (.int 2)) (mCb lenD (mCons (mVar 0) mNil)) (mOp addD (mC (.int 1)) (mC (.int 3))))))) (mRet (mC (.bl false))) mNext)
    (mRet (mAndV (mCall 1 (c 2) (mCons (mOp ixD (mVar 0) (mC (.int 0))) mNil)) (mAll (mCons (mLst (mLc (mITup (mSl (mVar 0) (mOSome (mC (.int 1))) mONone)) mYes (mCall 1 (c 9) (mCons (mVar 1) mNil)) 1)) mNil)))))
def m__law_draw (c : Nat → Fm) : MS := (mSeq (mIf (mBl (mOp gtD (mDGet 0 (mC (.str "left"))) (mC (.int 0)))) (mSeq (mSet 2 (mOp (intD fun i j => if 0 < j then some (.int (i % j)) else none) (mCb intOfD (mCons (mDGet 0 (mC (.str "left"))) mNil)) (mVar 1)))
    (mSeq (mDPut 0 (.inr "left") (mOp (intD fun i j => if CDiv i j then some (.int (i / j)) else none) (mCb intOfD (mCons (mDGet 0 (mC (.str "left"))) mNil)) (mVar 1)))
    (mRet (mVar 2)))) mNext)
    (mSeq (mSet 3 (mDGet 0 (mC (.str "at"))))
    (mSeq (mDPut 0 (.inr "at") (mOp addD (mVar 3) (mC (.int 1))))
    (mSeq (mSet 4 (mOp addD (mOp (intD fun i j => if CMul i j then some (.int (i * j)) else none) (mC (.int 7411)) (mVar 3)) (mC (.int 389))))
    (mSeq (mIf (mBl (mOp neXD (mDGet 0 (mC (.str "cells"))) (mLst (mSz mNil)))) (mSet 4 (mOp ixD (mDGet 0 (mC (.str "cells"))) (mOp (intD fun i j => if 0 < j then some (.int (i % j)) else none) (mCb intOfD (mCons (mVar 3) mNil)) (mCb lenD (mCons (mDGet 0 (mC (.str "cells"))) mNil))))) mNext)
    (mSeq (mIf (mAnd (mBl (mOp ltD (mVar 3) (mCb lenD (mCons (mDGet 0 (mC (.str "cells"))) mNil)))) (mBl (mOp geD (mCb absD (mCons (mVar 4) mNil)) (mOp (intD fun i j => if CPow i j then some (.int (i ^ j.toNat)) else none) (mC (.int 10)) (mC (.int 18)))))) (mSeq (mSet 5 (mOp addD (mOp (intD fun i j => if CMul i j then some (.int (i * j)) else none) (mC (.int 2)) (mCb absD (mCons (mVar 4) mNil))) (mCb intOfD (mCons (mOp ltD (mVar 4) (mC (.int 0))) mNil))))
    (mSeq (mDPut 0 (.inr "left") (mOp (intD fun i j => if CDiv i j then some (.int (i / j)) else none) (mCb intOfD (mCons (mVar 5) mNil)) (mVar 1)))
    (mRet (mOp (intD fun i j => if 0 < j then some (.int (i % j)) else none) (mCb intOfD (mCons (mVar 5) mNil)) (mVar 1))))) mNext)
    (mSeq (mSet 6 (mOp (intD fun i j => if 0 < j then some (.int (i % j)) else none) (mCb intOfD (mCons (mOp (intD fun i j => if CPow i j then some (.int (i ^ j.toNat)) else none) (mOp addD (mOp addD (mOp (intD fun i j => if 0 < j then some (.int (i % j)) else none) (mCb intOfD (mCons (mVar 4) mNil)) (mC (.int 2147483563))) (mOp (intD fun i j => if CMul i j then some (.int (i * j)) else none) (mC (.int 52361)) (mVar 3))) (mC (.int 41))) (mC (.int 3))) mNil)) (mC (.int 2147483647))))
    (mSeq (mSet 6 (mOp (intD fun i j => if 0 < j then some (.int (i % j)) else none) (mCb intOfD (mCons (mOp (intD fun i j => if CPow i j then some (.int (i ^ j.toNat)) else none) (mOp addD (mOp addD (mOp (intD fun i j => if CMul i j then some (.int (i * j)) else none) (mVar 6) (mOp addD (mOp (intD fun i j => if CMul i j then some (.int (i * j)) else none) (mC (.int 2)) (mVar 3)) (mC (.int 9)))) (mOp (intD fun i j => if CMul i j then some (.int (i * j)) else none) (mOp (intD fun i j => if CMul i j then some (.int (i * j)) else none) (mC (.int 70001)) (mVar 3)) (mVar 3))) (mC (.int 17))) (mC (.int 3))) mNil)) (mC (.int 2147483587))))
    (mRet (mOp (intD fun i j => if 0 < j then some (.int (i % j)) else none) (mCb intOfD (mCons (mOp (intD fun i j => if CDiv i j then some (.int (i / j)) else none) (mVar 6) (mC (.int 32))) mNil)) (mVar 1)))))))))))
def m__law_names (c : Nat → Fm) : MS := (mSeq (mSet 2 (mC (.str "abcdefghijklmnopqrstuvwxyz")))
    (mSeq (mSet 3 (mCallP 2 0 (c 8) (mCons (mC (.int 3)) mNil)))
    (mSeq (mSet 4 (mCallP 2 0 (c 8) (mCons (mC (.int 26)) mNil)))
    (mSeq (mOwn 5 (mSz mNil))
    (mSeq (mFor (mIRng (mCons (mVar 1) mNil)) 6 (mSeq (mSet 7 (mOp ixD (mVar 2) (mOp (intD fun i j => if 0 < j then some (.int (i % j)) else none) (mCb intOfD (mCons (mOp addD (mVar 4) (mOp (intD fun i j => if CMul i j then some (.int (i * j)) else none) (mC (.int 7)) (mVar 6))) mNil)) (mC (.int 26)))))
    (mSeq (mSet 8 (mM1 joinD (mC (.str "")) (mLst (mLc (mIRng (mCons (mCallP 2 0 (c 8) (mCons (mC (.int 8)) mNil)) mNil)) mYes (mOp ixD (mVar 2) (mCallP 2 0 (c 8) (mCons (mC (.int 26)) mNil))) 10))))
    (mSeq (mSet 9 (mOp ixD (mLst (mSz (mCons (mVar 7) (mCons (mOp addD (mC (.str "zzzzzzz")) (mVar 7)) (mCons (mOp addD (mVar 7) (mVar 8)) mNil))))) (mVar 3)))
    (mSeq (mIf (mBl (mOp (inD false) (mVar 9) (mTup (mCons (mC (.str "self")) (mCons (mC (.str "head")) mNil))))) (mSet 9 (mOp addD (mVar 9) (mC (.str "s")))) mNext)
    (mApp 5 (mVar 9)))))))
    (mRet (mVar 5)))))))
def m__law_words (c : Nat → Fm) : MS := (mSeq (mSet 1 (mCallP 2 0 (c 10) (mCons (mC (.int 5)) mNil)))
    (mSeq (mOwn 2 (mSz mNil))
    (mSeq (mFor (mIRng (mCons (mOp addD (mC (.int 2)) (mCallP 2 0 (c 8) (mCons (mC (.int 5)) mNil))) mNil)) 3 (mApp 2 (mOp addD (mOp addD (mOp ixD (mVar 1) (mOp (intD fun i j => if 0 < j then some (.int (i % j)) else none) (mCb intOfD (mCons (mVar 3) mNil)) (mC (.int 2)))) (mC (.str "."))) (mOp ixD (mVar 1) (mOp addD (mC (.int 2)) (mOp (intD fun i j => if 0 < j then some (.int (i % j)) else none) (mCb intOfD (mCons (mOp (intD fun i j => if CDiv i j then some (.int (i / j)) else none) (mVar 3) (mC (.int 2))) mNil)) (mC (.int 3))))))))
    (mRet (mVar 2)))))
def m__law_letters (c : Nat → Fm) : MS := (mSeq (mSet 1 (mCallP 2 0 (c 8) (mCons (mC (.int 3)) mNil)))
    (mSeq (mSet 2 (mCallP 2 0 (c 8) (mCons (mC (.int 22)) mNil)))
    (mSeq (mSet 3 (mC (.str "ABCDEFGHIJKLMNOPQRSTUVWXYZ")))
    (mSeq (mIf (mBl (mOp eqXD (mVar 1) (mC (.int 0)))) (mRet (mLst (mLc (mIRng (mCons (mC (.int 5)) mNil)) mYes (mOp ixD (mVar 3) (mOp addD (mVar 2) (mVar 4))) 4))) mNext)
    (mSeq (mIf (mBl (mOp eqXD (mVar 1) (mC (.int 1)))) (mRet (mLst (mLc (mIRng (mCons (mC (.int 5)) mNil)) mYes (mOp addD (mC (.str "V")) (mCb strOfD (mCons (mOp (intD fun i j => some (.int (i - j))) (mC (.int 4)) (mVar 4)) mNil))) 4))) mNext)
    (mRet (mLst (mSz (mCons (mOp ixD (mVar 3) (mVar 2)) (mCons (mOp addD (mOp ixD (mVar 3) (mVar 2)) (mC (.str "0"))) (mCons (mOp addD (mOp ixD (mVar 3) (mVar 2)) (mC (.str "00"))) (mCons (mOp addD (mOp ixD (mVar 3) (mVar 2)) (mC (.str "07"))) (mCons (mOp addD (mOp ixD (mVar 3) (mVar 2)) (mC (.str "999"))) mNil)))))))))))))
def m__law_term (c : Nat → Fm) : MS := (mSeq (mLPut 4 0 (mOp (intD fun i j => some (.int (i - j))) (mLGet 4 (mC (.int 0))) (mC (.int 1))))
    (mSeq (mSet 5 (mCallP 2 0 (c 8) (mCons (mC (.int 5)) mNil)))
    (mSeq (mIf (mAnd (mBl (mOp neXD (mVar 2) (mLst (mSz mNil)))) (mBl (mOp ltD (mVar 5) (mC (.int 2))))) (mRet (mOp ixD (mVar 2) (mCallP 2 0 (c 8) (mCons (mCb lenD (mCons (mVar 2) mNil)) mNil)))) mNext)
    (mSeq (mSet 6 (mTup (mCons (mOp ixD (mVar 1) (mCallP 2 0 (c 8) (mCons (mCb lenD (mCons (mVar 1) mNil)) mNil))) mNil)))
    (mSeq (mFor (mIRng (mCons (mOp (intD fun i j => if CMul i j then some (.int (i * j)) else none) (mOp ixD (mLst (mSz (mCons (mC (.int 0)) (mCons (mC (.int 1)) (mCons (mC (.int 2)) (mCons (mC (.int 3)) (mCons (mC (.int 3)) mNil))))))) (mVar 5)) (mCb intOfD (mCons (mOp gtD (mVar 3) (mC (.int 1))) mNil))) mNil)) 7 (mIf (mBl (mOp gtD (mLGet 4 (mC (.int 0))) (mC (.int 0)))) (mSet 6 (mOp addD (mVar 6) (mTup (mCons (mCallL 5 (c 11) (mLOwn 0 (mLDat (mVar 1) (mLDat (mVar 2) (mLDat (mOp (intD fun i j => some (.int (i - j))) (mVar 3) (mC (.int 1))) (mLOwn 4 mLNil)))))) mNil)))) mNext))
    (mRet (mVar 6)))))))
def m__law_odd (c : Nat → Fm) : MS := (mSeq (mSet 2 (mC (.str "a.b")))
    (mSeq (mIf (mNot (mTru (mIs isStrD (mVar 1)))) (mSet 2 (mOp ixD (mVar 1) (mC (.int 0)))) mNext)
    (mSeq (mSet 3 (mLst (mSz (mCons (mVar 2) (mCons (mOp addD (mVar 2) (mC (.str "s"))) (mCons (mC .non) (mCons (mC (.bl true)) (mCons (mC (.int 0)) (mCons (mC (.str "")) (mCons (mC (.str "t")) (mCons (mTup mNil) (mCons (mLst (mSz (mCons (mVar 2) mNil))) (mCons (mLst (mListS (mCons (mVar 1) mNil))) (mCons (mTup (mCons (mC (.str "T")) mNil)) (mCons (mTup (mCons (mVar 2) (mCons (mVar 2) mNil))) (mCons (mTup (mCons (mC (.str "T")) (mCons (mTup (mCons (mVar 2) mNil)) mNil))) mNil))))))))))))))))
    (mSeq (mSet 3 (mOp addD (mVar 3) (mLst (mSz (mCons (mTup (mCons (mVar 2) (mCons (mC .non) mNil))) (mCons (mTup (mCons (mVar 2) (mCons (mC (.str "t")) mNil))) (mCons (mTup (mCons (mVar 2) (mCons (mC (.bl true)) mNil))) (mCons (mTup (mCons (mTup (mCons (mVar 2) mNil)) mNil)) (mCons (mTup (mCons (mVar 2) (mCons (mC (.str "T")) (mCons (mC (.str "T")) (mCons (mC (.str "T")) (mCons (mC (.str "T")) mNil)))))) (mCons (mC (.dct [])) (mCons (mTup (mCons (mVar 2) (mCons (mLst (mSz (mCons (mVar 2) mNil))) mNil))) mNil)))))))))))
    (mRet (mOp ixD (mVar 3) (mCallP 2 0 (c 8) (mCons (mC (.int 20)) mNil))))))))
def m__law_bent (c : Nat → Fm) : MS := (mSeq (mIf (mAnd (mNot (mTru (mIs isStrD (mVar 1)))) (mAnd (mBl (mOp gtD (mCb lenD (mCons (mVar 1) mNil)) (mC (.int 1)))) (mBl (mOp gtD (mCallP 2 0 (c 8) (mCons (mC (.int 4)) mNil)) (mC (.int 0)))))) (mSeq (mSet 2 (mOp addD (mC (.int 1)) (mCallP 2 0 (c 8) (mCons (mOp (intD fun i j => some (.int (i - j))) (mCb lenD (mCons (mVar 1) mNil)) (mC (.int 1))) mNil))))
    (mRet (mOp addD (mOp addD (mSl (mVar 1) mONone (mOSome (mVar 2))) (mTup (mCons (mCallP 2 0 (c 12) (mCons (mOp ixD (mVar 1) (mVar 2)) mNil)) mNil))) (mSl (mVar 1) (mOSome (mOp addD (mVar 2) (mC (.int 1)))) mONone)))) mNext)
    (mSeq (mSet 3 (mCallP 2 0 (c 8) (mCons (mC (.int 5)) mNil)))
    (mSeq (mIf (mAnd (mBl (mOp eqXD (mVar 3) (mC (.int 0)))) (mNot (mTru (mIs isStrD (mVar 1))))) (mRet (mOp addD (mVar 1) (mTup (mCons (mC (.str "T")) mNil)))) mNext)
    (mSeq (mIf (mAnd (mBl (mOp eqXD (mVar 3) (mC (.int 1)))) (mNot (mTru (mIs isStrD (mVar 1))))) (mRet (mSl (mVar 1) mONone (mOSome (mUn negD (mC (.int 1)))))) mNext)
    (mSeq (mIf (mAnd (mBl (mOp eqXD (mVar 3) (mC (.int 2)))) (mNot (mTru (mIs isStrD (mVar 1))))) (mRet (mOp addD (mSl (mVar 1) mONone (mOSome (mC (.int 1)))) (mUn (revD (some 0)) (mVar 1)))) mNext)
    (mRet (mCallP 2 0 (c 13) (mCons (mVar 1) mNil))))))))
def m__law_is_word (c : Nat → Fm) : MS := (mSeq (mIf (mOr (mNot (mTru (mIs isStrD (mVar 0)))) (mBl (mOp neXD (mM1 countD (mVar 0) (mC (.str "."))) (mC (.int 1))))) (mRet (mC (.bl false))) mNext)
    (mSeq (mFor (mIList (mM1 splitD (mVar 0) (mC (.str ".")))) 1 (mSeq (mSet 2 (mLst (mLc (mIStr (mVar 1)) (mBl (mOp (inD true) (mVar 3) (mC (.str "abcdefghijklmnopqrstuvwxyz")))) (mVar 3) 3)))
    (mIf (mOr (mBl (mOp neXD (mVar 2) (mLst (mSz mNil)))) (mOr (mNot (mBl (mChain ltD ltD (mC (.int 0)) (mCb lenD (mCons (mVar 1) mNil)) (mC (.int 9))))) (mBl (mOp (inD false) (mVar 1) (mTup (mCons (mC (.str "self")) (mCons (mC (.str "head")) mNil))))))) (mRet (mC (.bl false))) mNext)))
    (mRet (mC (.bl true)))))
def m__law_count (c : Nat → Fm) : MS := (mSeq (mIf (mTru (mIs isStrD (mVar 0))) (mSeq (mSet 1 (mLst (mLc (mIStr (mSl (mVar 0) (mOSome (mC (.int 1))) mONone)) (mBl (mOp (inD true) (mVar 7) (mC (.str "0123456789")))) (mVar 7) 7)))
    (mSeq (mSet 2 (mAndV (mChain ltD ltD (mC (.int 0)) (mCb lenD (mCons (mVar 0) mNil)) (mC (.int 5))) (mAndV (mOp (inD false) (mSl (mVar 0) mONone (mOSome (mC (.int 1)))) (mC (.str "ABCDEFGHIJKLMNOPQRSTUVWXYZ"))) (mOp eqNilD (mVar 1) (mLst (mSz mNil))))))
    (mRet (mIf (mTru (mVar 2)) (mTup (mCons (mC (.int 1)) (mCons (mC (.int 1)) mNil))) (mC .non))))) mNext)
    (mSeq (mIf (mOr (mNot (mTru (mIs isTupD (mVar 0)))) (mOr (mNot (mBl (mChain ltD ltD (mC (.int 0)) (mCb lenD (mCons (mVar 0) mNil)) (mC (.int 5))))) (mNot (mTru (mCall 1 (c 19) (mCons (mOp ixD (mVar 0) (mC (.int 0))) mNil)))))) (mRet (mC .non)) mNext)
    (mSeq (mSet 3 (mC (.int 1)))
    (mSeq (mSet 4 (mC (.int 0)))
    (mSeq (mFor (mITup (mSl (mVar 0) (mOSome (mC (.int 1))) mONone)) 5 (mSeq (mSet 6 (mCall 1 (c 14) (mCons (mVar 5) mNil)))
    (mSeq (mIf (mBl (mOp isD (mVar 6) (mC .non))) (mRet (mC .non)) mNext)
    (mSeq (mSet 3 (mOp addD (mVar 3) (mOp ixD (mVar 6) (mC (.int 0)))))
    (mSet 4 (mCb max2D (mCons (mVar 4) (mCons (mOp ixD (mVar 6) (mC (.int 1))) mNil))))))))
    (mRet (mTup (mCons (mVar 3) (mCons (mOp addD (mVar 4) (mC (.int 1))) mNil)))))))))
def m__law_is_term (c : Nat → Fm) : MS := (mSeq (mSet 1 (mCall 1 (c 14) (mCons (mVar 0) mNil)))
    (mRet (mAndV (mOp noD (mVar 1) (mC .non)) (mAndV (mOp leD (mOp ixD (mVar 1) (mC (.int 0))) (mC (.int 40))) (mOp leD (mOp ixD (mVar 1) (mC (.int 1))) (mC (.int 6)))))))
def m__law_full (c : Nat → Fm) : MS := (mSeq (mIf (mBl (mOp eqXD (mVar 3) (mC (.int 1)))) (mRet (mOp ixD (mOp addD (mVar 2) (mLst (mSz (mCons (mTup (mCons (mOp ixD (mVar 1) (mC (.int 0))) mNil)) mNil)))) (mCallP 2 0 (c 8) (mCons (mOp addD (mCb lenD (mCons (mVar 2) mNil)) (mC (.int 1))) mNil)))) mNext)
    (mSeq (mSet 4 (mCb tupOfD (mCons (mLst (mLc (mIRng (mCons (mC (.int 3)) mNil)) mYes (mCallP 4 0 (c 15) (mCons (mVar 1) (mCons (mVar 2) (mCons (mOp (intD fun i j => some (.int (i - j))) (mVar 3) (mC (.int 1))) mNil)))) 5)) mNil)))
    (mRet (mOp addD (mTup (mCons (mOp ixD (mVar 1) (mCallP 2 0 (c 8) (mCons (mCb lenD (mCons (mVar 1) mNil)) mNil))) mNil)) (mVar 4)))))
def m__law_tower (c : Nat → Fm) : MS := (mSeq (mSet 3 (mTup (mCons (mOp ixD (mVar 1) (mC (.int 0))) mNil)))
    (mSeq (mFor (mIRng (mCons (mOp (intD fun i j => some (.int (i - j))) (mVar 2) (mC (.int 1))) mNil)) 4 (mSet 3 (mTup (mCons (mOp ixD (mVar 1) (mCallP 2 0 (c 8) (mCons (mCb lenD (mCons (mVar 1) mNil)) mNil))) (mCons (mVar 3) mNil)))))
    (mRet (mVar 3))))
def m__law_things (c : Nat → Fm) : MS := (mSeq (mSet 1 (mCallP 1 0 (c 16) mNil))
    (mSeq (mSet 2 (mCallP 1 0 (c 17) mNil))
    (mSeq (mOwn 3 (mLc (mIRng (mCons (mC (.int 5)) mNil)) mYes (mCallF 5 (c 11) (mFOwn 0 (mFDat (mVar 1) (mFDat (mVar 2) (mFDat (mC (.int 6)) (mFLast (mSz (mCons (mC (.int 40)) mNil)))))))) 5))
    (mSeq (mSet 4 (mCallP 4 0 (c 15) (mCons (mVar 1) (mCons (mVar 2) (mCons (mC (.int 4)) mNil)))))
    (mSeq (mOwn 3 (mAddF (mVar 3) (mLst (mSz (mCons (mVar 4) (mCons (mOp addD (mSl (mVar 4) mONone (mOSome (mC (.int 3)))) (mTup (mCons (mTup (mCons (mOp ixD (mVar 1) (mC (.int 0))) (mCons (mOp ixD (mVar 4) (mC (.int 3))) mNil))) mNil))) mNil))))))
    (mSeq (mOwn 3 (mAddF (mVar 3) (mLst (mSz (mCons (mCallP 3 0 (c 18) (mCons (mVar 1) (mCons (mC (.int 6)) mNil))) (mCons (mCallP 3 0 (c 18) (mCons (mVar 1) (mCons (mC (.int 7)) mNil))) mNil))))))
    (mSeq (mFor (mIRng (mCons (mC (.int 12)) mNil)) 5 (mSeq (mSet 6 (mCallP 2 0 (c 12) (mCons (mLGet 3 (mCallP 2 0 (c 8) (mCons (mC (.int 9)) mNil))) mNil)))
    (mSeq (mApp 3 (mVar 6))
    (mIf (mAnd (mTru (mIs isTupD (mVar 6))) (mBl (mOp noD (mCall 1 (c 14) (mCons (mVar 6) mNil)) (mC .non)))) (mApp 3 (mCallP 2 0 (c 12) (mCons (mVar 6) mNil))) mNext))))
    (mRet (mVar 3)))))))))
def m__law_is_question (c : Nat → Fm) : MS := (mSeq (mIf (mOr (mNot (mTru (mIs isTupD (mVar 0)))) (mOr (mNot (mBl (mChain leD leD (mC (.int 2)) (mCb lenD (mCons (mVar 0) mNil)) (mC (.int 4))))) (mNot (mTru (mCall 1 (c 19) (mCons (mOp ixD (mVar 0) (mC (.int 0))) mNil)))))) (mRet (mC (.bl false))) mNext)
    (mRet (mOp eqNilD (mLst (mLc (mITup (mSl (mVar 0) (mOSome (mC (.int 1))) mONone)) (mNot (mTru (mCall 1 (c 23) (mCons (mVar 1) mNil)))) (mVar 1) 1)) (mLst (mSz mNil)))))
def m__law_asked (c : Nat → Fm) : MS := (mSeq (mOwn 3 (mLc (mIRng (mCons (mOp addD (mC (.int 1)) (mCallP 2 0 (c 8) (mCons (mC (.int 3)) mNil))) mNil)) mYes (mCallF 5 (c 11) (mFOwn 0 (mFDat (mVar 1) (mFDat (mVar 2) (mFDat (mC (.int 6)) (mFLast (mSz (mCons (mC (.int 40)) mNil)))))))) 4))
    (mSeq (mIf (mBl (mOp eqXD (mCallP 2 0 (c 8) (mCons (mC (.int 4)) mNil)) (mC (.int 0)))) (mLPut 3 0 (mCallP 4 0 (c 15) (mCons (mVar 1) (mCons (mVar 2) (mCons (mC (.int 4)) mNil))))) mNext)
    (mRet (mOp addD (mTup (mCons (mOp ixD (mVar 1) (mCallP 2 0 (c 8) (mCons (mCb lenD (mCons (mVar 1) mNil)) mNil))) mNil)) (mCb tupOfD (mCons (mVar 3) mNil))))))
def m__law_changed (c : Nat → Fm) : MS := (mSeq (mSet 3 (mCallP 2 0 (c 8) (mCons (mCb lenD (mCons (mVar 2) mNil)) mNil)))
    (mSeq (mSet 4 (mCallP 4 0 (c 15) (mCons (mVar 1) (mCons (mLst (mSz (mCons (mC (.str "T")) mNil))) (mCons (mC (.int 4)) mNil)))))
    (mSeq (mSet 5 (mLst (mSz (mCons (mOp addD (mSl (mVar 2) mONone (mOSome (mVar 3))) (mSl (mVar 2) (mOSome (mOp addD (mVar 3) (mC (.int 1)))) mONone)) (mCons (mOp addD (mSl (mVar 2) mONone (mOSome (mOp addD (mVar 3) (mC (.int 1))))) (mSl (mVar 2) (mOSome (mVar 3)) mONone)) (mCons (mLst (mList (mCons (mVar 2) mNil))) (mCons (mSl (mVar 2) mONone (mOSome (mC (.int 1)))) mNil)))))))
    (mSeq (mSet 5 (mOp addD (mVar 5) (mLst (mSz (mCons (mOp addD (mVar 2) (mTup (mCons (mC (.str "T")) mNil))) (mCons (mOp addD (mVar 2) (mTup (mCons (mC (.str "T")) (mCons (mC (.str "T")) mNil)))) (mCons (mTup (mCons (mVar 2) mNil)) (mCons (mSl (mVar 2) (mOSome (mC (.int 1))) mONone) (mCons (mOp ixD (mVar 2) (mC (.int 0))) mNil)))))))))
    (mSeq (mSet 5 (mOp addD (mVar 5) (mLst (mSz (mCons (mOp addD (mSl (mVar 2) mONone (mOSome (mC (.int 1)))) (mTup (mCons (mTup (mCons (mOp ixD (mVar 1) (mC (.int 0))) (mCons (mVar 4) mNil))) mNil))) (mCons (mOp addD (mSl (mVar 2) mONone (mOSome (mC (.int 1)))) (mTup (mCons (mCallP 3 0 (c 18) (mCons (mVar 1) (mCons (mC (.int 7)) mNil))) mNil))) mNil))))))
    (mSeq (mSet 5 (mOp addD (mVar 5) (mLst (mLc (mITup (mTup (mCons (mC (.str "T")) (mCons (mC (.str "a")) (mCons (mC (.str "a.b.c")) (mCons (mC .non) (mCons (mTup (mCons (mOp ixD (mVar 1) (mC (.int 0))) mNil)) mNil))))))) mYes (mOp addD (mTup (mCons (mVar 6) mNil)) (mSl (mVar 2) (mOSome (mC (.int 1))) mONone)) 6))))
    (mSeq (mIf (mBl (mOp gtD (mVar 3) (mC (.int 0)))) (mSet 5 (mOp addD (mVar 5) (mOp repD (mLst (mSz (mCons (mOp addD (mOp addD (mSl (mVar 2) mONone (mOSome (mVar 3))) (mTup (mCons (mCallP 2 0 (c 12) (mCons (mOp ixD (mVar 2) (mVar 3)) mNil)) mNil))) (mSl (mVar 2) (mOSome (mOp addD (mVar 3) (mC (.int 1)))) mONone)) mNil))) (mC (.int 8))))) mNext)
    (mRet (mOp ixD (mVar 5) (mCallP 2 0 (c 8) (mCons (mCb lenD (mCons (mVar 5) mNil)) mNil)))))))))))
def m__law_terms_right (c : Nat → Fm) : MS := (mSeq (mSet 1 (mLst (mSz (mCons (mC .non) (mCons (mC (.bl true)) (mCons (mC (.bl false)) (mCons (mC (.int 0)) (mCons (mC (.int 1)) (mCons (mC (.str "")) (mCons (mTup mNil) (mCons (mLst (mSz mNil)) (mCons (mC (.dct [])) (mCons (mC (.str "base.int")) (mCons (mLst (mSz (mCons (mC (.str "base.int")) mNil))) (mCons (mTup (mCons (mC (.str "base.int")) (mCons (mTup mNil) mNil))) (mCons (mTup (mCons (mTup (mCons (mC (.str "base.int")) mNil)) mNil)) mNil))))))))))))))))
    (mSeq (mSet 1 (mOp addD (mVar 1) (mLst (mSz (mCons (mTup (mCons (mC (.str "base.int\n")) mNil)) (mCons (mC (.str "T\n")) (mCons (mTup (mCons (mC (.str "base.list")) (mCons (mC (.str "T\n")) mNil))) (mCons (mTup (mCons (mC (.str "base.list\n")) (mCons (mC (.str "T")) mNil))) mNil))))))))
    (mSeq (mFor (mIList (mOp addD (mCallP 1 0 (c 24) mNil) (mVar 1))) 2 (mSeq (mSet 3 (mRepr (mCons (mVar 2) mNil)))
    (mSeq (mSet 4 (mRepr (mCons (mOp repD (mLst (mSz (mCons (mCall 1 (c 23) (mCons (mVar 2) mNil)) mNil))) (mC (.int 2))) mNil)))
    (mIf (mOr (mBl (mOp neXD (mRepr (mCons (mLst (mSz (mCons (mCall 1 (c 9) (mCons (mVar 2) mNil)) (mCons (mCallK 1 1 [0] (c 9) (mCons (mVar 2) mNil)) mNil)))) mNil)) (mVar 4))) (mBl (mOp neXD (mRepr (mCons (mVar 2) mNil)) (mVar 3)))) (mRet (mC (.bl false))) mNext))))
    (mRet (mAndV (mOp isD (mCall 1 (c 9) (mCons (mTup (mCons (mC (.str "base.int")) mNil)) mNil)) (mC (.bl true))) (mAndV (mOp isD (mCall 1 (c 9) (mCons (mC (.str "T")) mNil)) (mC (.bl true))) (mOp isD (mCall 1 (c 9) (mCons (mC (.str "base.int")) mNil)) (mC (.bl false)))))))))
def m_law (c : Nat → Fm) : MS := (mSeq (mPen 0 1)
    (mSeq (mIf (mNot (mTru (mCallP 1 1 (c 20) mNil))) (mRet (mC (.bl false))) mNext)
    (mSeq (mSet 2 (mCallP 1 1 (c 16) mNil))
    (mSeq (mSet 3 (mCallP 1 1 (c 17) mNil))
    (mSeq (mOwn 4 (mSz (mCons (mC .non) (mCons (mC (.bl true)) (mCons (mC (.int 0)) (mCons (mC (.str "")) (mCons (mC (.str "a.b")) (mCons (mTup mNil) (mCons (mLst (mSz mNil)) (mCons (mC (.dct [])) (mCons (mTup (mCons (mC (.str "a.b")) mNil)) (mCons (mTup (mCons (mC (.str "a.b")) (mCons (mC (.str "T")) mNil))) (mCons (mLst (mSz (mCons (mC (.str "a.b")) (mCons (mC (.str "T")) mNil)))) (mCons (mTup (mCons (mC (.str "a.b")) (mCons (mC (.str "t")) mNil))) mNil))))))))))))))
    (mSeq (mOwn 4 (mAddF (mVar 4) (mLst (mSz (mCons (mTup (mCons (mC (.str "a.b\n")) (mCons (mC (.str "T")) mNil))) (mCons (mTup (mCons (mC (.str "a.b")) (mCons (mC (.str "T\n")) mNil))) (mCons (mTup (mCons (mC (.str "a.b")) (mCons (mTup (mCons (mC (.str "a.b\n")) mNil)) mNil))) mNil)))))))
    (mSeq (mFor (mIRng (mCons (mC (.int 6)) mNil)) 5 (mSeq (mSet 6 (mCallP 3 1 (c 21) (mCons (mVar 2) (mCons (mVar 3) mNil))))
    (mSeq (mApp 4 (mVar 6))
    (mSeq (mApp 4 (mCallP 3 1 (c 22) (mCons (mVar 2) (mCons (mVar 6) mNil))))
    (mApp 4 (mCallP 3 1 (c 22) (mCons (mVar 2) (mCons (mVar 6) mNil))))))))
    (mSeq (mFor (mIList (mVar 4)) 7 (mSeq (mSet 8 (mRepr (mCons (mVar 7) mNil)))
    (mSeq (mSet 9 (mRepr (mCons (mOp repD (mLst (mSz (mCons (mCall 1 (c 25) (mCons (mVar 7) mNil)) mNil))) (mC (.int 2))) mNil)))
    (mIf (mOr (mBl (mOp neXD (mRepr (mCons (mLst (mSz (mCons (mCall 1 (c 26) (mCons (mVar 7) mNil)) (mCons (mCallK 1 1 [0] (c 26) (mCons (mVar 7) mNil)) mNil)))) mNil)) (mVar 9))) (mBl (mOp neXD (mRepr (mCons (mVar 7) mNil)) (mVar 8)))) (mRet (mC (.bl false))) mNext))))
    (mRet (mOp isD (mCall 1 (c 26) (mCons (mTup (mCons (mC (.str "base.show")) (mCons (mTup (mCons (mC (.str "base.list")) (mCons (mC (.str "T")) mNil))) mNil))) mNil)) (mC (.bl true))))))))))))
def bd (c : Nat → Fm) : Nat → Fm
  | 0 => defM 1 2 (m_is_name c)
  | 1 => defM 2 4 (m_is_dotted c)
  | 2 => defM 1 1 (m_is_word c)
  | 3 => defM 1 1 (m_is_member_word c)
  | 4 => defM 1 2 (m_is_variable c)
  | 5 => defM 2 2 (m_is_piece c)
  | 6 => defM 2 7 (m_is_within c)
  | 9 => defM 1 1 (m_is_term c)
  | 26 => defM 1 2 (m_is_question c)
  | 8 => defM 2 7 (m__law_draw c)
  | 10 => defM 2 11 (m__law_names c)
  | 16 => defM 1 4 (m__law_words c)
  | 17 => defM 1 5 (m__law_letters c)
  | 11 => defM 5 8 (m__law_term c)
  | 13 => defM 2 4 (m__law_odd c)
  | 12 => defM 2 4 (m__law_bent c)
  | 19 => defM 1 4 (m__law_is_word c)
  | 14 => defM 1 8 (m__law_count c)
  | 23 => defM 1 2 (m__law_is_term c)
  | 15 => defM 4 6 (m__law_full c)
  | 18 => defM 3 5 (m__law_tower c)
  | 24 => defM 1 7 (m__law_things c)
  | 25 => defM 1 2 (m__law_is_question c)
  | 21 => defM 3 5 (m__law_asked c)
  | 22 => defM 3 7 (m__law_changed c)
  | 20 => defM 1 5 (m__law_terms_right c)
  | _ => fun _ => none
def cs : Nat → Nat → Fm
  | 0 => fun _ _ => none
  | k + 1 => bd (cs k)
structure Tx (W : Wd) (mg : Str → Option Value) where
  is_name : DefAt W.K mg "is_name" s_is_name ["thing"]
  is_dotted : DefAt W.K mg "is_dotted" s_is_dotted ["thing", "many"]
  is_word : DefAt W.K mg "is_word" s_is_word ["thing"]
  is_member_word : DefAt W.K mg "is_member_word" s_is_member_word ["thing"]
  is_variable : DefAt W.K mg "is_variable" s_is_variable ["thing"]
  is_piece : DefAt W.K mg "is_piece" s_is_piece ["thing", "members"]
  is_within : DefAt W.K mg "is_within" s_is_within ["thing", "members"]
  is_term : DefAt W.K mg "is_term" s_is_term ["thing"]
  is_question : DefAt W.K mg "is_question" s_is_question ["thing"]
  _law_pen : DefAt W.K mg "_law_pen" s__law_pen ["_law_script"]
  _law_draw : DefAt W.K mg "_law_draw" s__law_draw ["_law_pen_here", "_law_many"]
  _law_names : DefAt W.K mg "_law_names" s__law_names ["_law_pen_here", "_law_many"]
  _law_words : DefAt W.K mg "_law_words" s__law_words ["_law_pen_here"]
  _law_letters : DefAt W.K mg "_law_letters" s__law_letters ["_law_pen_here"]
  _law_term : DefAt W.K mg "_law_term" s__law_term ["_law_pen_here", "_law_lexicon", "_law_letters_here", "_law_deep", "_law_purse"]
  _law_odd : DefAt W.K mg "_law_odd" s__law_odd ["_law_pen_here", "_law_tree"]
  _law_bent : DefAt W.K mg "_law_bent" s__law_bent ["_law_pen_here", "_law_tree"]
  _law_is_word : DefAt W.K mg "_law_is_word" s__law_is_word ["_law_entry"]
  _law_count : DefAt W.K mg "_law_count" s__law_count ["_law_entry"]
  _law_is_term : DefAt W.K mg "_law_is_term" s__law_is_term ["_law_entry"]
  _law_full : DefAt W.K mg "_law_full" s__law_full ["_law_pen_here", "_law_lexicon", "_law_letters_here", "_law_deep"]
  _law_tower : DefAt W.K mg "_law_tower" s__law_tower ["_law_pen_here", "_law_lexicon", "_law_deep"]
  _law_things : DefAt W.K mg "_law_things" s__law_things ["_law_pen_here"]
  _law_is_question : DefAt W.K mg "_law_is_question" s__law_is_question ["_law_entry"]
  _law_asked : DefAt W.K mg "_law_asked" s__law_asked ["_law_pen_here", "_law_lexicon", "_law_letters_here"]
  _law_changed : DefAt W.K mg "_law_changed" s__law_changed ["_law_pen_here", "_law_lexicon", "_law_question"]
  _law_terms_right : DefAt W.K mg "_law_terms_right" s__law_terms_right ["_law_pen_here"]
  law : DefAt W.K mg "law" s_law ["_law_script"]
  k_is_question_thing : KwB W.K is_question.fd ["thing"] ["thing"] [0]
  k_is_term_thing : KwB W.K is_term.fd ["thing"] ["thing"] [0]
  m_range : mg "range" = none
  m_isinstance : mg "isinstance" = none
  m_str : mg "str" = none
  m_tuple : mg "tuple" = none
  m_all : mg "all" = none
  m_len : mg "len" = none
  m_list : mg "list" = none
  m_int : mg "int" = none
  m_max : mg "max" = none
  m_repr : mg "repr" = none
  m_abs : mg "abs" = none
  c_LONGEST_NAME : Const mg "LONGEST_NAME" (.int 8)
  c_LONGEST_VARIABLE : Const mg "LONGEST_VARIABLE" (.int 4)
  c_SMALL : Const mg "SMALL" (.str "abcdefghijklmnopqrstuvwxyz")
  c_LARGE : Const mg "LARGE" (.str "ABCDEFGHIJKLMNOPQRSTUVWXYZ")
  c_DIGITS : Const mg "DIGITS" (.str "0123456789")
  t_TAKEN : Addr
  c_TAKEN : Const mg "TAKEN" (.ref t_TAKEN)
  x_TAKEN : ∀ G, Rp W G (.ref t_TAKEN) (.tup [(.str "self"), (.str "head")])
  c_MOST_SYMBOLS : Const mg "MOST_SYMBOLS" (.int 40)
  c_MOST_DEEP : Const mg "MOST_DEEP" (.int 6)
  c_MOST_PARTS : Const mg "MOST_PARTS" (.int 3)
  c_MOST_PLACES : Const mg "MOST_PLACES" (.int 3)
variable {P : Program} {w : World} {base : Heap} {W : Wd} {mg : Str → Option Value}
structure All (P : Program) (w : World) (base : Heap) {W : Wd} {mg : Str → Option Value} (T : Tx W mg) (k : Nat) : Prop where
  is_name : FnG P w W.K mg base k T.is_name.f T.is_name.fd ["thing"] (SpD W 1 (PhiF (cs k 0)))
  is_dotted : FnG P w W.K mg base k T.is_dotted.f T.is_dotted.fd ["thing", "many"] (SpD W 2 (PhiF (cs k 1)))
  is_word : FnG P w W.K mg base k T.is_word.f T.is_word.fd ["thing"] (SpD W 1 (PhiF (cs k 2)))
  is_member_word : FnG P w W.K mg base k T.is_member_word.f T.is_member_word.fd ["thing"] (SpD W 1 (PhiF (cs k 3)))
  is_variable : FnG P w W.K mg base k T.is_variable.f T.is_variable.fd ["thing"] (SpD W 1 (PhiF (cs k 4)))
  is_piece : FnG P w W.K mg base k T.is_piece.f T.is_piece.fd ["thing", "members"] (SpD W 2 (PhiF (cs k 5)))
  is_within : FnG P w W.K mg base k T.is_within.f T.is_within.fd ["thing", "members"] (SpD W 2 (PhiF (cs k 6)))
  is_term : FnG P w W.K mg base k T.is_term.f T.is_term.fd ["thing"] (SpD W 1 (PhiF (cs k 9)))
  is_question : FnG P w W.K mg base k T.is_question.f T.is_question.fd ["thing"] (SpD W 1 (PhiF (cs k 26)))
  _law_draw : FnG P w W.K mg base k T._law_draw.f T._law_draw.fd ["_law_pen_here", "_law_many"] (SpD W 2 (PhiF (cs k 8)))
  _law_names : FnG P w W.K mg base k T._law_names.f T._law_names.fd ["_law_pen_here", "_law_many"] (SpD W 2 (PhiF (cs k 10)))
  _law_words : FnG P w W.K mg base k T._law_words.f T._law_words.fd ["_law_pen_here"] (SpD W 1 (PhiF (cs k 16)))
  _law_letters : FnG P w W.K mg base k T._law_letters.f T._law_letters.fd ["_law_pen_here"] (SpD W 1 (PhiF (cs k 17)))
  _law_term : FnG P w W.K mg base k T._law_term.f T._law_term.fd ["_law_pen_here", "_law_lexicon", "_law_letters_here", "_law_deep", "_law_purse"] (SpD W 5 (PhiF (cs k 11)))
  _law_odd : FnG P w W.K mg base k T._law_odd.f T._law_odd.fd ["_law_pen_here", "_law_tree"] (SpD W 2 (PhiF (cs k 13)))
  _law_bent : FnG P w W.K mg base k T._law_bent.f T._law_bent.fd ["_law_pen_here", "_law_tree"] (SpD W 2 (PhiF (cs k 12)))
  _law_is_word : FnG P w W.K mg base k T._law_is_word.f T._law_is_word.fd ["_law_entry"] (SpD W 1 (PhiF (cs k 19)))
  _law_count : FnG P w W.K mg base k T._law_count.f T._law_count.fd ["_law_entry"] (SpD W 1 (PhiF (cs k 14)))
  _law_is_term : FnG P w W.K mg base k T._law_is_term.f T._law_is_term.fd ["_law_entry"] (SpD W 1 (PhiF (cs k 23)))
  _law_full : FnG P w W.K mg base k T._law_full.f T._law_full.fd ["_law_pen_here", "_law_lexicon", "_law_letters_here", "_law_deep"] (SpD W 4 (PhiF (cs k 15)))
  _law_tower : FnG P w W.K mg base k T._law_tower.f T._law_tower.fd ["_law_pen_here", "_law_lexicon", "_law_deep"] (SpD W 3 (PhiF (cs k 18)))
  _law_things : FnG P w W.K mg base k T._law_things.f T._law_things.fd ["_law_pen_here"] (SpD W 1 (PhiF (cs k 24)))
  _law_is_question : FnG P w W.K mg base k T._law_is_question.f T._law_is_question.fd ["_law_entry"] (SpD W 1 (PhiF (cs k 25)))
  _law_asked : FnG P w W.K mg base k T._law_asked.f T._law_asked.fd ["_law_pen_here", "_law_lexicon", "_law_letters_here"] (SpD W 3 (PhiF (cs k 21)))
  _law_changed : FnG P w W.K mg base k T._law_changed.f T._law_changed.fd ["_law_pen_here", "_law_lexicon", "_law_question"] (SpD W 3 (PhiF (cs k 22)))
  _law_terms_right : FnG P w W.K mg base k T._law_terms_right.f T._law_terms_right.fd ["_law_pen_here"] (SpD W 1 (PhiF (cs k 20)))
theorem ok_is_name (T : Tx W mg) {k : Nat} (I : All P w base T k) : FnG P w W.K mg base (k + 1) T.is_name.f T.is_name.fd ["thing"] (SpD W 1 (PhiF (cs (k + 1) 0))) := by
  refine fn_m (m := m_is_name (cs k)) T.is_name.fn sc_is_name rfl rfl fun cdv A outer s H E hg hr => ?_
  exact ⟨_, (pss_cons (ps_if (PW.pt (pw_or (pt_not (ka_tru (K := W.K) rfl (pe_callB (ka_isi (K := W.K) rfl) rfl T.m_isinstance (by decide +kernel) (pa_cons (pv 0) (pa_cons (pe_bltn (v := .ty "str") (u := .type "str") rfl T.m_str (by decide +kernel) rfl) pa_nil))) (by intro _; rfl))) (pw_or1 (pt_not (pt_chain op_le op_le pe_int (pe_callB (ka_len (K := W.K) rfl) rfl T.m_len (by decide +kernel) (pa_cons (pv 0) pa_nil)) (pe_const rfl T.c_LONGEST_NAME)))))) (pss_one (ps_ret pe_bl)) pss_nil)
    (pss_one (ps_ret (pe_and (pe_cmpR (ka_ni (K := W.K) rfl) (pv 0) (pe_const rfl T.c_TAKEN) rfl) (pe_one (pe_callB (ka_all (K := W.K) rfl rfl) rfl T.m_all (by decide +kernel) (pa_cons (pe_lc (own := [("sign", 1)]) rfl sc_is_name.nd (pi_str (pv 0)) (blkOk_by (own := [("sign", 1)]) (N := N_is_name) (sc := defScope s_is_name) (by decide +kernel)) (fun _ _ _ _ _ => (pg_name (i := 1) sc_is_name.nd rfl (by first | exact Or.inl rfl | exact Or.inr rfl))) (fun _ _ _ _ _ => pts_nil) (fun _ _ _ _ _ => (pe_cmpR (ka_in (K := W.K) rfl) (pv 1) (pe_const rfl T.c_SMALL) rfl))) pa_nil))))))),
    (ss_seq (ss_if (st_or (st_not (st_tru (se_is isk_str se_var))) (st_not (st_test (se_chain opd_le opd_le se_int (se_cb cd_len (sa_cons se_var sa_nil)) se_int)))) (ss_ret se_bl) ss_next)
    (ss_ret (se_andV (se_op opd_ni se_var (se_c T.x_TAKEN)) (se_all (sa_cons (se_f (sf_lc (j := 1) (si_str se_var) st_yes (se_op opd_in se_var se_str))) sa_nil)))))⟩
theorem ok_is_dotted (T : Tx W mg) {k : Nat} (I : All P w base T k) : FnG P w W.K mg base (k + 1) T.is_dotted.f T.is_dotted.fd ["thing", "many"] (SpD W 2 (PhiF (cs (k + 1) 1))) := by
  refine fn_m (m := m_is_dotted (cs k)) T.is_dotted.fn sc_is_dotted rfl rfl fun cdv A outer s H E hg hr => ?_
  exact ⟨_, (pss_cons (ps_if (pt_not (ka_tru (K := W.K) rfl (pe_callB (ka_isi (K := W.K) rfl) rfl T.m_isinstance (by decide +kernel) (pa_cons (pv 0) (pa_cons (pe_bltn (v := .ty "str") (u := .type "str") rfl T.m_str (by decide +kernel) rfl) pa_nil))) (by intro _; rfl))) (pss_one (ps_ret pe_bl)) pss_nil)
    (pss_cons (ps_set (i := 2) sc_is_dotted.nd rfl (by first | exact Or.inl rfl | exact Or.inr rfl) (pe_split (pv 0) pe_str))
    (pss_one (ps_ret (pe_and (pe_cmpR (ka_eq (K := W.K) (u64 hr) rfl) (pe_callB (ka_len (K := W.K) rfl) rfl T.m_len (by decide +kernel) (pa_cons (pv 2) pa_nil)) (pv 1) (nomark _)) (pe_one (pe_callB (ka_all (K := W.K) rfl rfl) rfl T.m_all (by decide +kernel) (pa_cons (pe_lc (own := [("name", 3)]) rfl sc_is_dotted.nd (ka_plist (K := W.K) rfl (pv 2)) (blkOk_by (own := [("name", 3)]) (N := N_is_dotted) (sc := defScope s_is_dotted) (by decide +kernel)) (fun _ _ _ _ _ => (pg_name (i := 3) sc_is_dotted.nd rfl (by first | exact Or.inl rfl | exact Or.inr rfl))) (fun _ _ _ _ _ => pts_nil) (fun _ _ _ _ _ => (pe_g I.is_name hg hr rfl T.is_name.mg T.is_name.fn.kp T.is_name.bd (pa_cons (pv 3) pa_nil)))) pa_nil)))))))),
    (ss_seq (ss_if (st_not (st_tru (se_is isk_str se_var))) (ss_ret se_bl) ss_next)
    (ss_seq (ss_set (se_m1 md_split se_var se_str))
    (ss_ret (se_andV (se_op opd_eqX (se_cb cd_len (sa_cons se_var sa_nil)) se_var) (se_all (sa_cons (se_f (sf_lc (j := 3) (si_list se_var) st_yes (se_g (sa_cons se_var sa_nil)))) sa_nil))))))⟩
theorem ok_is_word (T : Tx W mg) {k : Nat} (I : All P w base T k) : FnG P w W.K mg base (k + 1) T.is_word.f T.is_word.fd ["thing"] (SpD W 1 (PhiF (cs (k + 1) 2))) := by
  refine fn_m (m := m_is_word (cs k)) T.is_word.fn sc_is_word rfl rfl fun cdv A outer s H E hg hr => ?_
  exact ⟨_, (pss_one (ps_ret (pe_g I.is_dotted hg hr rfl T.is_dotted.mg T.is_dotted.fn.kp T.is_dotted.bd (pa_cons (pv 0) (pa_cons pe_int pa_nil))))),
    (ss_ret (se_g (sa_cons se_var (sa_cons se_int sa_nil))))⟩
theorem ok_is_member_word (T : Tx W mg) {k : Nat} (I : All P w base T k) : FnG P w W.K mg base (k + 1) T.is_member_word.f T.is_member_word.fd ["thing"] (SpD W 1 (PhiF (cs (k + 1) 3))) := by
  refine fn_m (m := m_is_member_word (cs k)) T.is_member_word.fn sc_is_member_word rfl rfl fun cdv A outer s H E hg hr => ?_
  exact ⟨_, (pss_one (ps_ret (pe_g I.is_dotted hg hr rfl T.is_dotted.mg T.is_dotted.fn.kp T.is_dotted.bd (pa_cons (pv 0) (pa_cons pe_int pa_nil))))),
    (ss_ret (se_g (sa_cons se_var (sa_cons se_int sa_nil))))⟩
theorem ok_is_variable (T : Tx W mg) {k : Nat} (I : All P w base T k) : FnG P w W.K mg base (k + 1) T.is_variable.f T.is_variable.fd ["thing"] (SpD W 1 (PhiF (cs (k + 1) 4))) := by
  refine fn_m (m := m_is_variable (cs k)) T.is_variable.fn sc_is_variable rfl rfl fun cdv A outer s H E hg hr => ?_
  exact ⟨_, (pss_cons (ps_if (PW.pt (pw_or (pt_not (ka_tru (K := W.K) rfl (pe_callB (ka_isi (K := W.K) rfl) rfl T.m_isinstance (by decide +kernel) (pa_cons (pv 0) (pa_cons (pe_bltn (v := .ty "str") (u := .type "str") rfl T.m_str (by decide +kernel) rfl) pa_nil))) (by intro _; rfl))) (pw_or1 (pt_not (pt_chain op_le op_le pe_int (pe_callB (ka_len (K := W.K) rfl) rfl T.m_len (by decide +kernel) (pa_cons (pv 0) pa_nil)) (pe_const rfl T.c_LONGEST_VARIABLE)))))) (pss_one (ps_ret pe_bl)) pss_nil)
    (pss_one (ps_ret (pe_and (pe_cmpR (ka_in (K := W.K) rfl) (pe_ix (ka_ix (K := W.K) rfl) (pv 0) pe_int (fun _ _ => rfl)) (pe_const rfl T.c_LARGE) rfl) (pe_one (pe_callB (ka_all (K := W.K) rfl rfl) rfl T.m_all (by decide +kernel) (pa_cons (pe_lc (own := [("sign", 1)]) rfl sc_is_variable.nd (pi_str (pe_slice (ka_sl (K := W.K) rfl) (pv 0) (po_some pe_int) po_none)) (blkOk_by (own := [("sign", 1)]) (N := N_is_variable) (sc := defScope s_is_variable) (by decide +kernel)) (fun _ _ _ _ _ => (pg_name (i := 1) sc_is_variable.nd rfl (by first | exact Or.inl rfl | exact Or.inr rfl))) (fun _ _ _ _ _ => pts_nil) (fun _ _ _ _ _ => (pe_cmpR (ka_in (K := W.K) rfl) (pv 1) (pe_const rfl T.c_DIGITS) rfl))) pa_nil))))))),
    (ss_seq (ss_if (st_or (st_not (st_tru (se_is isk_str se_var))) (st_not (st_test (se_chain opd_le opd_le se_int (se_cb cd_len (sa_cons se_var sa_nil)) se_int)))) (ss_ret se_bl) ss_next)
    (ss_ret (se_andV (se_op opd_in (se_op opd_ix se_var se_int) se_str) (se_all (sa_cons (se_f (sf_lc (j := 1) (si_str (se_sl se_var (so_some se_int) so_none)) st_yes (se_op opd_in se_var se_str))) sa_nil)))))⟩
theorem ok_is_piece (T : Tx W mg) {k : Nat} (I : All P w base T k) : FnG P w W.K mg base (k + 1) T.is_piece.f T.is_piece.fd ["thing", "members"] (SpD W 2 (PhiF (cs (k + 1) 5))) := by
  refine fn_m (m := m_is_piece (cs k)) T.is_piece.fn sc_is_piece rfl rfl fun cdv A outer s H E hg hr => ?_
  exact ⟨_, (pss_cons (ps_if (ka_tru (K := W.K) rfl (pe_g I.is_variable hg hr rfl T.is_variable.mg T.is_variable.fn.kp T.is_variable.bd (pa_cons (pv 0) pa_nil)) (by intro _; rfl)) (pss_one (ps_ret pe_bl)) pss_nil)
    (pss_cons (ps_if (PW.pt (pw_or (pt_not (ka_tru (K := W.K) rfl (pe_callB (ka_isi (K := W.K) rfl) rfl T.m_isinstance (by decide +kernel) (pa_cons (pv 0) (pa_cons (pe_bltn (v := .ty "tuple") (u := .type "tuple") rfl T.m_tuple (by decide +kernel) rfl) pa_nil))) (by intro _; rfl))) (pw_or1 (pt_not (pt_chain op_le op_le pe_int (pe_callB (ka_len (K := W.K) rfl) rfl T.m_len (by decide +kernel) (pa_cons (pv 0) pa_nil)) (pe_op (ka_add (K := W.K) rfl) pe_int (pe_const rfl T.c_MOST_PARTS))))))) (pss_one (ps_ret pe_bl)) pss_nil)
    (pss_one (ps_ret (pe_or (pe_g I.is_word hg hr rfl T.is_word.mg T.is_word.fn.kp T.is_word.bd (pa_cons (pe_ix (ka_ix (K := W.K) rfl) (pv 0) pe_int (fun _ _ => rfl)) pa_nil)) (pe_one (pe_and (pv 1) (pe_and (pe_cmpR op_gt (pe_callB (ka_len (K := W.K) rfl) rfl T.m_len (by decide +kernel) (pa_cons (pv 0) pa_nil)) pe_int (nomark _)) (pe_one (pe_g I.is_member_word hg hr rfl T.is_member_word.mg T.is_member_word.fn.kp T.is_member_word.bd (pa_cons (pe_ix (ka_ix (K := W.K) rfl) (pv 0) pe_int (fun _ _ => rfl)) pa_nil))))))))))),
    (ss_seq (ss_if (st_tru (se_g (sa_cons se_var sa_nil))) (ss_ret se_bl) ss_next)
    (ss_seq (ss_if (st_or (st_not (st_tru (se_is isk_tup se_var))) (st_not (st_test (se_chain opd_le opd_le se_int (se_cb cd_len (sa_cons se_var sa_nil)) (se_op opd_add se_int se_int))))) (ss_ret se_bl) ss_next)
    (ss_ret (se_orV (se_g (sa_cons (se_op opd_ix se_var se_int) sa_nil)) (se_andV se_var (se_andV (se_op opd_gt (se_cb cd_len (sa_cons se_var sa_nil)) se_int) (se_g (sa_cons (se_op opd_ix se_var se_int) sa_nil))))))))⟩
theorem ok_is_within (T : Tx W mg) {k : Nat} (I : All P w base T k) : FnG P w W.K mg base (k + 1) T.is_within.f T.is_within.fd ["thing", "members"] (SpD W 2 (PhiF (cs (k + 1) 6))) := by
  refine fn_m (m := m_is_within (cs k)) T.is_within.fn sc_is_within rfl rfl fun cdv A outer s H E hg hr => ?_
  exact ⟨_, (pss_cons (ps_set (i := 2) sc_is_within.nd rfl (by first | exact Or.inl rfl | exact Or.inr rfl) (pe_lst (pa_cons (pv 0) pa_nil)))
    (pss_cons (ps_set (i := 3) sc_is_within.nd rfl (by first | exact Or.inl rfl | exact Or.inr rfl) pe_int)
    (pss_cons (ps_set (i := 4) sc_is_within.nd rfl (by first | exact Or.inl rfl | exact Or.inr rfl) pe_int)
    (pss_cons (ps_while PassesOwn.never (ka_tru (K := W.K) rfl (pv 2) (by intro _; rfl)) (pss_cons (ps_aug (i := 3) sc_is_within.nd rfl (by first | exact Or.inl rfl | exact Or.inr rfl) (pe_callB (ka_len (K := W.K) rfl) rfl T.m_len (by decide +kernel) (pa_cons (pv 2) pa_nil)) (pip_of iop_add))
    (pss_cons (ps_aug (i := 4) sc_is_within.nd rfl (by first | exact Or.inl rfl | exact Or.inr rfl) pe_int (pip_of iop_add))
    (pss_cons (ps_if (PW.pt (pw_or (pt_cmpR op_gt (pv 3) (pe_const rfl T.c_MOST_SYMBOLS) (nomark _)) (pw_or (pt_cmpR op_gt (pv 4) (pe_const rfl T.c_MOST_DEEP) (nomark _)) (pw_or1 (pt_not (ka_tru (K := W.K) rfl (pe_callB (ka_all (K := W.K) rfl rfl) rfl T.m_all (by decide +kernel) (pa_cons (pe_lc (own := [("one", 5)]) rfl sc_is_within.nd (ka_plist (K := W.K) rfl (pv 2)) (blkOk_by (own := [("one", 5)]) (N := N_is_within) (sc := defScope s_is_within) (by decide +kernel)) (fun _ _ _ _ _ => (pg_name (i := 5) sc_is_within.nd rfl (by first | exact Or.inl rfl | exact Or.inr rfl))) (fun _ _ _ _ _ => pts_nil) (fun _ _ _ _ _ => (pe_g I.is_piece hg hr rfl T.is_piece.mg T.is_piece.fn.kp T.is_piece.bd (pa_cons (pv 5) (pa_cons (pv 1) pa_nil))))) pa_nil)) (by intro _; rfl))))))) (pss_one (ps_ret pe_bl)) pss_nil)
    (pss_one (ps_setLc2 (i := 2) (own := [("one", 5), ("part", 6)]) rfl sc_is_within.nd rfl rfl (sw_true rfl rfl rfl (by decide +kernel)) (ka_plist (K := W.K) rfl (pv 2)) (blkOk_by (own := [("one", 5), ("part", 6)]) (N := N_is_within) (sc := defScope s_is_within) (by decide +kernel)) (vs1 := [6]) (by decide) (fun _ _ _ _ _ => (pg_name (i := 5) sc_is_within.nd rfl (by first | exact Or.inl rfl | exact Or.inr rfl))) (fun _ _ _ _ _ => (pts_one (ka_tru (K := W.K) rfl (pe_callB (ka_isi (K := W.K) rfl) rfl T.m_isinstance (by decide +kernel) (pa_cons (pv 5) (pa_cons (pe_bltn (v := .ty "tuple") (u := .type "tuple") rfl T.m_tuple (by decide +kernel) rfl) pa_nil))) (by intro _; rfl)))) (fun _ _ _ _ _ => (ka_ptup (K := W.K) rfl (pe_slice (ka_sl (K := W.K) rfl) (pv 5) (po_some pe_int) po_none))) (fun _ _ _ _ _ => (pg_name (i := 6) sc_is_within.nd rfl (by first | exact Or.inl rfl | exact Or.inr rfl))) (fun _ _ _ _ _ => pts_nil) (fun _ _ _ _ _ => (pv 6))))))))
    (pss_one (ps_ret pe_bl)))))),
    (ss_seq (ss_set (se_f (sf_lst (sa_cons se_var sa_nil))))
    (ss_seq (ss_set se_int)
    (ss_seq (ss_set se_int)
    (ss_seq (ss_while (n := 1000) (st_tru se_var) (ss_seq (ss_aug opd_iadd (se_cb cd_len (sa_cons se_var sa_nil)))
    (ss_seq (ss_aug opd_iadd se_int)
    (ss_seq (ss_if (st_or (st_test (se_op opd_gt se_var se_int)) (st_or (st_test (se_op opd_gt se_var se_int)) (st_not (st_tru (se_all (sa_cons (se_f (sf_lc (j := 5) (si_list se_var) st_yes (se_g (sa_cons se_var (sa_cons se_var sa_nil))))) sa_nil)))))) (ss_ret se_bl) ss_next)
    (ss_set (se_f (sf_lc2 (j := 5) (k := 6) (si_list se_var) (st_tru (se_is isk_tup se_var)) (si_tup (se_sl se_var (so_some se_int) so_none)) st_yes se_var)))))))
    (ss_ret se_bl)))))⟩
theorem ok_is_term (T : Tx W mg) {k : Nat} (I : All P w base T k) : FnG P w W.K mg base (k + 1) T.is_term.f T.is_term.fd ["thing"] (SpD W 1 (PhiF (cs (k + 1) 9))) := by
  refine fn_m (m := m_is_term (cs k)) T.is_term.fn sc_is_term rfl rfl fun cdv A outer s H E hg hr => ?_
  exact ⟨_, (pss_one (ps_ret (pe_g I.is_within hg hr rfl T.is_within.mg T.is_within.fn.kp T.is_within.bd (pa_cons (pv 0) (pa_cons pe_bl pa_nil))))),
    (ss_ret (se_g (sa_cons se_var (sa_cons se_bl sa_nil))))⟩
theorem ok_is_question (T : Tx W mg) {k : Nat} (I : All P w base T k) : FnG P w W.K mg base (k + 1) T.is_question.f T.is_question.fd ["thing"] (SpD W 1 (PhiF (cs (k + 1) 26))) := by
  refine fn_m (m := m_is_question (cs k)) T.is_question.fn sc_is_question rfl rfl fun cdv A outer s H E hg hr => ?_
  exact ⟨_, (pss_cons (ps_if (PW.pt (pw_or (pt_not (ka_tru (K := W.K) rfl (pe_callB (ka_isi (K := W.K) rfl) rfl T.m_isinstance (by decide +kernel) (pa_cons (pv 0) (pa_cons (pe_bltn (v := .ty "tuple") (u := .type "tuple") rfl T.m_tuple (by decide +kernel) rfl) pa_nil))) (by intro _; rfl))) (pw_or1 (pt_not (pt_chain op_le op_le pe_int (pe_callB (ka_len (K := W.K) rfl) rfl T.m_len (by decide +kernel) (pa_cons (pv 0) pa_nil)) (pe_op (ka_add (K := W.K) rfl) pe_int (pe_const rfl T.c_MOST_PLACES))))))) (pss_one (ps_ret pe_bl)) pss_nil)
    (pss_one (ps_ret (pe_and (pe_g I.is_word hg hr rfl T.is_word.mg T.is_word.fn.kp T.is_word.bd (pa_cons (pe_ix (ka_ix (K := W.K) rfl) (pv 0) pe_int (fun _ _ => rfl)) pa_nil)) (pe_one (pe_callB (ka_all (K := W.K) rfl rfl) rfl T.m_all (by decide +kernel) (pa_cons (pe_lc (own := [("place", 1)]) rfl sc_is_question.nd (ka_ptup (K := W.K) rfl (pe_slice (ka_sl (K := W.K) rfl) (pv 0) (po_some pe_int) po_none)) (blkOk_by (own := [("place", 1)]) (N := N_is_question) (sc := defScope s_is_question) (by decide +kernel)) (fun _ _ _ _ _ => (pg_name (i := 1) sc_is_question.nd rfl (by first | exact Or.inl rfl | exact Or.inr rfl))) (fun _ _ _ _ _ => pts_nil) (fun _ _ _ _ _ => (pe_g I.is_term hg hr rfl T.is_term.mg T.is_term.fn.kp T.is_term.bd (pa_cons (pv 1) pa_nil)))) pa_nil))))))),
    (ss_seq (ss_if (st_or (st_not (st_tru (se_is isk_tup se_var))) (st_not (st_test (se_chain opd_le opd_le se_int (se_cb cd_len (sa_cons se_var sa_nil)) (se_op opd_add se_int se_int))))) (ss_ret se_bl) ss_next)
    (ss_ret (se_andV (se_g (sa_cons (se_op opd_ix se_var se_int) sa_nil)) (se_all (sa_cons (se_f (sf_lc (j := 1) (si_tup (se_sl se_var (so_some se_int) so_none)) st_yes (se_g (sa_cons se_var sa_nil)))) sa_nil)))))⟩
theorem ok__law_draw (T : Tx W mg) {k : Nat} (I : All P w base T k) : FnG P w W.K mg base (k + 1) T._law_draw.f T._law_draw.fd ["_law_pen_here", "_law_many"] (SpD W 2 (PhiF (cs (k + 1) 8))) := by
  refine fn_m (m := m__law_draw (cs k)) T._law_draw.fn sc__law_draw rfl rfl fun cdv A outer s H E hg hr => ?_
  exact ⟨_, (pss_cons (ps_if (pt_cmpR op_gt (pe_dget (u1 hr) (pv 0) pe_str (fun _ _ => rfl)) pe_int (nomark _)) (pss_cons (ps_set (i := 2) sc__law_draw.nd rfl (by first | exact Or.inl rfl | exact Or.inr rfl) (pe_op op_mod (pe_callTy call_int1 rfl T.m_int (by decide +kernel) (pa_cons (pe_dget (u1 hr) (pv 0) pe_str (fun _ _ => rfl)) pa_nil)) (pv 1)))
    (pss_cons (ps_dput (u1 hr) (pv 0) pe_str (pe_op op_fdiv (pe_callTy call_int1 rfl T.m_int (by decide +kernel) (pa_cons (pe_dget (u1 hr) (pv 0) pe_str (fun _ _ => rfl)) pa_nil)) (pv 1)) (by rfl))
    (pss_one (ps_ret (pv 2))))) pss_nil)
    (pss_cons (ps_set (i := 3) sc__law_draw.nd rfl (by first | exact Or.inl rfl | exact Or.inr rfl) (pe_dget (u1 hr) (pv 0) pe_str (fun _ _ => rfl)))
    (pss_cons (ps_dput (u1 hr) (pv 0) pe_str (pe_op (ka_add (K := W.K) rfl) (pv 3) pe_int) (by rfl))
    (pss_cons (ps_set (i := 4) sc__law_draw.nd rfl (by first | exact Or.inl rfl | exact Or.inr rfl) (pe_op (ka_add (K := W.K) rfl) (pe_op op_mul pe_int (pv 3)) pe_int))
    (pss_cons (ps_if (pt_cmpR (ka_ne (K := W.K) (u64 hr) rfl) (pe_dget (u1 hr) (pv 0) pe_str (fun _ _ => rfl)) (pe_lst pa_nil) (nomark _)) (pss_one (ps_set (i := 4) sc__law_draw.nd rfl (by first | exact Or.inl rfl | exact Or.inr rfl) (pe_ix (ka_ix (K := W.K) rfl) (pe_dget (u1 hr) (pv 0) pe_str (fun _ _ => rfl)) (pe_op op_mod (pe_callTy call_int1 rfl T.m_int (by decide +kernel) (pa_cons (pv 3) pa_nil)) (pe_callB (ka_len (K := W.K) rfl) rfl T.m_len (by decide +kernel) (pa_cons (pe_dget (u1 hr) (pv 0) pe_str (fun _ _ => rfl)) pa_nil))) (fun _ _ => rfl)))) pss_nil)
    (pss_cons (ps_if (PW.pt (pw_and (pt_cmpR op_lt (pv 3) (pe_callB (ka_len (K := W.K) rfl) rfl T.m_len (by decide +kernel) (pa_cons (pe_dget (u1 hr) (pv 0) pe_str (fun _ _ => rfl)) pa_nil)) (nomark _)) (pw_and1 (pt_cmpR op_ge (pe_callB call_abs rfl T.m_abs (by decide +kernel) (pa_cons (pv 4) pa_nil)) (pe_op op_pow pe_int pe_int) (nomark _))))) (pss_cons (ps_set (i := 5) sc__law_draw.nd rfl (by first | exact Or.inl rfl | exact Or.inr rfl) (pe_op (ka_add (K := W.K) rfl) (pe_op op_mul pe_int (pe_callB call_abs rfl T.m_abs (by decide +kernel) (pa_cons (pv 4) pa_nil))) (pe_callTy call_int1 rfl T.m_int (by decide +kernel) (pa_cons (pe_cmpR op_lt (pv 4) pe_int (nomark _)) pa_nil))))
    (pss_cons (ps_dput (u1 hr) (pv 0) pe_str (pe_op op_fdiv (pe_callTy call_int1 rfl T.m_int (by decide +kernel) (pa_cons (pv 5) pa_nil)) (pv 1)) (by rfl))
    (pss_one (ps_ret (pe_op op_mod (pe_callTy call_int1 rfl T.m_int (by decide +kernel) (pa_cons (pv 5) pa_nil)) (pv 1)))))) pss_nil)
    (pss_cons (ps_set (i := 6) sc__law_draw.nd rfl (by first | exact Or.inl rfl | exact Or.inr rfl) (pe_op op_mod (pe_callTy call_int1 rfl T.m_int (by decide +kernel) (pa_cons (pe_op op_pow (pe_op (ka_add (K := W.K) rfl) (pe_op (ka_add (K := W.K) rfl) (pe_op op_mod (pe_callTy call_int1 rfl T.m_int (by decide +kernel) (pa_cons (pv 4) pa_nil)) pe_int) (pe_op op_mul pe_int (pv 3))) pe_int) pe_int) pa_nil)) pe_int))
    (pss_cons (ps_set (i := 6) sc__law_draw.nd rfl (by first | exact Or.inl rfl | exact Or.inr rfl) (pe_op op_mod (pe_callTy call_int1 rfl T.m_int (by decide +kernel) (pa_cons (pe_op op_pow (pe_op (ka_add (K := W.K) rfl) (pe_op (ka_add (K := W.K) rfl) (pe_op op_mul (pv 6) (pe_op (ka_add (K := W.K) rfl) (pe_op op_mul pe_int (pv 3)) pe_int)) (pe_op op_mul (pe_op op_mul pe_int (pv 3)) (pv 3))) pe_int) pe_int) pa_nil)) pe_int))
    (pss_one (ps_ret (pe_op op_mod (pe_callTy call_int1 rfl T.m_int (by decide +kernel) (pa_cons (pe_op op_fdiv (pv 6) pe_int) pa_nil)) (pv 1)))))))))))),
    (ss_seq (ss_if (st_test (se_op opd_gt (se_dget se_str) se_int)) (ss_seq (ss_set (se_op opd_mod (se_cb cd_int (sa_cons (se_dget se_str) sa_nil)) se_var))
    (ss_seq (ss_dput se_str rfl (se_op opd_fdiv (se_cb cd_int (sa_cons (se_dget se_str) sa_nil)) se_var))
    (ss_ret se_var))) ss_next)
    (ss_seq (ss_set (se_dget se_str))
    (ss_seq (ss_dput se_str rfl (se_op opd_add se_var se_int))
    (ss_seq (ss_set (se_op opd_add (se_op opd_mul se_int se_var) se_int))
    (ss_seq (ss_if (st_test (se_op opd_neX (se_dget se_str) (se_f (sf_lst sa_nil)))) (ss_set (se_op opd_ix (se_dget se_str) (se_op opd_mod (se_cb cd_int (sa_cons se_var sa_nil)) (se_cb cd_len (sa_cons (se_dget se_str) sa_nil))))) ss_next)
    (ss_seq (ss_if (st_and (st_test (se_op opd_lt se_var (se_cb cd_len (sa_cons (se_dget se_str) sa_nil)))) (st_test (se_op opd_ge (se_cb cd_abs (sa_cons se_var sa_nil)) (se_op opd_pow se_int se_int)))) (ss_seq (ss_set (se_op opd_add (se_op opd_mul se_int (se_cb cd_abs (sa_cons se_var sa_nil))) (se_cb cd_int (sa_cons (se_op opd_lt se_var se_int) sa_nil))))
    (ss_seq (ss_dput se_str rfl (se_op opd_fdiv (se_cb cd_int (sa_cons se_var sa_nil)) se_var))
    (ss_ret (se_op opd_mod (se_cb cd_int (sa_cons se_var sa_nil)) se_var)))) ss_next)
    (ss_seq (ss_set (se_op opd_mod (se_cb cd_int (sa_cons (se_op opd_pow (se_op opd_add (se_op opd_add (se_op opd_mod (se_cb cd_int (sa_cons se_var sa_nil)) se_int) (se_op opd_mul se_int se_var)) se_int) se_int) sa_nil)) se_int))
    (ss_seq (ss_set (se_op opd_mod (se_cb cd_int (sa_cons (se_op opd_pow (se_op opd_add (se_op opd_add (se_op opd_mul se_var (se_op opd_add (se_op opd_mul se_int se_var) se_int)) (se_op opd_mul (se_op opd_mul se_int se_var) se_var)) se_int) se_int) sa_nil)) se_int))
    (ss_ret (se_op opd_mod (se_cb cd_int (sa_cons (se_op opd_fdiv se_var se_int) sa_nil)) se_var))))))))))⟩
theorem ok__law_names (T : Tx W mg) {k : Nat} (I : All P w base T k) : FnG P w W.K mg base (k + 1) T._law_names.f T._law_names.fd ["_law_pen_here", "_law_many"] (SpD W 2 (PhiF (cs (k + 1) 10))) := by
  refine fn_m (m := m__law_names (cs k)) T._law_names.fn sc__law_names rfl rfl fun cdv A outer s H E hg hr => ?_
  exact ⟨_, (pss_cons (ps_set (i := 2) sc__law_names.nd rfl (by first | exact Or.inl rfl | exact Or.inr rfl) pe_str)
    (pss_cons (ps_set (i := 3) sc__law_names.nd rfl (by first | exact Or.inl rfl | exact Or.inr rfl) (pe_g I._law_draw hg hr rfl T._law_draw.mg T._law_draw.fn.kp T._law_draw.bd (pa_cons (pv 0) (pa_cons pe_int pa_nil))))
    (pss_cons (ps_set (i := 4) sc__law_names.nd rfl (by first | exact Or.inl rfl | exact Or.inr rfl) (pe_g I._law_draw hg hr rfl T._law_draw.mg T._law_draw.fn.kp T._law_draw.bd (pa_cons (pv 0) (pa_cons pe_int pa_nil))))
    (pss_cons (ps_set (i := 5) sc__law_names.nd rfl (by first | exact Or.inl rfl | exact Or.inr rfl) (pe_lst pa_nil))
    (pss_cons (ps_for PassesOwn.never rfl (pi_range1 rfl T.m_range (pa_cons (pv 1) pa_nil)) (pg_name (i := 6) sc__law_names.nd rfl (by first | exact Or.inl rfl | exact Or.inr rfl)) (pss_cons (ps_set (i := 7) sc__law_names.nd rfl (by first | exact Or.inl rfl | exact Or.inr rfl) (pe_ix (ka_ix (K := W.K) rfl) (pv 2) (pe_op op_mod (pe_callTy call_int1 rfl T.m_int (by decide +kernel) (pa_cons (pe_op (ka_add (K := W.K) rfl) (pv 4) (pe_op op_mul pe_int (pv 6))) pa_nil)) pe_int) (fun _ _ => rfl)))
    (pss_cons (ps_set (i := 8) sc__law_names.nd rfl (by first | exact Or.inl rfl | exact Or.inr rfl) (pe_join pe_str (pe_lc (own := [("_law_j", 10)]) rfl sc__law_names.nd (pi_range1 rfl T.m_range (pa_cons (pe_g I._law_draw hg hr rfl T._law_draw.mg T._law_draw.fn.kp T._law_draw.bd (pa_cons (pv 0) (pa_cons pe_int pa_nil))) pa_nil)) (blkOk_by (own := [("_law_j", 10)]) (N := N__law_names) (sc := defScope s__law_names) (by decide +kernel)) (fun _ _ _ _ _ => (pg_name (i := 10) sc__law_names.nd rfl (by first | exact Or.inl rfl | exact Or.inr rfl))) (fun _ _ _ _ _ => pts_nil) (fun _ _ _ _ _ => (pe_ix (ka_ix (K := W.K) rfl) (pv 2) (pe_g I._law_draw hg hr rfl T._law_draw.mg T._law_draw.fn.kp T._law_draw.bd (pa_cons (pv 0) (pa_cons pe_int pa_nil))) (fun _ _ => rfl))))))
    (pss_cons (ps_set (i := 9) sc__law_names.nd rfl (by first | exact Or.inl rfl | exact Or.inr rfl) (pe_ix (ka_ix (K := W.K) rfl) (pe_lst (pa_cons (pv 7) (pa_cons (pe_op (ka_add (K := W.K) rfl) pe_str (pv 7)) (pa_cons (pe_op (ka_add (K := W.K) rfl) (pv 7) (pv 8)) pa_nil)))) (pv 3) (fun _ _ => rfl)))
    (pss_cons (ps_if (pt_cmpR (ka_in (K := W.K) rfl) (pv 9) (pe_tup (pa_cons pe_str (pa_cons pe_str pa_nil))) rfl) (pss_one (ps_set (i := 9) sc__law_names.nd rfl (by first | exact Or.inl rfl | exact Or.inr rfl) (pe_op (ka_add (K := W.K) rfl) (pv 9) pe_str))) pss_nil)
    (pss_one (ps_expr (pe_bm PySem.F.plainAttrs_list PySem.F.slot_list_append PySem.F.type_list_append mt_append (pv 5) (pa_cons (pv 9) pa_nil)))))))))
    (pss_one (ps_ret (pv 5)))))))),
    (ss_seq (ss_set se_str)
    (ss_seq (ss_set (se_gp (sa_cons se_int sa_nil)))
    (ss_seq (ss_set (se_gp (sa_cons se_int sa_nil)))
    (ss_seq (ss_own (sf_lst sa_nil))
    (ss_seq (ss_for (si_rng (sa_cons se_var sa_nil)) (ss_seq (ss_set (se_op opd_ix se_var (se_op opd_mod (se_cb cd_int (sa_cons (se_op opd_add se_var (se_op opd_mul se_int se_var)) sa_nil)) se_int)))
    (ss_seq (ss_set (se_m1 md_join se_str (se_f (sf_lc (j := 10) (si_rng (sa_cons (se_gp (sa_cons se_int sa_nil)) sa_nil)) st_yes (se_op opd_ix se_var (se_gp (sa_cons se_int sa_nil)))))))
    (ss_seq (ss_set (se_op opd_ix (se_f (sf_lst (sa_cons se_var (sa_cons (se_op opd_add se_str se_var) (sa_cons (se_op opd_add se_var se_var) sa_nil))))) se_var))
    (ss_seq (ss_if (st_test (se_op opd_in se_var (se_tup (sa_cons se_str (sa_cons se_str sa_nil))))) (ss_set (se_op opd_add se_var se_str)) ss_next)
    (ss_app se_var))))))
    (ss_ret se_var))))))⟩
theorem ok__law_words (T : Tx W mg) {k : Nat} (I : All P w base T k) : FnG P w W.K mg base (k + 1) T._law_words.f T._law_words.fd ["_law_pen_here"] (SpD W 1 (PhiF (cs (k + 1) 16))) := by
  refine fn_m (m := m__law_words (cs k)) T._law_words.fn sc__law_words rfl rfl fun cdv A outer s H E hg hr => ?_
  exact ⟨_, (pss_cons (ps_set (i := 1) sc__law_words.nd rfl (by first | exact Or.inl rfl | exact Or.inr rfl) (pe_g I._law_names hg hr rfl T._law_names.mg T._law_names.fn.kp T._law_names.bd (pa_cons (pv 0) (pa_cons pe_int pa_nil))))
    (pss_cons (ps_set (i := 2) sc__law_words.nd rfl (by first | exact Or.inl rfl | exact Or.inr rfl) (pe_lst pa_nil))
    (pss_cons (ps_for PassesOwn.never rfl (pi_range1 rfl T.m_range (pa_cons (pe_op (ka_add (K := W.K) rfl) pe_int (pe_g I._law_draw hg hr rfl T._law_draw.mg T._law_draw.fn.kp T._law_draw.bd (pa_cons (pv 0) (pa_cons pe_int pa_nil)))) pa_nil)) (pg_name (i := 3) sc__law_words.nd rfl (by first | exact Or.inl rfl | exact Or.inr rfl)) (pss_one (ps_expr (pe_bm PySem.F.plainAttrs_list PySem.F.slot_list_append PySem.F.type_list_append mt_append (pv 2) (pa_cons (pe_op (ka_add (K := W.K) rfl) (pe_op (ka_add (K := W.K) rfl) (pe_ix (ka_ix (K := W.K) rfl) (pv 1) (pe_op op_mod (pe_callTy call_int1 rfl T.m_int (by decide +kernel) (pa_cons (pv 3) pa_nil)) pe_int) (fun _ _ => rfl)) pe_str) (pe_ix (ka_ix (K := W.K) rfl) (pv 1) (pe_op (ka_add (K := W.K) rfl) pe_int (pe_op op_mod (pe_callTy call_int1 rfl T.m_int (by decide +kernel) (pa_cons (pe_op op_fdiv (pv 3) pe_int) pa_nil)) pe_int)) (fun _ _ => rfl))) pa_nil)))))
    (pss_one (ps_ret (pv 2)))))),
    (ss_seq (ss_set (se_gp (sa_cons se_int sa_nil)))
    (ss_seq (ss_own (sf_lst sa_nil))
    (ss_seq (ss_for (si_rng (sa_cons (se_op opd_add se_int (se_gp (sa_cons se_int sa_nil))) sa_nil)) (ss_app (se_op opd_add (se_op opd_add (se_op opd_ix se_var (se_op opd_mod (se_cb cd_int (sa_cons se_var sa_nil)) se_int)) se_str) (se_op opd_ix se_var (se_op opd_add se_int (se_op opd_mod (se_cb cd_int (sa_cons (se_op opd_fdiv se_var se_int) sa_nil)) se_int))))))
    (ss_ret se_var))))⟩
theorem ok__law_letters (T : Tx W mg) {k : Nat} (I : All P w base T k) : FnG P w W.K mg base (k + 1) T._law_letters.f T._law_letters.fd ["_law_pen_here"] (SpD W 1 (PhiF (cs (k + 1) 17))) := by
  refine fn_m (m := m__law_letters (cs k)) T._law_letters.fn sc__law_letters rfl rfl fun cdv A outer s H E hg hr => ?_
  exact ⟨_, (pss_cons (ps_set (i := 1) sc__law_letters.nd rfl (by first | exact Or.inl rfl | exact Or.inr rfl) (pe_g I._law_draw hg hr rfl T._law_draw.mg T._law_draw.fn.kp T._law_draw.bd (pa_cons (pv 0) (pa_cons pe_int pa_nil))))
    (pss_cons (ps_set (i := 2) sc__law_letters.nd rfl (by first | exact Or.inl rfl | exact Or.inr rfl) (pe_g I._law_draw hg hr rfl T._law_draw.mg T._law_draw.fn.kp T._law_draw.bd (pa_cons (pv 0) (pa_cons pe_int pa_nil))))
    (pss_cons (ps_set (i := 3) sc__law_letters.nd rfl (by first | exact Or.inl rfl | exact Or.inr rfl) pe_str)
    (pss_cons (ps_if (pt_cmpR (ka_eq (K := W.K) (u64 hr) rfl) (pv 1) pe_int (nomark _)) (pss_one (ps_ret (pe_lc (own := [("_law_k", 4)]) rfl sc__law_letters.nd (pi_range1 rfl T.m_range (pa_cons pe_int pa_nil)) (blkOk_by (own := [("_law_k", 4)]) (N := N__law_letters) (sc := defScope s__law_letters) (by decide +kernel)) (fun _ _ _ _ _ => (pg_name (i := 4) sc__law_letters.nd rfl (by first | exact Or.inl rfl | exact Or.inr rfl))) (fun _ _ _ _ _ => pts_nil) (fun _ _ _ _ _ => (pe_ix (ka_ix (K := W.K) rfl) (pv 3) (pe_op (ka_add (K := W.K) rfl) (pv 2) (pv 4)) (fun _ _ => rfl)))))) pss_nil)
    (pss_cons (ps_if (pt_cmpR (ka_eq (K := W.K) (u64 hr) rfl) (pv 1) pe_int (nomark _)) (pss_one (ps_ret (pe_lc (own := [("_law_k", 4)]) rfl sc__law_letters.nd (pi_range1 rfl T.m_range (pa_cons pe_int pa_nil)) (blkOk_by (own := [("_law_k", 4)]) (N := N__law_letters) (sc := defScope s__law_letters) (by decide +kernel)) (fun _ _ _ _ _ => (pg_name (i := 4) sc__law_letters.nd rfl (by first | exact Or.inl rfl | exact Or.inr rfl))) (fun _ _ _ _ _ => pts_nil) (fun _ _ _ _ _ => (pe_op (ka_add (K := W.K) rfl) pe_str (pe_callTy cr_strOf rfl T.m_str (by decide +kernel) (pa_cons (pe_op op_sub pe_int (pv 4)) pa_nil))))))) pss_nil)
    (pss_one (ps_ret (pe_lst (pa_cons (pe_ix (ka_ix (K := W.K) rfl) (pv 3) (pv 2) (fun _ _ => rfl)) (pa_cons (pe_op (ka_add (K := W.K) rfl) (pe_ix (ka_ix (K := W.K) rfl) (pv 3) (pv 2) (fun _ _ => rfl)) pe_str) (pa_cons (pe_op (ka_add (K := W.K) rfl) (pe_ix (ka_ix (K := W.K) rfl) (pv 3) (pv 2) (fun _ _ => rfl)) pe_str) (pa_cons (pe_op (ka_add (K := W.K) rfl) (pe_ix (ka_ix (K := W.K) rfl) (pv 3) (pv 2) (fun _ _ => rfl)) pe_str) (pa_cons (pe_op (ka_add (K := W.K) rfl) (pe_ix (ka_ix (K := W.K) rfl) (pv 3) (pv 2) (fun _ _ => rfl)) pe_str) pa_nil))))))))))))),
    (ss_seq (ss_set (se_gp (sa_cons se_int sa_nil)))
    (ss_seq (ss_set (se_gp (sa_cons se_int sa_nil)))
    (ss_seq (ss_set se_str)
    (ss_seq (ss_if (st_test (se_op opd_eqX se_var se_int)) (ss_ret (se_f (sf_lc (j := 4) (si_rng (sa_cons se_int sa_nil)) st_yes (se_op opd_ix se_var (se_op opd_add se_var se_var))))) ss_next)
    (ss_seq (ss_if (st_test (se_op opd_eqX se_var se_int)) (ss_ret (se_f (sf_lc (j := 4) (si_rng (sa_cons se_int sa_nil)) st_yes (se_op opd_add se_str (se_cb cd_str (sa_cons (se_op opd_sub se_int se_var) sa_nil)))))) ss_next)
    (ss_ret (se_f (sf_lst (sa_cons (se_op opd_ix se_var se_var) (sa_cons (se_op opd_add (se_op opd_ix se_var se_var) se_str) (sa_cons (se_op opd_add (se_op opd_ix se_var se_var) se_str) (sa_cons (se_op opd_add (se_op opd_ix se_var se_var) se_str) (sa_cons (se_op opd_add (se_op opd_ix se_var se_var) se_str) sa_nil)))))))))))))⟩
theorem ok__law_term (T : Tx W mg) {k : Nat} (I : All P w base T k) : FnG P w W.K mg base (k + 1) T._law_term.f T._law_term.fd ["_law_pen_here", "_law_lexicon", "_law_letters_here", "_law_deep", "_law_purse"] (SpD W 5 (PhiF (cs (k + 1) 11))) := by
  refine fn_m (m := m__law_term (cs k)) T._law_term.fn sc__law_term rfl rfl fun cdv A outer s H E hg hr => ?_
  exact ⟨_, (pss_cons (ps_asg (pe_op op_sub (pe_ix (ka_ix (K := W.K) rfl) (pv 4) pe_int (fun _ _ => rfl)) pe_int) (pg_sub (pv 4) pe_int set_list))
    (pss_cons (ps_set (i := 5) sc__law_term.nd rfl (by first | exact Or.inl rfl | exact Or.inr rfl) (pe_g I._law_draw hg hr rfl T._law_draw.mg T._law_draw.fn.kp T._law_draw.bd (pa_cons (pv 0) (pa_cons pe_int pa_nil))))
    (pss_cons (ps_if (PW.pt (pw_and (pt_cmpR (ka_ne (K := W.K) (u64 hr) rfl) (pv 2) (pe_lst pa_nil) (nomark _)) (pw_and1 (pt_cmpR op_lt (pv 5) pe_int (nomark _))))) (pss_one (ps_ret (pe_ix (ka_ix (K := W.K) rfl) (pv 2) (pe_g I._law_draw hg hr rfl T._law_draw.mg T._law_draw.fn.kp T._law_draw.bd (pa_cons (pv 0) (pa_cons (pe_callB (ka_len (K := W.K) rfl) rfl T.m_len (by decide +kernel) (pa_cons (pv 2) pa_nil)) pa_nil))) (fun _ _ => rfl)))) pss_nil)
    (pss_cons (ps_set (i := 6) sc__law_term.nd rfl (by first | exact Or.inl rfl | exact Or.inr rfl) (pe_tup (pa_cons (pe_ix (ka_ix (K := W.K) rfl) (pv 1) (pe_g I._law_draw hg hr rfl T._law_draw.mg T._law_draw.fn.kp T._law_draw.bd (pa_cons (pv 0) (pa_cons (pe_callB (ka_len (K := W.K) rfl) rfl T.m_len (by decide +kernel) (pa_cons (pv 1) pa_nil)) pa_nil))) (fun _ _ => rfl)) pa_nil)))
    (pss_cons (ps_for PassesOwn.never rfl (pi_range1 rfl T.m_range (pa_cons (pe_op op_mul (pe_ix (ka_ix (K := W.K) rfl) (pe_lst (pa_cons pe_int (pa_cons pe_int (pa_cons pe_int (pa_cons pe_int (pa_cons pe_int pa_nil)))))) (pv 5) (fun _ _ => rfl)) (pe_callTy call_int1 rfl T.m_int (by decide +kernel) (pa_cons (pe_cmpR op_gt (pv 3) pe_int (nomark _)) pa_nil))) pa_nil)) (pg_name (i := 7) sc__law_term.nd rfl (by first | exact Or.inl rfl | exact Or.inr rfl)) (pss_one (ps_if (pt_cmpR op_gt (pe_ix (ka_ix (K := W.K) rfl) (pv 4) pe_int (fun _ _ => rfl)) pe_int (nomark _)) (pss_one (ps_set (i := 6) sc__law_term.nd rfl (by first | exact Or.inl rfl | exact Or.inr rfl) (pe_op (ka_add (K := W.K) rfl) (pv 6) (pe_tup (pa_cons (pe_g I._law_term hg hr rfl T._law_term.mg T._law_term.fn.kp T._law_term.bd (pa_cons (pv 0) (pa_cons (pv 1) (pa_cons (pv 2) (pa_cons (pe_op op_sub (pv 3) pe_int) (pa_cons (pv 4) pa_nil)))))) pa_nil))))) pss_nil)))
    (pss_one (ps_ret (pv 6)))))))),
    (ss_seq (ss_lput (se_op opd_sub (se_lget se_int) se_int))
    (ss_seq (ss_set (se_gp (sa_cons se_int sa_nil)))
    (ss_seq (ss_if (st_and (st_test (se_op opd_neX se_var (se_f (sf_lst sa_nil)))) (st_test (se_op opd_lt se_var se_int))) (ss_ret (se_op opd_ix se_var (se_gp (sa_cons (se_cb cd_len (sa_cons se_var sa_nil)) sa_nil)))) ss_next)
    (ss_seq (ss_set (se_tup (sa_cons (se_op opd_ix se_var (se_gp (sa_cons (se_cb cd_len (sa_cons se_var sa_nil)) sa_nil))) sa_nil)))
    (ss_seq (ss_for (si_rng (sa_cons (se_op opd_mul (se_op opd_ix (se_f (sf_lst (sa_cons se_int (sa_cons se_int (sa_cons se_int (sa_cons se_int (sa_cons se_int sa_nil))))))) se_var) (se_cb cd_int (sa_cons (se_op opd_gt se_var se_int) sa_nil))) sa_nil)) (ss_if (st_test (se_op opd_gt (se_lget se_int) se_int)) (ss_set (se_op opd_add se_var (se_tup (sa_cons (se_gl (sl_own (sl_dat se_var (sl_dat se_var (sl_dat (se_op opd_sub se_var se_int) (sl_own sl_nil)))))) sa_nil)))) ss_next))
    (ss_ret se_var))))))⟩
theorem ok__law_odd (T : Tx W mg) {k : Nat} (I : All P w base T k) : FnG P w W.K mg base (k + 1) T._law_odd.f T._law_odd.fd ["_law_pen_here", "_law_tree"] (SpD W 2 (PhiF (cs (k + 1) 13))) := by
  refine fn_m (m := m__law_odd (cs k)) T._law_odd.fn sc__law_odd rfl rfl fun cdv A outer s H E hg hr => ?_
  exact ⟨_, (pss_cons (ps_set (i := 2) sc__law_odd.nd rfl (by first | exact Or.inl rfl | exact Or.inr rfl) pe_str)
    (pss_cons (ps_if (pt_not (ka_tru (K := W.K) rfl (pe_callB (ka_isi (K := W.K) rfl) rfl T.m_isinstance (by decide +kernel) (pa_cons (pv 1) (pa_cons (pe_bltn (v := .ty "str") (u := .type "str") rfl T.m_str (by decide +kernel) rfl) pa_nil))) (by intro _; rfl))) (pss_one (ps_set (i := 2) sc__law_odd.nd rfl (by first | exact Or.inl rfl | exact Or.inr rfl) (pe_ix (ka_ix (K := W.K) rfl) (pv 1) pe_int (fun _ _ => rfl)))) pss_nil)
    (pss_cons (ps_set (i := 3) sc__law_odd.nd rfl (by first | exact Or.inl rfl | exact Or.inr rfl) (pe_lst (pa_cons (pv 2) (pa_cons (pe_op (ka_add (K := W.K) rfl) (pv 2) pe_str) (pa_cons pe_non (pa_cons pe_bl (pa_cons pe_int (pa_cons pe_str (pa_cons pe_str (pa_cons (pe_tup pa_nil) (pa_cons (pe_lst (pa_cons (pv 2) pa_nil)) (pa_cons (pe_callTy (ka_listS (K := W.K) rfl rfl) rfl T.m_list (by decide +kernel) (pa_cons (pv 1) pa_nil)) (pa_cons (pe_tup (pa_cons pe_str pa_nil)) (pa_cons (pe_tup (pa_cons (pv 2) (pa_cons (pv 2) pa_nil))) (pa_cons (pe_tup (pa_cons pe_str (pa_cons (pe_tup (pa_cons (pv 2) pa_nil)) pa_nil))) pa_nil)))))))))))))))
    (pss_cons (ps_set (i := 3) sc__law_odd.nd rfl (by first | exact Or.inl rfl | exact Or.inr rfl) (pe_op (ka_add (K := W.K) rfl) (pv 3) (pe_lst (pa_cons (pe_tup (pa_cons (pv 2) (pa_cons pe_non pa_nil))) (pa_cons (pe_tup (pa_cons (pv 2) (pa_cons pe_str pa_nil))) (pa_cons (pe_tup (pa_cons (pv 2) (pa_cons pe_bl pa_nil))) (pa_cons (pe_tup (pa_cons (pe_tup (pa_cons (pv 2) pa_nil)) pa_nil)) (pa_cons (pe_tup (pa_cons (pv 2) (pa_cons pe_str (pa_cons pe_str (pa_cons pe_str (pa_cons pe_str pa_nil)))))) (pa_cons pe_dnewK (pa_cons (pe_tup (pa_cons (pv 2) (pa_cons (pe_lst (pa_cons (pv 2) pa_nil)) pa_nil))) pa_nil))))))))))
    (pss_one (ps_ret (pe_ix (ka_ix (K := W.K) rfl) (pv 3) (pe_g I._law_draw hg hr rfl T._law_draw.mg T._law_draw.fn.kp T._law_draw.bd (pa_cons (pv 0) (pa_cons pe_int pa_nil))) (fun _ _ => rfl)))))))),
    (ss_seq (ss_set se_str)
    (ss_seq (ss_if (st_not (st_tru (se_is isk_str se_var))) (ss_set (se_op opd_ix se_var se_int)) ss_next)
    (ss_seq (ss_set (se_f (sf_lst (sa_cons se_var (sa_cons (se_op opd_add se_var se_str) (sa_cons se_non (sa_cons se_bl (sa_cons se_int (sa_cons se_str (sa_cons se_str (sa_cons (se_tup sa_nil) (sa_cons (se_f (sf_lst (sa_cons se_var sa_nil))) (sa_cons (se_f (sf_listS (sa_cons se_var sa_nil))) (sa_cons (se_tup (sa_cons se_str sa_nil)) (sa_cons (se_tup (sa_cons se_var (sa_cons se_var sa_nil))) (sa_cons (se_tup (sa_cons se_str (sa_cons (se_tup (sa_cons se_var sa_nil)) sa_nil))) sa_nil))))))))))))))))
    (ss_seq (ss_set (se_op opd_add se_var (se_f (sf_lst (sa_cons (se_tup (sa_cons se_var (sa_cons se_non sa_nil))) (sa_cons (se_tup (sa_cons se_var (sa_cons se_str sa_nil))) (sa_cons (se_tup (sa_cons se_var (sa_cons se_bl sa_nil))) (sa_cons (se_tup (sa_cons (se_tup (sa_cons se_var sa_nil)) sa_nil)) (sa_cons (se_tup (sa_cons se_var (sa_cons se_str (sa_cons se_str (sa_cons se_str (sa_cons se_str sa_nil)))))) (sa_cons se_dnew (sa_cons (se_tup (sa_cons se_var (sa_cons (se_f (sf_lst (sa_cons se_var sa_nil))) sa_nil))) sa_nil)))))))))))
    (ss_ret (se_op opd_ix se_var (se_gp (sa_cons se_int sa_nil))))))))⟩
theorem ok__law_bent (T : Tx W mg) {k : Nat} (I : All P w base T k) : FnG P w W.K mg base (k + 1) T._law_bent.f T._law_bent.fd ["_law_pen_here", "_law_tree"] (SpD W 2 (PhiF (cs (k + 1) 12))) := by
  refine fn_m (m := m__law_bent (cs k)) T._law_bent.fn sc__law_bent rfl rfl fun cdv A outer s H E hg hr => ?_
  exact ⟨_, (pss_cons (ps_if (PW.pt (pw_and (pt_not (ka_tru (K := W.K) rfl (pe_callB (ka_isi (K := W.K) rfl) rfl T.m_isinstance (by decide +kernel) (pa_cons (pv 1) (pa_cons (pe_bltn (v := .ty "str") (u := .type "str") rfl T.m_str (by decide +kernel) rfl) pa_nil))) (by intro _; rfl))) (pw_and (pt_cmpR op_gt (pe_callB (ka_len (K := W.K) rfl) rfl T.m_len (by decide +kernel) (pa_cons (pv 1) pa_nil)) pe_int (nomark _)) (pw_and1 (pt_cmpR op_gt (pe_g I._law_draw hg hr rfl T._law_draw.mg T._law_draw.fn.kp T._law_draw.bd (pa_cons (pv 0) (pa_cons pe_int pa_nil))) pe_int (nomark _)))))) (pss_cons (ps_set (i := 2) sc__law_bent.nd rfl (by first | exact Or.inl rfl | exact Or.inr rfl) (pe_op (ka_add (K := W.K) rfl) pe_int (pe_g I._law_draw hg hr rfl T._law_draw.mg T._law_draw.fn.kp T._law_draw.bd (pa_cons (pv 0) (pa_cons (pe_op op_sub (pe_callB (ka_len (K := W.K) rfl) rfl T.m_len (by decide +kernel) (pa_cons (pv 1) pa_nil)) pe_int) pa_nil)))))
    (pss_one (ps_ret (pe_op (ka_add (K := W.K) rfl) (pe_op (ka_add (K := W.K) rfl) (pe_slice (ka_sl (K := W.K) rfl) (pv 1) po_none (po_some (pv 2))) (pe_tup (pa_cons (pe_g I._law_bent hg hr rfl T._law_bent.mg T._law_bent.fn.kp T._law_bent.bd (pa_cons (pv 0) (pa_cons (pe_ix (ka_ix (K := W.K) rfl) (pv 1) (pv 2) (fun _ _ => rfl)) pa_nil))) pa_nil))) (pe_slice (ka_sl (K := W.K) rfl) (pv 1) (po_some (pe_op (ka_add (K := W.K) rfl) (pv 2) pe_int)) po_none))))) pss_nil)
    (pss_cons (ps_set (i := 3) sc__law_bent.nd rfl (by first | exact Or.inl rfl | exact Or.inr rfl) (pe_g I._law_draw hg hr rfl T._law_draw.mg T._law_draw.fn.kp T._law_draw.bd (pa_cons (pv 0) (pa_cons pe_int pa_nil))))
    (pss_cons (ps_if (PW.pt (pw_and (pt_cmpR (ka_eq (K := W.K) (u64 hr) rfl) (pv 3) pe_int (nomark _)) (pw_and1 (pt_not (ka_tru (K := W.K) rfl (pe_callB (ka_isi (K := W.K) rfl) rfl T.m_isinstance (by decide +kernel) (pa_cons (pv 1) (pa_cons (pe_bltn (v := .ty "str") (u := .type "str") rfl T.m_str (by decide +kernel) rfl) pa_nil))) (by intro _; rfl)))))) (pss_one (ps_ret (pe_op (ka_add (K := W.K) rfl) (pv 1) (pe_tup (pa_cons pe_str pa_nil))))) pss_nil)
    (pss_cons (ps_if (PW.pt (pw_and (pt_cmpR (ka_eq (K := W.K) (u64 hr) rfl) (pv 3) pe_int (nomark _)) (pw_and1 (pt_not (ka_tru (K := W.K) rfl (pe_callB (ka_isi (K := W.K) rfl) rfl T.m_isinstance (by decide +kernel) (pa_cons (pv 1) (pa_cons (pe_bltn (v := .ty "str") (u := .type "str") rfl T.m_str (by decide +kernel) rfl) pa_nil))) (by intro _; rfl)))))) (pss_one (ps_ret (pe_slice (ka_sl (K := W.K) rfl) (pv 1) po_none (po_some (pe_un un_neg pe_int))))) pss_nil)
    (pss_cons (ps_if (PW.pt (pw_and (pt_cmpR (ka_eq (K := W.K) (u64 hr) rfl) (pv 3) pe_int (nomark _)) (pw_and1 (pt_not (ka_tru (K := W.K) rfl (pe_callB (ka_isi (K := W.K) rfl) rfl T.m_isinstance (by decide +kernel) (pa_cons (pv 1) (pa_cons (pe_bltn (v := .ty "str") (u := .type "str") rfl T.m_str (by decide +kernel) rfl) pa_nil))) (by intro _; rfl)))))) (pss_one (ps_ret (pe_op (ka_add (K := W.K) rfl) (pe_slice (ka_sl (K := W.K) rfl) (pv 1) po_none (po_some pe_int)) (pe_revN (.inr rfl) (pv 1) (po_some pe_int) (fun _ _ _ h => ⟨0, rfl, h⟩))))) pss_nil)
    (pss_one (ps_ret (pe_g I._law_odd hg hr rfl T._law_odd.mg T._law_odd.fn.kp T._law_odd.bd (pa_cons (pv 0) (pa_cons (pv 1) pa_nil)))))))))),
    (ss_seq (ss_if (st_and (st_not (st_tru (se_is isk_str se_var))) (st_and (st_test (se_op opd_gt (se_cb cd_len (sa_cons se_var sa_nil)) se_int)) (st_test (se_op opd_gt (se_gp (sa_cons se_int sa_nil)) se_int)))) (ss_seq (ss_set (se_op opd_add se_int (se_gp (sa_cons (se_op opd_sub (se_cb cd_len (sa_cons se_var sa_nil)) se_int) sa_nil))))
    (ss_ret (se_op opd_add (se_op opd_add (se_sl se_var so_none (so_some se_var)) (se_tup (sa_cons (se_gp (sa_cons (se_op opd_ix se_var se_var) sa_nil)) sa_nil))) (se_sl se_var (so_some (se_op opd_add se_var se_int)) so_none)))) ss_next)
    (ss_seq (ss_set (se_gp (sa_cons se_int sa_nil)))
    (ss_seq (ss_if (st_and (st_test (se_op opd_eqX se_var se_int)) (st_not (st_tru (se_is isk_str se_var)))) (ss_ret (se_op opd_add se_var (se_tup (sa_cons se_str sa_nil)))) ss_next)
    (ss_seq (ss_if (st_and (st_test (se_op opd_eqX se_var se_int)) (st_not (st_tru (se_is isk_str se_var)))) (ss_ret (se_sl se_var so_none (so_some (se_un und_neg se_int)))) ss_next)
    (ss_seq (ss_if (st_and (st_test (se_op opd_eqX se_var se_int)) (st_not (st_tru (se_is isk_str se_var)))) (ss_ret (se_op opd_add (se_sl se_var so_none (so_some se_int)) (se_revT se_var))) ss_next)
    (ss_ret (se_gp (sa_cons se_var sa_nil))))))))⟩
theorem ok__law_is_word (T : Tx W mg) {k : Nat} (I : All P w base T k) : FnG P w W.K mg base (k + 1) T._law_is_word.f T._law_is_word.fd ["_law_entry"] (SpD W 1 (PhiF (cs (k + 1) 19))) := by
  refine fn_m (m := m__law_is_word (cs k)) T._law_is_word.fn sc__law_is_word rfl rfl fun cdv A outer s H E hg hr => ?_
  exact ⟨_, (pss_cons (ps_if (PW.pt (pw_or (pt_not (ka_tru (K := W.K) rfl (pe_callB (ka_isi (K := W.K) rfl) rfl T.m_isinstance (by decide +kernel) (pa_cons (pv 0) (pa_cons (pe_bltn (v := .ty "str") (u := .type "str") rfl T.m_str (by decide +kernel) rfl) pa_nil))) (by intro _; rfl))) (pw_or1 (pt_cmpR (ka_ne (K := W.K) (u64 hr) rfl) (pe_m1 PySem.F.slot_str_count PySem.F.type_str_count mt_count (pv 0) pe_str) pe_int (nomark _))))) (pss_one (ps_ret pe_bl)) pss_nil)
    (pss_cons (ps_for PassesOwn.never rfl (ka_plist (K := W.K) rfl (pe_split (pv 0) pe_str)) (pg_name (i := 1) sc__law_is_word.nd rfl (by first | exact Or.inl rfl | exact Or.inr rfl)) (pss_cons (ps_setLc (i := 2) (own := [("_law_sign", 3)]) rfl sc__law_is_word.nd rfl rfl (sw_true rfl rfl rfl (by decide +kernel)) (pi_str (pv 1)) (blkOk_by (own := [("_law_sign", 3)]) (N := N__law_is_word) (sc := defScope s__law_is_word) (by decide +kernel)) (fun _ _ _ _ _ => (pg_name (i := 3) sc__law_is_word.nd rfl (by first | exact Or.inl rfl | exact Or.inr rfl))) (fun _ _ _ _ _ => (pts_one (pt_cmpR (ka_ni (K := W.K) rfl) (pv 3) pe_str rfl))) (fun _ _ _ _ _ => (pv 3)))
    (pss_one (ps_if (PW.pt (pw_or (pt_cmpR (ka_ne (K := W.K) (u64 hr) rfl) (pv 2) (pe_lst pa_nil) (nomark _)) (pw_or (pt_not (pt_chain op_lt op_lt pe_int (pe_callB (ka_len (K := W.K) rfl) rfl T.m_len (by decide +kernel) (pa_cons (pv 1) pa_nil)) pe_int)) (pw_or1 (pt_cmpR (ka_in (K := W.K) rfl) (pv 1) (pe_tup (pa_cons pe_str (pa_cons pe_str pa_nil))) rfl))))) (pss_one (ps_ret pe_bl)) pss_nil))))
    (pss_one (ps_ret pe_bl)))),
    (ss_seq (ss_if (st_or (st_not (st_tru (se_is isk_str se_var))) (st_test (se_op opd_neX (se_m1 md_count se_var se_str) se_int))) (ss_ret se_bl) ss_next)
    (ss_seq (ss_for (si_list (se_m1 md_split se_var se_str)) (ss_seq (ss_set (se_f (sf_lc (j := 3) (si_str se_var) (st_test (se_op opd_ni se_var se_str)) se_var)))
    (ss_if (st_or (st_test (se_op opd_neX se_var (se_f (sf_lst sa_nil)))) (st_or (st_not (st_test (se_chain opd_lt opd_lt se_int (se_cb cd_len (sa_cons se_var sa_nil)) se_int))) (st_test (se_op opd_in se_var (se_tup (sa_cons se_str (sa_cons se_str sa_nil))))))) (ss_ret se_bl) ss_next)))
    (ss_ret se_bl)))⟩
theorem ok__law_count (T : Tx W mg) {k : Nat} (I : All P w base T k) : FnG P w W.K mg base (k + 1) T._law_count.f T._law_count.fd ["_law_entry"] (SpD W 1 (PhiF (cs (k + 1) 14))) := by
  refine fn_m (m := m__law_count (cs k)) T._law_count.fn sc__law_count rfl rfl fun cdv A outer s H E hg hr => ?_
  exact ⟨_, (pss_cons (ps_if (ka_tru (K := W.K) rfl (pe_callB (ka_isi (K := W.K) rfl) rfl T.m_isinstance (by decide +kernel) (pa_cons (pv 0) (pa_cons (pe_bltn (v := .ty "str") (u := .type "str") rfl T.m_str (by decide +kernel) rfl) pa_nil))) (by intro _; rfl)) (pss_cons (ps_setLc (i := 1) (own := [("_law_sign", 7)]) rfl sc__law_count.nd rfl rfl (sw_true rfl rfl rfl (by decide +kernel)) (pi_str (pe_slice (ka_sl (K := W.K) rfl) (pv 0) (po_some pe_int) po_none)) (blkOk_by (own := [("_law_sign", 7)]) (N := N__law_count) (sc := defScope s__law_count) (by decide +kernel)) (fun _ _ _ _ _ => (pg_name (i := 7) sc__law_count.nd rfl (by first | exact Or.inl rfl | exact Or.inr rfl))) (fun _ _ _ _ _ => (pts_one (pt_cmpR (ka_ni (K := W.K) rfl) (pv 7) pe_str rfl))) (fun _ _ _ _ _ => (pv 7)))
    (pss_cons (ps_set (i := 2) sc__law_count.nd rfl (by first | exact Or.inl rfl | exact Or.inr rfl) (pe_and (pe_chain op_lt op_lt pe_int (pe_callB (ka_len (K := W.K) rfl) rfl T.m_len (by decide +kernel) (pa_cons (pv 0) pa_nil)) pe_int) (pe_and (pe_cmpR (ka_in (K := W.K) rfl) (pe_slice (ka_sl (K := W.K) rfl) (pv 0) po_none (po_some pe_int)) pe_str rfl) (pe_one (pe_cmpR (ka_eqNil (K := W.K) (u64 hr) rfl) (pv 1) (pe_lst pa_nil) (nomark _))))))
    (pss_one (ps_ret (pe_ifExp (ka_tru (K := W.K) rfl (pv 2) (by intro _; rfl)) (pe_tup (pa_cons pe_int (pa_cons pe_int pa_nil))) pe_non))))) pss_nil)
    (pss_cons (ps_if (PW.pt (pw_or (pt_not (ka_tru (K := W.K) rfl (pe_callB (ka_isi (K := W.K) rfl) rfl T.m_isinstance (by decide +kernel) (pa_cons (pv 0) (pa_cons (pe_bltn (v := .ty "tuple") (u := .type "tuple") rfl T.m_tuple (by decide +kernel) rfl) pa_nil))) (by intro _; rfl))) (pw_or (pt_not (pt_chain op_lt op_lt pe_int (pe_callB (ka_len (K := W.K) rfl) rfl T.m_len (by decide +kernel) (pa_cons (pv 0) pa_nil)) pe_int)) (pw_or1 (pt_not (ka_tru (K := W.K) rfl (pe_g I._law_is_word hg hr rfl T._law_is_word.mg T._law_is_word.fn.kp T._law_is_word.bd (pa_cons (pe_ix (ka_ix (K := W.K) rfl) (pv 0) pe_int (fun _ _ => rfl)) pa_nil)) (by intro _; rfl))))))) (pss_one (ps_ret pe_non)) pss_nil)
    (pss_cons (ps_set (i := 3) sc__law_count.nd rfl (by first | exact Or.inl rfl | exact Or.inr rfl) pe_int)
    (pss_cons (ps_set (i := 4) sc__law_count.nd rfl (by first | exact Or.inl rfl | exact Or.inr rfl) pe_int)
    (pss_cons (ps_for PassesOwn.never rfl (ka_ptup (K := W.K) rfl (pe_slice (ka_sl (K := W.K) rfl) (pv 0) (po_some pe_int) po_none)) (pg_name (i := 5) sc__law_count.nd rfl (by first | exact Or.inl rfl | exact Or.inr rfl)) (pss_cons (ps_set (i := 6) sc__law_count.nd rfl (by first | exact Or.inl rfl | exact Or.inr rfl) (pe_g I._law_count hg hr rfl T._law_count.mg T._law_count.fn.kp T._law_count.bd (pa_cons (pv 5) pa_nil)))
    (pss_cons (ps_if (pt_cmpR op_isU (pv 6) pe_non (nomark _)) (pss_one (ps_ret pe_non)) pss_nil)
    (pss_cons (ps_set (i := 3) sc__law_count.nd rfl (by first | exact Or.inl rfl | exact Or.inr rfl) (pe_op (ka_add (K := W.K) rfl) (pv 3) (pe_ix (ka_ix (K := W.K) rfl) (pv 6) pe_int (fun _ _ => rfl))))
    (pss_one (ps_set (i := 4) sc__law_count.nd rfl (by first | exact Or.inl rfl | exact Or.inr rfl) (pe_callB (call_max2 rfl) rfl T.m_max (by decide +kernel) (pa_cons (pv 4) (pa_cons (pe_ix (ka_ix (K := W.K) rfl) (pv 6) pe_int (fun _ _ => rfl)) pa_nil)))))))))
    (pss_one (ps_ret (pe_tup (pa_cons (pv 3) (pa_cons (pe_op (ka_add (K := W.K) rfl) (pv 4) pe_int) pa_nil)))))))))),
    (ss_seq (ss_if (st_tru (se_is isk_str se_var)) (ss_seq (ss_set (se_f (sf_lc (j := 7) (si_str (se_sl se_var (so_some se_int) so_none)) (st_test (se_op opd_ni se_var se_str)) se_var)))
    (ss_seq (ss_set (se_andV (se_chain opd_lt opd_lt se_int (se_cb cd_len (sa_cons se_var sa_nil)) se_int) (se_andV (se_op opd_in (se_sl se_var so_none (so_some se_int)) se_str) (se_op opd_eqNil se_var (se_f (sf_lst sa_nil))))))
    (ss_ret (se_if (st_tru se_var) (se_tup (sa_cons se_int (sa_cons se_int sa_nil))) se_non)))) ss_next)
    (ss_seq (ss_if (st_or (st_not (st_tru (se_is isk_tup se_var))) (st_or (st_not (st_test (se_chain opd_lt opd_lt se_int (se_cb cd_len (sa_cons se_var sa_nil)) se_int))) (st_not (st_tru (se_g (sa_cons (se_op opd_ix se_var se_int) sa_nil)))))) (ss_ret se_non) ss_next)
    (ss_seq (ss_set se_int)
    (ss_seq (ss_set se_int)
    (ss_seq (ss_for (si_tup (se_sl se_var (so_some se_int) so_none)) (ss_seq (ss_set (se_g (sa_cons se_var sa_nil)))
    (ss_seq (ss_if (st_test (se_op opd_is se_var se_non)) (ss_ret se_non) ss_next)
    (ss_seq (ss_set (se_op opd_add se_var (se_op opd_ix se_var se_int)))
    (ss_set (se_cb cd_max2 (sa_cons se_var (sa_cons (se_op opd_ix se_var se_int) sa_nil))))))))
    (ss_ret (se_tup (sa_cons se_var (sa_cons (se_op opd_add se_var se_int) sa_nil)))))))))⟩
theorem ok__law_is_term (T : Tx W mg) {k : Nat} (I : All P w base T k) : FnG P w W.K mg base (k + 1) T._law_is_term.f T._law_is_term.fd ["_law_entry"] (SpD W 1 (PhiF (cs (k + 1) 23))) := by
  refine fn_m (m := m__law_is_term (cs k)) T._law_is_term.fn sc__law_is_term rfl rfl fun cdv A outer s H E hg hr => ?_
  exact ⟨_, (pss_cons (ps_set (i := 1) sc__law_is_term.nd rfl (by first | exact Or.inl rfl | exact Or.inr rfl) (pe_g I._law_count hg hr rfl T._law_count.mg T._law_count.fn.kp T._law_count.bd (pa_cons (pv 0) pa_nil)))
    (pss_one (ps_ret (pe_and (pe_cmpR op_noU (pv 1) pe_non (nomark _)) (pe_and (pe_cmpR op_le (pe_ix (ka_ix (K := W.K) rfl) (pv 1) pe_int (fun _ _ => rfl)) pe_int (nomark _)) (pe_one (pe_cmpR op_le (pe_ix (ka_ix (K := W.K) rfl) (pv 1) pe_int (fun _ _ => rfl)) pe_int (nomark _)))))))),
    (ss_seq (ss_set (se_g (sa_cons se_var sa_nil)))
    (ss_ret (se_andV (se_op opd_no se_var se_non) (se_andV (se_op opd_le (se_op opd_ix se_var se_int) se_int) (se_op opd_le (se_op opd_ix se_var se_int) se_int)))))⟩
theorem ok__law_full (T : Tx W mg) {k : Nat} (I : All P w base T k) : FnG P w W.K mg base (k + 1) T._law_full.f T._law_full.fd ["_law_pen_here", "_law_lexicon", "_law_letters_here", "_law_deep"] (SpD W 4 (PhiF (cs (k + 1) 15))) := by
  refine fn_m (m := m__law_full (cs k)) T._law_full.fn sc__law_full rfl rfl fun cdv A outer s H E hg hr => ?_
  exact ⟨_, (pss_cons (ps_if (pt_cmpR (ka_eq (K := W.K) (u64 hr) rfl) (pv 3) pe_int (nomark _)) (pss_one (ps_ret (pe_ix (ka_ix (K := W.K) rfl) (pe_op (ka_add (K := W.K) rfl) (pv 2) (pe_lst (pa_cons (pe_tup (pa_cons (pe_ix (ka_ix (K := W.K) rfl) (pv 1) pe_int (fun _ _ => rfl)) pa_nil)) pa_nil))) (pe_g I._law_draw hg hr rfl T._law_draw.mg T._law_draw.fn.kp T._law_draw.bd (pa_cons (pv 0) (pa_cons (pe_op (ka_add (K := W.K) rfl) (pe_callB (ka_len (K := W.K) rfl) rfl T.m_len (by decide +kernel) (pa_cons (pv 2) pa_nil)) pe_int) pa_nil))) (fun _ _ => rfl)))) pss_nil)
    (pss_cons (ps_set (i := 4) sc__law_full.nd rfl (by first | exact Or.inl rfl | exact Or.inr rfl) (pe_callTy (ka_tuple (K := W.K) rfl) rfl T.m_tuple (by decide +kernel) (pa_cons (pe_lc (own := [("_law_k", 5)]) rfl sc__law_full.nd (pi_range1 rfl T.m_range (pa_cons pe_int pa_nil)) (blkOk_by (own := [("_law_k", 5)]) (N := N__law_full) (sc := defScope s__law_full) (by decide +kernel)) (fun _ _ _ _ _ => (pg_name (i := 5) sc__law_full.nd rfl (by first | exact Or.inl rfl | exact Or.inr rfl))) (fun _ _ _ _ _ => pts_nil) (fun _ _ _ _ _ => (pe_g I._law_full hg hr rfl T._law_full.mg T._law_full.fn.kp T._law_full.bd (pa_cons (pv 0) (pa_cons (pv 1) (pa_cons (pv 2) (pa_cons (pe_op op_sub (pv 3) pe_int) pa_nil))))))) pa_nil)))
    (pss_one (ps_ret (pe_op (ka_add (K := W.K) rfl) (pe_tup (pa_cons (pe_ix (ka_ix (K := W.K) rfl) (pv 1) (pe_g I._law_draw hg hr rfl T._law_draw.mg T._law_draw.fn.kp T._law_draw.bd (pa_cons (pv 0) (pa_cons (pe_callB (ka_len (K := W.K) rfl) rfl T.m_len (by decide +kernel) (pa_cons (pv 1) pa_nil)) pa_nil))) (fun _ _ => rfl)) pa_nil)) (pv 4)))))),
    (ss_seq (ss_if (st_test (se_op opd_eqX se_var se_int)) (ss_ret (se_op opd_ix (se_op opd_add se_var (se_f (sf_lst (sa_cons (se_tup (sa_cons (se_op opd_ix se_var se_int) sa_nil)) sa_nil)))) (se_gp (sa_cons (se_op opd_add (se_cb cd_len (sa_cons se_var sa_nil)) se_int) sa_nil)))) ss_next)
    (ss_seq (ss_set (se_cb cd_tuple (sa_cons (se_f (sf_lc (j := 5) (si_rng (sa_cons se_int sa_nil)) st_yes (se_gp (sa_cons se_var (sa_cons se_var (sa_cons (se_op opd_sub se_var se_int) sa_nil)))))) sa_nil)))
    (ss_ret (se_op opd_add (se_tup (sa_cons (se_op opd_ix se_var (se_gp (sa_cons (se_cb cd_len (sa_cons se_var sa_nil)) sa_nil))) sa_nil)) se_var))))⟩
theorem ok__law_tower (T : Tx W mg) {k : Nat} (I : All P w base T k) : FnG P w W.K mg base (k + 1) T._law_tower.f T._law_tower.fd ["_law_pen_here", "_law_lexicon", "_law_deep"] (SpD W 3 (PhiF (cs (k + 1) 18))) := by
  refine fn_m (m := m__law_tower (cs k)) T._law_tower.fn sc__law_tower rfl rfl fun cdv A outer s H E hg hr => ?_
  exact ⟨_, (pss_cons (ps_set (i := 3) sc__law_tower.nd rfl (by first | exact Or.inl rfl | exact Or.inr rfl) (pe_tup (pa_cons (pe_ix (ka_ix (K := W.K) rfl) (pv 1) pe_int (fun _ _ => rfl)) pa_nil)))
    (pss_cons (ps_for PassesOwn.never rfl (pi_range1 rfl T.m_range (pa_cons (pe_op op_sub (pv 2) pe_int) pa_nil)) (pg_name (i := 4) sc__law_tower.nd rfl (by first | exact Or.inl rfl | exact Or.inr rfl)) (pss_one (ps_set (i := 3) sc__law_tower.nd rfl (by first | exact Or.inl rfl | exact Or.inr rfl) (pe_tup (pa_cons (pe_ix (ka_ix (K := W.K) rfl) (pv 1) (pe_g I._law_draw hg hr rfl T._law_draw.mg T._law_draw.fn.kp T._law_draw.bd (pa_cons (pv 0) (pa_cons (pe_callB (ka_len (K := W.K) rfl) rfl T.m_len (by decide +kernel) (pa_cons (pv 1) pa_nil)) pa_nil))) (fun _ _ => rfl)) (pa_cons (pv 3) pa_nil))))))
    (pss_one (ps_ret (pv 3))))),
    (ss_seq (ss_set (se_tup (sa_cons (se_op opd_ix se_var se_int) sa_nil)))
    (ss_seq (ss_for (si_rng (sa_cons (se_op opd_sub se_var se_int) sa_nil)) (ss_set (se_tup (sa_cons (se_op opd_ix se_var (se_gp (sa_cons (se_cb cd_len (sa_cons se_var sa_nil)) sa_nil))) (sa_cons se_var sa_nil)))))
    (ss_ret se_var)))⟩
theorem ok__law_things (T : Tx W mg) {k : Nat} (I : All P w base T k) : FnG P w W.K mg base (k + 1) T._law_things.f T._law_things.fd ["_law_pen_here"] (SpD W 1 (PhiF (cs (k + 1) 24))) := by
  refine fn_m (m := m__law_things (cs k)) T._law_things.fn sc__law_things rfl rfl fun cdv A outer s H E hg hr => ?_
  exact ⟨_, (pss_cons (ps_set (i := 1) sc__law_things.nd rfl (by first | exact Or.inl rfl | exact Or.inr rfl) (pe_g I._law_words hg hr rfl T._law_words.mg T._law_words.fn.kp T._law_words.bd (pa_cons (pv 0) pa_nil)))
    (pss_cons (ps_set (i := 2) sc__law_things.nd rfl (by first | exact Or.inl rfl | exact Or.inr rfl) (pe_g I._law_letters hg hr rfl T._law_letters.mg T._law_letters.fn.kp T._law_letters.bd (pa_cons (pv 0) pa_nil)))
    (pss_cons (ps_setLc (i := 3) (own := [("_law_k", 5)]) rfl sc__law_things.nd rfl rfl (sw_true rfl rfl rfl (by decide +kernel)) (pi_range1 rfl T.m_range (pa_cons pe_int pa_nil)) (blkOk_by (own := [("_law_k", 5)]) (N := N__law_things) (sc := defScope s__law_things) (by decide +kernel)) (fun _ _ _ _ _ => (pg_name (i := 5) sc__law_things.nd rfl (by first | exact Or.inl rfl | exact Or.inr rfl))) (fun _ _ _ _ _ => pts_nil) (fun _ _ _ _ _ => (pe_g I._law_term hg hr rfl T._law_term.mg T._law_term.fn.kp T._law_term.bd (pa_cons (pv 0) (pa_cons (pv 1) (pa_cons (pv 2) (pa_cons pe_int (pa_cons (pe_lst (pa_cons pe_int pa_nil)) pa_nil))))))))
    (pss_cons (ps_set (i := 4) sc__law_things.nd rfl (by first | exact Or.inl rfl | exact Or.inr rfl) (pe_g I._law_full hg hr rfl T._law_full.mg T._law_full.fn.kp T._law_full.bd (pa_cons (pv 0) (pa_cons (pv 1) (pa_cons (pv 2) (pa_cons pe_int pa_nil))))))
    (pss_cons (ps_set (i := 3) sc__law_things.nd rfl (by first | exact Or.inl rfl | exact Or.inr rfl) (pe_op (ka_add (K := W.K) rfl) (pv 3) (pe_lst (pa_cons (pv 4) (pa_cons (pe_op (ka_add (K := W.K) rfl) (pe_slice (ka_sl (K := W.K) rfl) (pv 4) po_none (po_some pe_int)) (pe_tup (pa_cons (pe_tup (pa_cons (pe_ix (ka_ix (K := W.K) rfl) (pv 1) pe_int (fun _ _ => rfl)) (pa_cons (pe_ix (ka_ix (K := W.K) rfl) (pv 4) pe_int (fun _ _ => rfl)) pa_nil))) pa_nil))) pa_nil)))))
    (pss_cons (ps_set (i := 3) sc__law_things.nd rfl (by first | exact Or.inl rfl | exact Or.inr rfl) (pe_op (ka_add (K := W.K) rfl) (pv 3) (pe_lst (pa_cons (pe_g I._law_tower hg hr rfl T._law_tower.mg T._law_tower.fn.kp T._law_tower.bd (pa_cons (pv 0) (pa_cons (pv 1) (pa_cons pe_int pa_nil)))) (pa_cons (pe_g I._law_tower hg hr rfl T._law_tower.mg T._law_tower.fn.kp T._law_tower.bd (pa_cons (pv 0) (pa_cons (pv 1) (pa_cons pe_int pa_nil)))) pa_nil)))))
    (pss_cons (ps_for PassesOwn.never rfl (pi_range1 rfl T.m_range (pa_cons pe_int pa_nil)) (pg_name (i := 5) sc__law_things.nd rfl (by first | exact Or.inl rfl | exact Or.inr rfl)) (pss_cons (ps_set (i := 6) sc__law_things.nd rfl (by first | exact Or.inl rfl | exact Or.inr rfl) (pe_g I._law_bent hg hr rfl T._law_bent.mg T._law_bent.fn.kp T._law_bent.bd (pa_cons (pv 0) (pa_cons (pe_ix (ka_ix (K := W.K) rfl) (pv 3) (pe_g I._law_draw hg hr rfl T._law_draw.mg T._law_draw.fn.kp T._law_draw.bd (pa_cons (pv 0) (pa_cons pe_int pa_nil))) (fun _ _ => rfl)) pa_nil))))
    (pss_cons (ps_expr (pe_bm PySem.F.plainAttrs_list PySem.F.slot_list_append PySem.F.type_list_append mt_append (pv 3) (pa_cons (pv 6) pa_nil)))
    (pss_one (ps_if (PW.pt (pw_and (ka_tru (K := W.K) rfl (pe_callB (ka_isi (K := W.K) rfl) rfl T.m_isinstance (by decide +kernel) (pa_cons (pv 6) (pa_cons (pe_bltn (v := .ty "tuple") (u := .type "tuple") rfl T.m_tuple (by decide +kernel) rfl) pa_nil))) (by intro _; rfl)) (pw_and1 (pt_cmpR op_noU (pe_g I._law_count hg hr rfl T._law_count.mg T._law_count.fn.kp T._law_count.bd (pa_cons (pv 6) pa_nil)) pe_non (nomark _))))) (pss_one (ps_expr (pe_bm PySem.F.plainAttrs_list PySem.F.slot_list_append PySem.F.type_list_append mt_append (pv 3) (pa_cons (pe_g I._law_bent hg hr rfl T._law_bent.mg T._law_bent.fn.kp T._law_bent.bd (pa_cons (pv 0) (pa_cons (pv 6) pa_nil))) pa_nil)))) pss_nil)))))
    (pss_one (ps_ret (pv 3)))))))))),
    (ss_seq (ss_set (se_gp sa_nil))
    (ss_seq (ss_set (se_gp sa_nil))
    (ss_seq (ss_own (sf_lc (j := 5) (si_rng (sa_cons se_int sa_nil)) st_yes (se_glf (sf_own (sf_dat se_var (sf_dat se_var (sf_dat se_int (sf_last (sf_lst (sa_cons se_int sa_nil))))))))))
    (ss_seq (ss_set (se_gp (sa_cons se_var (sa_cons se_var (sa_cons se_int sa_nil)))))
    (ss_seq (ss_own (sf_add se_var (se_f (sf_lst (sa_cons se_var (sa_cons (se_op opd_add (se_sl se_var so_none (so_some se_int)) (se_tup (sa_cons (se_tup (sa_cons (se_op opd_ix se_var se_int) (sa_cons (se_op opd_ix se_var se_int) sa_nil))) sa_nil))) sa_nil))))))
    (ss_seq (ss_own (sf_add se_var (se_f (sf_lst (sa_cons (se_gp (sa_cons se_var (sa_cons se_int sa_nil))) (sa_cons (se_gp (sa_cons se_var (sa_cons se_int sa_nil))) sa_nil))))))
    (ss_seq (ss_for (si_rng (sa_cons se_int sa_nil)) (ss_seq (ss_set (se_gp (sa_cons (se_lget (se_gp (sa_cons se_int sa_nil))) sa_nil)))
    (ss_seq (ss_app se_var)
    (ss_if (st_and (st_tru (se_is isk_tup se_var)) (st_test (se_op opd_no (se_g (sa_cons se_var sa_nil)) se_non))) (ss_app (se_gp (sa_cons se_var sa_nil))) ss_next))))
    (ss_ret se_var))))))))⟩
theorem ok__law_is_question (T : Tx W mg) {k : Nat} (I : All P w base T k) : FnG P w W.K mg base (k + 1) T._law_is_question.f T._law_is_question.fd ["_law_entry"] (SpD W 1 (PhiF (cs (k + 1) 25))) := by
  refine fn_m (m := m__law_is_question (cs k)) T._law_is_question.fn sc__law_is_question rfl rfl fun cdv A outer s H E hg hr => ?_
  exact ⟨_, (pss_cons (ps_if (PW.pt (pw_or (pt_not (ka_tru (K := W.K) rfl (pe_callB (ka_isi (K := W.K) rfl) rfl T.m_isinstance (by decide +kernel) (pa_cons (pv 0) (pa_cons (pe_bltn (v := .ty "tuple") (u := .type "tuple") rfl T.m_tuple (by decide +kernel) rfl) pa_nil))) (by intro _; rfl))) (pw_or (pt_not (pt_chain op_le op_le pe_int (pe_callB (ka_len (K := W.K) rfl) rfl T.m_len (by decide +kernel) (pa_cons (pv 0) pa_nil)) pe_int)) (pw_or1 (pt_not (ka_tru (K := W.K) rfl (pe_g I._law_is_word hg hr rfl T._law_is_word.mg T._law_is_word.fn.kp T._law_is_word.bd (pa_cons (pe_ix (ka_ix (K := W.K) rfl) (pv 0) pe_int (fun _ _ => rfl)) pa_nil)) (by intro _; rfl))))))) (pss_one (ps_ret pe_bl)) pss_nil)
    (pss_one (ps_ret (pe_cmpR (ka_eqNil (K := W.K) (u64 hr) rfl) (pe_lc (own := [("_law_place", 1)]) rfl sc__law_is_question.nd (ka_ptup (K := W.K) rfl (pe_slice (ka_sl (K := W.K) rfl) (pv 0) (po_some pe_int) po_none)) (blkOk_by (own := [("_law_place", 1)]) (N := N__law_is_question) (sc := defScope s__law_is_question) (by decide +kernel)) (fun _ _ _ _ _ => (pg_name (i := 1) sc__law_is_question.nd rfl (by first | exact Or.inl rfl | exact Or.inr rfl))) (fun _ _ _ _ _ => (pts_one (pt_not (ka_tru (K := W.K) rfl (pe_g I._law_is_term hg hr rfl T._law_is_term.mg T._law_is_term.fn.kp T._law_is_term.bd (pa_cons (pv 1) pa_nil)) (by intro _; rfl))))) (fun _ _ _ _ _ => (pv 1))) (pe_lst pa_nil) (nomark _))))),
    (ss_seq (ss_if (st_or (st_not (st_tru (se_is isk_tup se_var))) (st_or (st_not (st_test (se_chain opd_le opd_le se_int (se_cb cd_len (sa_cons se_var sa_nil)) se_int))) (st_not (st_tru (se_g (sa_cons (se_op opd_ix se_var se_int) sa_nil)))))) (ss_ret se_bl) ss_next)
    (ss_ret (se_op opd_eqNil (se_f (sf_lc (j := 1) (si_tup (se_sl se_var (so_some se_int) so_none)) (st_not (st_tru (se_g (sa_cons se_var sa_nil)))) se_var)) (se_f (sf_lst sa_nil)))))⟩
theorem ok__law_asked (T : Tx W mg) {k : Nat} (I : All P w base T k) : FnG P w W.K mg base (k + 1) T._law_asked.f T._law_asked.fd ["_law_pen_here", "_law_lexicon", "_law_letters_here"] (SpD W 3 (PhiF (cs (k + 1) 21))) := by
  refine fn_m (m := m__law_asked (cs k)) T._law_asked.fn sc__law_asked rfl rfl fun cdv A outer s H E hg hr => ?_
  exact ⟨_, (pss_cons (ps_setLc (i := 3) (own := [("_law_k", 4)]) rfl sc__law_asked.nd rfl rfl (sw_true rfl rfl rfl (by decide +kernel)) (pi_range1 rfl T.m_range (pa_cons (pe_op (ka_add (K := W.K) rfl) pe_int (pe_g I._law_draw hg hr rfl T._law_draw.mg T._law_draw.fn.kp T._law_draw.bd (pa_cons (pv 0) (pa_cons pe_int pa_nil)))) pa_nil)) (blkOk_by (own := [("_law_k", 4)]) (N := N__law_asked) (sc := defScope s__law_asked) (by decide +kernel)) (fun _ _ _ _ _ => (pg_name (i := 4) sc__law_asked.nd rfl (by first | exact Or.inl rfl | exact Or.inr rfl))) (fun _ _ _ _ _ => pts_nil) (fun _ _ _ _ _ => (pe_g I._law_term hg hr rfl T._law_term.mg T._law_term.fn.kp T._law_term.bd (pa_cons (pv 0) (pa_cons (pv 1) (pa_cons (pv 2) (pa_cons pe_int (pa_cons (pe_lst (pa_cons pe_int pa_nil)) pa_nil))))))))
    (pss_cons (ps_if (pt_cmpR (ka_eq (K := W.K) (u64 hr) rfl) (pe_g I._law_draw hg hr rfl T._law_draw.mg T._law_draw.fn.kp T._law_draw.bd (pa_cons (pv 0) (pa_cons pe_int pa_nil))) pe_int (nomark _)) (pss_one (ps_asg (pe_g I._law_full hg hr rfl T._law_full.mg T._law_full.fn.kp T._law_full.bd (pa_cons (pv 0) (pa_cons (pv 1) (pa_cons (pv 2) (pa_cons pe_int pa_nil))))) (pg_sub (pv 3) pe_int set_list))) pss_nil)
    (pss_one (ps_ret (pe_op (ka_add (K := W.K) rfl) (pe_tup (pa_cons (pe_ix (ka_ix (K := W.K) rfl) (pv 1) (pe_g I._law_draw hg hr rfl T._law_draw.mg T._law_draw.fn.kp T._law_draw.bd (pa_cons (pv 0) (pa_cons (pe_callB (ka_len (K := W.K) rfl) rfl T.m_len (by decide +kernel) (pa_cons (pv 1) pa_nil)) pa_nil))) (fun _ _ => rfl)) pa_nil)) (pe_callTy (ka_tuple (K := W.K) rfl) rfl T.m_tuple (by decide +kernel) (pa_cons (pv 3) pa_nil))))))),
    (ss_seq (ss_own (sf_lc (j := 4) (si_rng (sa_cons (se_op opd_add se_int (se_gp (sa_cons se_int sa_nil))) sa_nil)) st_yes (se_glf (sf_own (sf_dat se_var (sf_dat se_var (sf_dat se_int (sf_last (sf_lst (sa_cons se_int sa_nil))))))))))
    (ss_seq (ss_if (st_test (se_op opd_eqX (se_gp (sa_cons se_int sa_nil)) se_int)) (ss_lput (se_gp (sa_cons se_var (sa_cons se_var (sa_cons se_int sa_nil))))) ss_next)
    (ss_ret (se_op opd_add (se_tup (sa_cons (se_op opd_ix se_var (se_gp (sa_cons (se_cb cd_len (sa_cons se_var sa_nil)) sa_nil))) sa_nil)) (se_cb cd_tuple (sa_cons se_var sa_nil))))))⟩
theorem ok__law_changed (T : Tx W mg) {k : Nat} (I : All P w base T k) : FnG P w W.K mg base (k + 1) T._law_changed.f T._law_changed.fd ["_law_pen_here", "_law_lexicon", "_law_question"] (SpD W 3 (PhiF (cs (k + 1) 22))) := by
  refine fn_m (m := m__law_changed (cs k)) T._law_changed.fn sc__law_changed rfl rfl fun cdv A outer s H E hg hr => ?_
  exact ⟨_, (pss_cons (ps_set (i := 3) sc__law_changed.nd rfl (by first | exact Or.inl rfl | exact Or.inr rfl) (pe_g I._law_draw hg hr rfl T._law_draw.mg T._law_draw.fn.kp T._law_draw.bd (pa_cons (pv 0) (pa_cons (pe_callB (ka_len (K := W.K) rfl) rfl T.m_len (by decide +kernel) (pa_cons (pv 2) pa_nil)) pa_nil))))
    (pss_cons (ps_set (i := 4) sc__law_changed.nd rfl (by first | exact Or.inl rfl | exact Or.inr rfl) (pe_g I._law_full hg hr rfl T._law_full.mg T._law_full.fn.kp T._law_full.bd (pa_cons (pv 0) (pa_cons (pv 1) (pa_cons (pe_lst (pa_cons pe_str pa_nil)) (pa_cons pe_int pa_nil))))))
    (pss_cons (ps_set (i := 5) sc__law_changed.nd rfl (by first | exact Or.inl rfl | exact Or.inr rfl) (pe_lst (pa_cons (pe_op (ka_add (K := W.K) rfl) (pe_slice (ka_sl (K := W.K) rfl) (pv 2) po_none (po_some (pv 3))) (pe_slice (ka_sl (K := W.K) rfl) (pv 2) (po_some (pe_op (ka_add (K := W.K) rfl) (pv 3) pe_int)) po_none)) (pa_cons (pe_op (ka_add (K := W.K) rfl) (pe_slice (ka_sl (K := W.K) rfl) (pv 2) po_none (po_some (pe_op (ka_add (K := W.K) rfl) (pv 3) pe_int))) (pe_slice (ka_sl (K := W.K) rfl) (pv 2) (po_some (pv 3)) po_none)) (pa_cons (pe_callTy (ka_list (K := W.K) rfl) rfl T.m_list (by decide +kernel) (pa_cons (pv 2) pa_nil)) (pa_cons (pe_slice (ka_sl (K := W.K) rfl) (pv 2) po_none (po_some pe_int)) pa_nil))))))
    (pss_cons (ps_set (i := 5) sc__law_changed.nd rfl (by first | exact Or.inl rfl | exact Or.inr rfl) (pe_op (ka_add (K := W.K) rfl) (pv 5) (pe_lst (pa_cons (pe_op (ka_add (K := W.K) rfl) (pv 2) (pe_tup (pa_cons pe_str pa_nil))) (pa_cons (pe_op (ka_add (K := W.K) rfl) (pv 2) (pe_tup (pa_cons pe_str (pa_cons pe_str pa_nil)))) (pa_cons (pe_tup (pa_cons (pv 2) pa_nil)) (pa_cons (pe_slice (ka_sl (K := W.K) rfl) (pv 2) (po_some pe_int) po_none) (pa_cons (pe_ix (ka_ix (K := W.K) rfl) (pv 2) pe_int (fun _ _ => rfl)) pa_nil))))))))
    (pss_cons (ps_set (i := 5) sc__law_changed.nd rfl (by first | exact Or.inl rfl | exact Or.inr rfl) (pe_op (ka_add (K := W.K) rfl) (pv 5) (pe_lst (pa_cons (pe_op (ka_add (K := W.K) rfl) (pe_slice (ka_sl (K := W.K) rfl) (pv 2) po_none (po_some pe_int)) (pe_tup (pa_cons (pe_tup (pa_cons (pe_ix (ka_ix (K := W.K) rfl) (pv 1) pe_int (fun _ _ => rfl)) (pa_cons (pv 4) pa_nil))) pa_nil))) (pa_cons (pe_op (ka_add (K := W.K) rfl) (pe_slice (ka_sl (K := W.K) rfl) (pv 2) po_none (po_some pe_int)) (pe_tup (pa_cons (pe_g I._law_tower hg hr rfl T._law_tower.mg T._law_tower.fn.kp T._law_tower.bd (pa_cons (pv 0) (pa_cons (pv 1) (pa_cons pe_int pa_nil)))) pa_nil))) pa_nil)))))
    (pss_cons (ps_set (i := 5) sc__law_changed.nd rfl (by first | exact Or.inl rfl | exact Or.inr rfl) (pe_op (ka_add (K := W.K) rfl) (pv 5) (pe_lc (own := [("_law_odd_here", 6)]) rfl sc__law_changed.nd (ka_ptup (K := W.K) rfl (pe_tup (pa_cons pe_str (pa_cons pe_str (pa_cons pe_str (pa_cons pe_non (pa_cons (pe_tup (pa_cons (pe_ix (ka_ix (K := W.K) rfl) (pv 1) pe_int (fun _ _ => rfl)) pa_nil)) pa_nil))))))) (blkOk_by (own := [("_law_odd_here", 6)]) (N := N__law_changed) (sc := defScope s__law_changed) (by decide +kernel)) (fun _ _ _ _ _ => (pg_name (i := 6) sc__law_changed.nd rfl (by first | exact Or.inl rfl | exact Or.inr rfl))) (fun _ _ _ _ _ => pts_nil) (fun _ _ _ _ _ => (pe_op (ka_add (K := W.K) rfl) (pe_tup (pa_cons (pv 6) pa_nil)) (pe_slice (ka_sl (K := W.K) rfl) (pv 2) (po_some pe_int) po_none))))))
    (pss_cons (ps_if (pt_cmpR op_gt (pv 3) pe_int (nomark _)) (pss_one (ps_set (i := 5) sc__law_changed.nd rfl (by first | exact Or.inl rfl | exact Or.inr rfl) (pe_op (ka_add (K := W.K) rfl) (pv 5) (pe_op op_rep (pe_lst (pa_cons (pe_op (ka_add (K := W.K) rfl) (pe_op (ka_add (K := W.K) rfl) (pe_slice (ka_sl (K := W.K) rfl) (pv 2) po_none (po_some (pv 3))) (pe_tup (pa_cons (pe_g I._law_bent hg hr rfl T._law_bent.mg T._law_bent.fn.kp T._law_bent.bd (pa_cons (pv 0) (pa_cons (pe_ix (ka_ix (K := W.K) rfl) (pv 2) (pv 3) (fun _ _ => rfl)) pa_nil))) pa_nil))) (pe_slice (ka_sl (K := W.K) rfl) (pv 2) (po_some (pe_op (ka_add (K := W.K) rfl) (pv 3) pe_int)) po_none)) pa_nil)) pe_int)))) pss_nil)
    (pss_one (ps_ret (pe_ix (ka_ix (K := W.K) rfl) (pv 5) (pe_g I._law_draw hg hr rfl T._law_draw.mg T._law_draw.fn.kp T._law_draw.bd (pa_cons (pv 0) (pa_cons (pe_callB (ka_len (K := W.K) rfl) rfl T.m_len (by decide +kernel) (pa_cons (pv 5) pa_nil)) pa_nil))) (fun _ _ => rfl))))))))))),
    (ss_seq (ss_set (se_gp (sa_cons (se_cb cd_len (sa_cons se_var sa_nil)) sa_nil)))
    (ss_seq (ss_set (se_gp (sa_cons se_var (sa_cons (se_f (sf_lst (sa_cons se_str sa_nil))) (sa_cons se_int sa_nil)))))
    (ss_seq (ss_set (se_f (sf_lst (sa_cons (se_op opd_add (se_sl se_var so_none (so_some se_var)) (se_sl se_var (so_some (se_op opd_add se_var se_int)) so_none)) (sa_cons (se_op opd_add (se_sl se_var so_none (so_some (se_op opd_add se_var se_int))) (se_sl se_var (so_some se_var) so_none)) (sa_cons (se_f (sf_list (sa_cons se_var sa_nil))) (sa_cons (se_sl se_var so_none (so_some se_int)) sa_nil)))))))
    (ss_seq (ss_set (se_op opd_add se_var (se_f (sf_lst (sa_cons (se_op opd_add se_var (se_tup (sa_cons se_str sa_nil))) (sa_cons (se_op opd_add se_var (se_tup (sa_cons se_str (sa_cons se_str sa_nil)))) (sa_cons (se_tup (sa_cons se_var sa_nil)) (sa_cons (se_sl se_var (so_some se_int) so_none) (sa_cons (se_op opd_ix se_var se_int) sa_nil)))))))))
    (ss_seq (ss_set (se_op opd_add se_var (se_f (sf_lst (sa_cons (se_op opd_add (se_sl se_var so_none (so_some se_int)) (se_tup (sa_cons (se_tup (sa_cons (se_op opd_ix se_var se_int) (sa_cons se_var sa_nil))) sa_nil))) (sa_cons (se_op opd_add (se_sl se_var so_none (so_some se_int)) (se_tup (sa_cons (se_gp (sa_cons se_var (sa_cons se_int sa_nil))) sa_nil))) sa_nil))))))
    (ss_seq (ss_set (se_op opd_add se_var (se_f (sf_lc (j := 6) (si_tup (se_tup (sa_cons se_str (sa_cons se_str (sa_cons se_str (sa_cons se_non (sa_cons (se_tup (sa_cons (se_op opd_ix se_var se_int) sa_nil)) sa_nil))))))) st_yes (se_op opd_add (se_tup (sa_cons se_var sa_nil)) (se_sl se_var (so_some se_int) so_none))))))
    (ss_seq (ss_if (st_test (se_op opd_gt se_var se_int)) (ss_set (se_op opd_add se_var (se_op opd_rep (se_f (sf_lst (sa_cons (se_op opd_add (se_op opd_add (se_sl se_var so_none (so_some se_var)) (se_tup (sa_cons (se_gp (sa_cons (se_op opd_ix se_var se_var) sa_nil)) sa_nil))) (se_sl se_var (so_some (se_op opd_add se_var se_int)) so_none)) sa_nil))) se_int))) ss_next)
    (ss_ret (se_op opd_ix se_var (se_gp (sa_cons (se_cb cd_len (sa_cons se_var sa_nil)) sa_nil)))))))))))⟩
theorem ok__law_terms_right (T : Tx W mg) {k : Nat} (I : All P w base T k) : FnG P w W.K mg base (k + 1) T._law_terms_right.f T._law_terms_right.fd ["_law_pen_here"] (SpD W 1 (PhiF (cs (k + 1) 20))) := by
  refine fn_m (m := m__law_terms_right (cs k)) T._law_terms_right.fn sc__law_terms_right rfl rfl fun cdv A outer s H E hg hr => ?_
  exact ⟨_, (pss_cons (ps_set (i := 1) sc__law_terms_right.nd rfl (by first | exact Or.inl rfl | exact Or.inr rfl) (pe_lst (pa_cons pe_non (pa_cons pe_bl (pa_cons pe_bl (pa_cons pe_int (pa_cons pe_int (pa_cons pe_str (pa_cons (pe_tup pa_nil) (pa_cons (pe_lst pa_nil) (pa_cons pe_dnewK (pa_cons pe_str (pa_cons (pe_lst (pa_cons pe_str pa_nil)) (pa_cons (pe_tup (pa_cons pe_str (pa_cons (pe_tup pa_nil) pa_nil))) (pa_cons (pe_tup (pa_cons (pe_tup (pa_cons pe_str pa_nil)) pa_nil)) pa_nil)))))))))))))))
    (pss_cons (ps_set (i := 1) sc__law_terms_right.nd rfl (by first | exact Or.inl rfl | exact Or.inr rfl) (pe_op (ka_add (K := W.K) rfl) (pv 1) (pe_lst (pa_cons (pe_tup (pa_cons pe_str pa_nil)) (pa_cons pe_str (pa_cons (pe_tup (pa_cons pe_str (pa_cons pe_str pa_nil))) (pa_cons (pe_tup (pa_cons pe_str (pa_cons pe_str pa_nil))) pa_nil)))))))
    (pss_cons (ps_for PassesOwn.never rfl (ka_plist (K := W.K) rfl (pe_op (ka_add (K := W.K) rfl) (pe_g I._law_things hg hr rfl T._law_things.mg T._law_things.fn.kp T._law_things.bd (pa_cons (pv 0) pa_nil)) (pv 1))) (pg_name (i := 2) sc__law_terms_right.nd rfl (by first | exact Or.inl rfl | exact Or.inr rfl)) (pss_cons (ps_set (i := 3) sc__law_terms_right.nd rfl (by first | exact Or.inl rfl | exact Or.inr rfl) (pe_callB (ka_repr (K := W.K) hg (u64 hr) rfl) rfl T.m_repr (by decide +kernel) (pa_cons (pv 2) pa_nil)))
    (pss_cons (ps_set (i := 4) sc__law_terms_right.nd rfl (by first | exact Or.inl rfl | exact Or.inr rfl) (pe_callB (ka_repr (K := W.K) hg (u64 hr) rfl) rfl T.m_repr (by decide +kernel) (pa_cons (pe_op op_rep (pe_lst (pa_cons (pe_g I._law_is_term hg hr rfl T._law_is_term.mg T._law_is_term.fn.kp T._law_is_term.bd (pa_cons (pv 2) pa_nil)) pa_nil)) pe_int) pa_nil)))
    (pss_one (ps_if (PW.pt (pw_or (pt_cmpR (ka_ne (K := W.K) (u64 hr) rfl) (pe_callB (ka_repr (K := W.K) hg (u64 hr) rfl) rfl T.m_repr (by decide +kernel) (pa_cons (pe_lst (pa_cons (pe_g I.is_term hg hr rfl T.is_term.mg T.is_term.fn.kp T.is_term.bd (pa_cons (pv 2) pa_nil)) (pa_cons (pe_gK I.is_term hg hr rfl T.is_term.mg T.is_term.fn.kp T.k_is_term_thing (pk_cons (pv 2) pk_nil)) pa_nil))) pa_nil)) (pv 4) (nomark _)) (pw_or1 (pt_cmpR (ka_ne (K := W.K) (u64 hr) rfl) (pe_callB (ka_repr (K := W.K) hg (u64 hr) rfl) rfl T.m_repr (by decide +kernel) (pa_cons (pv 2) pa_nil)) (pv 3) (nomark _))))) (pss_one (ps_ret pe_bl)) pss_nil)))))
    (pss_one (ps_ret (pe_and (pe_cmpR op_isU (pe_g I.is_term hg hr rfl T.is_term.mg T.is_term.fn.kp T.is_term.bd (pa_cons (pe_tup (pa_cons pe_str pa_nil)) pa_nil)) pe_bl (nomark _)) (pe_and (pe_cmpR op_isU (pe_g I.is_term hg hr rfl T.is_term.mg T.is_term.fn.kp T.is_term.bd (pa_cons pe_str pa_nil)) pe_bl (nomark _)) (pe_one (pe_cmpR op_isU (pe_g I.is_term hg hr rfl T.is_term.mg T.is_term.fn.kp T.is_term.bd (pa_cons pe_str pa_nil)) pe_bl (nomark _)))))))))),
    (ss_seq (ss_set (se_f (sf_lst (sa_cons se_non (sa_cons se_bl (sa_cons se_bl (sa_cons se_int (sa_cons se_int (sa_cons se_str (sa_cons (se_tup sa_nil) (sa_cons (se_f (sf_lst sa_nil)) (sa_cons se_dnew (sa_cons se_str (sa_cons (se_f (sf_lst (sa_cons se_str sa_nil))) (sa_cons (se_tup (sa_cons se_str (sa_cons (se_tup sa_nil) sa_nil))) (sa_cons (se_tup (sa_cons (se_tup (sa_cons se_str sa_nil)) sa_nil)) sa_nil))))))))))))))))
    (ss_seq (ss_set (se_op opd_add se_var (se_f (sf_lst (sa_cons (se_tup (sa_cons se_str sa_nil)) (sa_cons se_str (sa_cons (se_tup (sa_cons se_str (sa_cons se_str sa_nil))) (sa_cons (se_tup (sa_cons se_str (sa_cons se_str sa_nil))) sa_nil))))))))
    (ss_seq (ss_for (si_list (se_op opd_add (se_gp sa_nil) se_var)) (ss_seq (ss_set (se_repr (sa_cons se_var sa_nil)))
    (ss_seq (ss_set (se_repr (sa_cons (se_op opd_rep (se_f (sf_lst (sa_cons (se_g (sa_cons se_var sa_nil)) sa_nil))) se_int) sa_nil)))
    (ss_if (st_or (st_test (se_op opd_neX (se_repr (sa_cons (se_f (sf_lst (sa_cons (se_g (sa_cons se_var sa_nil)) (sa_cons (se_gK (sa_cons se_var sa_nil)) sa_nil)))) sa_nil)) se_var)) (st_test (se_op opd_neX (se_repr (sa_cons se_var sa_nil)) se_var))) (ss_ret se_bl) ss_next))))
    (ss_ret (se_andV (se_op opd_is (se_g (sa_cons (se_tup (sa_cons se_str sa_nil)) sa_nil)) se_bl) (se_andV (se_op opd_is (se_g (sa_cons se_str sa_nil)) se_bl) (se_op opd_is (se_g (sa_cons se_str sa_nil)) se_bl)))))))⟩
theorem all (T : Tx W mg) : ∀ k, All P w base T k
  | 0 => ⟨fn_none rfl, fn_none rfl, fn_none rfl, fn_none rfl, fn_none rfl, fn_none rfl, fn_none rfl, fn_none rfl, fn_none rfl, fn_none rfl, fn_none rfl, fn_none rfl, fn_none rfl, fn_none rfl, fn_none rfl, fn_none rfl, fn_none rfl, fn_none rfl, fn_none rfl, fn_none rfl, fn_none rfl, fn_none rfl, fn_none rfl, fn_none rfl, fn_none rfl, fn_none rfl⟩
  | k + 1 => let I := all T k; ⟨ok_is_name T I, ok_is_dotted T I, ok_is_word T I, ok_is_member_word T I, ok_is_variable T I, ok_is_piece T I, ok_is_within T I, ok_is_term T I, ok_is_question T I, ok__law_draw T I, ok__law_names T I, ok__law_words T I, ok__law_letters T I, ok__law_term T I, ok__law_odd T I, ok__law_bent T I, ok__law_is_word T I, ok__law_count T I, ok__law_is_term T I, ok__law_full T I, ok__law_tower T I, ok__law_things T I, ok__law_is_question T I, ok__law_asked T I, ok__law_changed T I, ok__law_terms_right T I⟩
theorem ok__law_pen (T : Tx W mg) {k : Nat} : FnG P w W.K mg base (k + 1) T._law_pen.f T._law_pen.fd ["_law_script"] (SpPen W) := by
  refine fn_pen T._law_pen.fn sc__law_pen fun cdv A outer s H E hg hr => ?_
  exact (pss_one (ps_ret (pe_disp (pps_cons pe_str (pe_callTy (ka_list (K := W.K) rfl) rfl T.m_list (by decide +kernel) (pa_cons (pe_slice (ka_sl (K := W.K) rfl) (pv 0) po_none (po_some pe_int)) pa_nil)) (pps_cons pe_str pe_int (pps_cons pe_str pe_int pps_nil))) (by rfl) (by rfl) (fun z => by cases z) (by decide))))
theorem ok_law (T : Tx W mg) {k : Nat} (hk1 : 1 ≤ k) (I : All P w base T k) : FnG P w W.K mg base (k + 1) T.law.f T.law.fd ["_law_script"] (SpD W 1 (PhiF (defM 1 10 (m_law (cs k))))) := by
  have hpen := ok__law_pen (P := P) (w := w) (base := base) T (k := 0)
  refine fn_m (m := m_law (cs k)) T.law.fn sc_law rfl rfl fun cdv A outer s H E hg hr => ?_
  exact ⟨_, (pss_cons (ps_set (i := 1) sc_law.nd rfl (by first | exact Or.inl rfl | exact Or.inr rfl) (pe_g hpen hg (hr.mono hk1) rfl T._law_pen.mg T._law_pen.fn.kp T._law_pen.bd (pa_cons (pv 0) pa_nil)))
    (pss_cons (ps_if (pt_not (ka_tru (K := W.K) rfl (pe_g I._law_terms_right hg hr rfl T._law_terms_right.mg T._law_terms_right.fn.kp T._law_terms_right.bd (pa_cons (pv 1) pa_nil)) (by intro _; rfl))) (pss_one (ps_ret pe_bl)) pss_nil)
    (pss_cons (ps_set (i := 2) sc_law.nd rfl (by first | exact Or.inl rfl | exact Or.inr rfl) (pe_g I._law_words hg hr rfl T._law_words.mg T._law_words.fn.kp T._law_words.bd (pa_cons (pv 1) pa_nil)))
    (pss_cons (ps_set (i := 3) sc_law.nd rfl (by first | exact Or.inl rfl | exact Or.inr rfl) (pe_g I._law_letters hg hr rfl T._law_letters.mg T._law_letters.fn.kp T._law_letters.bd (pa_cons (pv 1) pa_nil)))
    (pss_cons (ps_set (i := 4) sc_law.nd rfl (by first | exact Or.inl rfl | exact Or.inr rfl) (pe_lst (pa_cons pe_non (pa_cons pe_bl (pa_cons pe_int (pa_cons pe_str (pa_cons pe_str (pa_cons (pe_tup pa_nil) (pa_cons (pe_lst pa_nil) (pa_cons pe_dnewK (pa_cons (pe_tup (pa_cons pe_str pa_nil)) (pa_cons (pe_tup (pa_cons pe_str (pa_cons pe_str pa_nil))) (pa_cons (pe_lst (pa_cons pe_str (pa_cons pe_str pa_nil))) (pa_cons (pe_tup (pa_cons pe_str (pa_cons pe_str pa_nil))) pa_nil))))))))))))))
    (pss_cons (ps_set (i := 4) sc_law.nd rfl (by first | exact Or.inl rfl | exact Or.inr rfl) (pe_op (ka_add (K := W.K) rfl) (pv 4) (pe_lst (pa_cons (pe_tup (pa_cons pe_str (pa_cons pe_str pa_nil))) (pa_cons (pe_tup (pa_cons pe_str (pa_cons pe_str pa_nil))) (pa_cons (pe_tup (pa_cons pe_str (pa_cons (pe_tup (pa_cons pe_str pa_nil)) pa_nil))) pa_nil))))))
    (pss_cons (ps_for PassesOwn.never rfl (pi_range1 rfl T.m_range (pa_cons pe_int pa_nil)) (pg_name (i := 5) sc_law.nd rfl (by first | exact Or.inl rfl | exact Or.inr rfl)) (pss_cons (ps_set (i := 6) sc_law.nd rfl (by first | exact Or.inl rfl | exact Or.inr rfl) (pe_g I._law_asked hg hr rfl T._law_asked.mg T._law_asked.fn.kp T._law_asked.bd (pa_cons (pv 1) (pa_cons (pv 2) (pa_cons (pv 3) pa_nil)))))
    (pss_cons (ps_expr (pe_bm PySem.F.plainAttrs_list PySem.F.slot_list_append PySem.F.type_list_append mt_append (pv 4) (pa_cons (pv 6) pa_nil)))
    (pss_cons (ps_expr (pe_bm PySem.F.plainAttrs_list PySem.F.slot_list_append PySem.F.type_list_append mt_append (pv 4) (pa_cons (pe_g I._law_changed hg hr rfl T._law_changed.mg T._law_changed.fn.kp T._law_changed.bd (pa_cons (pv 1) (pa_cons (pv 2) (pa_cons (pv 6) pa_nil)))) pa_nil)))
    (pss_one (ps_expr (pe_bm PySem.F.plainAttrs_list PySem.F.slot_list_append PySem.F.type_list_append mt_append (pv 4) (pa_cons (pe_g I._law_changed hg hr rfl T._law_changed.mg T._law_changed.fn.kp T._law_changed.bd (pa_cons (pv 1) (pa_cons (pv 2) (pa_cons (pv 6) pa_nil)))) pa_nil))))))))
    (pss_cons (ps_for PassesOwn.never rfl (ka_plist (K := W.K) rfl (pv 4)) (pg_name (i := 7) sc_law.nd rfl (by first | exact Or.inl rfl | exact Or.inr rfl)) (pss_cons (ps_set (i := 8) sc_law.nd rfl (by first | exact Or.inl rfl | exact Or.inr rfl) (pe_callB (ka_repr (K := W.K) hg (u64 hr) rfl) rfl T.m_repr (by decide +kernel) (pa_cons (pv 7) pa_nil)))
    (pss_cons (ps_set (i := 9) sc_law.nd rfl (by first | exact Or.inl rfl | exact Or.inr rfl) (pe_callB (ka_repr (K := W.K) hg (u64 hr) rfl) rfl T.m_repr (by decide +kernel) (pa_cons (pe_op op_rep (pe_lst (pa_cons (pe_g I._law_is_question hg hr rfl T._law_is_question.mg T._law_is_question.fn.kp T._law_is_question.bd (pa_cons (pv 7) pa_nil)) pa_nil)) pe_int) pa_nil)))
    (pss_one (ps_if (PW.pt (pw_or (pt_cmpR (ka_ne (K := W.K) (u64 hr) rfl) (pe_callB (ka_repr (K := W.K) hg (u64 hr) rfl) rfl T.m_repr (by decide +kernel) (pa_cons (pe_lst (pa_cons (pe_g I.is_question hg hr rfl T.is_question.mg T.is_question.fn.kp T.is_question.bd (pa_cons (pv 7) pa_nil)) (pa_cons (pe_gK I.is_question hg hr rfl T.is_question.mg T.is_question.fn.kp T.k_is_question_thing (pk_cons (pv 7) pk_nil)) pa_nil))) pa_nil)) (pv 9) (nomark _)) (pw_or1 (pt_cmpR (ka_ne (K := W.K) (u64 hr) rfl) (pe_callB (ka_repr (K := W.K) hg (u64 hr) rfl) rfl T.m_repr (by decide +kernel) (pa_cons (pv 7) pa_nil)) (pv 8) (nomark _))))) (pss_one (ps_ret pe_bl)) pss_nil)))))
    (pss_one (ps_ret (pe_cmpR op_isU (pe_g I.is_question hg hr rfl T.is_question.mg T.is_question.fn.kp T.is_question.bd (pa_cons (pe_tup (pa_cons pe_str (pa_cons (pe_tup (pa_cons pe_str (pa_cons pe_str pa_nil))) pa_nil))) pa_nil)) pe_bl (nomark _)))))))))))),
    (ss_seq ss_pen
    (ss_seq (ss_if (st_not (st_tru (se_gp sa_nil))) (ss_ret se_bl) ss_next)
    (ss_seq (ss_set (se_gp sa_nil))
    (ss_seq (ss_set (se_gp sa_nil))
    (ss_seq (ss_own (sf_lst (sa_cons se_non (sa_cons se_bl (sa_cons se_int (sa_cons se_str (sa_cons se_str (sa_cons (se_tup sa_nil) (sa_cons (se_f (sf_lst sa_nil)) (sa_cons se_dnew (sa_cons (se_tup (sa_cons se_str sa_nil)) (sa_cons (se_tup (sa_cons se_str (sa_cons se_str sa_nil))) (sa_cons (se_f (sf_lst (sa_cons se_str (sa_cons se_str sa_nil)))) (sa_cons (se_tup (sa_cons se_str (sa_cons se_str sa_nil))) sa_nil))))))))))))))
    (ss_seq (ss_own (sf_add se_var (se_f (sf_lst (sa_cons (se_tup (sa_cons se_str (sa_cons se_str sa_nil))) (sa_cons (se_tup (sa_cons se_str (sa_cons se_str sa_nil))) (sa_cons (se_tup (sa_cons se_str (sa_cons (se_tup (sa_cons se_str sa_nil)) sa_nil))) sa_nil)))))))
    (ss_seq (ss_for (si_rng (sa_cons se_int sa_nil)) (ss_seq (ss_set (se_gp (sa_cons se_var (sa_cons se_var sa_nil))))
    (ss_seq (ss_app se_var)
    (ss_seq (ss_app (se_gp (sa_cons se_var (sa_cons se_var sa_nil))))
    (ss_app (se_gp (sa_cons se_var (sa_cons se_var sa_nil))))))))
    (ss_seq (ss_for (si_list se_var) (ss_seq (ss_set (se_repr (sa_cons se_var sa_nil)))
    (ss_seq (ss_set (se_repr (sa_cons (se_op opd_rep (se_f (sf_lst (sa_cons (se_g (sa_cons se_var sa_nil)) sa_nil))) se_int) sa_nil)))
    (ss_if (st_or (st_test (se_op opd_neX (se_repr (sa_cons (se_f (sf_lst (sa_cons (se_g (sa_cons se_var sa_nil)) (sa_cons (se_gK (sa_cons se_var sa_nil)) sa_nil)))) sa_nil)) se_var)) (st_test (se_op opd_neX (se_repr (sa_cons se_var sa_nil)) se_var))) (ss_ret se_bl) ss_next))))
    (ss_ret (se_op opd_is (se_g (sa_cons (se_tup (sa_cons se_str (sa_cons (se_tup (sa_cons se_str (sa_cons se_str sa_nil))) sa_nil))) sa_nil)) se_bl))))))))))⟩
abbrev lawF : Fm := defM 1 10 (m_law (cs 30))
theorem facts {P : Program} {w : World} {K : PySem.W.Frag} {h : Heap} {mg : Str → Option Value} {fa : Addr} (KX : K.In h) (G : h.Ns mainGlobals mg) (hfa : mg "law" = some (.ref fa))
    {fx_is_name : Addr} {od_is_name an_is_name : Option Addr} {sl_is_name : Array (Option Value)} {oc_is_name kV_is_name dc_is_name pm_is_name cd_is_name ct_is_name : Value}
    {fx_is_dotted : Addr} {od_is_dotted an_is_dotted : Option Addr} {sl_is_dotted : Array (Option Value)} {oc_is_dotted kV_is_dotted dc_is_dotted pm_is_dotted cd_is_dotted ct_is_dotted : Value}
    {fx_is_word : Addr} {od_is_word an_is_word : Option Addr} {sl_is_word : Array (Option Value)} {oc_is_word kV_is_word dc_is_word pm_is_word cd_is_word ct_is_word : Value}
    {fx_is_member_word : Addr} {od_is_member_word an_is_member_word : Option Addr} {sl_is_member_word : Array (Option Value)} {oc_is_member_word kV_is_member_word dc_is_member_word pm_is_member_word cd_is_member_word ct_is_member_word : Value}
    {fx_is_variable : Addr} {od_is_variable an_is_variable : Option Addr} {sl_is_variable : Array (Option Value)} {oc_is_variable kV_is_variable dc_is_variable pm_is_variable cd_is_variable ct_is_variable : Value}
    {fx_is_piece : Addr} {od_is_piece an_is_piece : Option Addr} {sl_is_piece : Array (Option Value)} {oc_is_piece kV_is_piece dc_is_piece pm_is_piece cd_is_piece ct_is_piece : Value}
    {fx_is_within : Addr} {od_is_within an_is_within : Option Addr} {sl_is_within : Array (Option Value)} {oc_is_within kV_is_within dc_is_within pm_is_within cd_is_within ct_is_within : Value}
    {fx_is_term : Addr} {od_is_term an_is_term : Option Addr} {sl_is_term : Array (Option Value)} {oc_is_term kV_is_term dc_is_term pm_is_term cd_is_term ct_is_term : Value}
    {fx_is_question : Addr} {od_is_question an_is_question : Option Addr} {sl_is_question : Array (Option Value)} {oc_is_question kV_is_question dc_is_question pm_is_question cd_is_question ct_is_question : Value}
    {fx__law_pen : Addr} {od__law_pen an__law_pen : Option Addr} {sl__law_pen : Array (Option Value)} {oc__law_pen kV__law_pen dc__law_pen pm__law_pen cd__law_pen ct__law_pen : Value}
    {fx__law_draw : Addr} {od__law_draw an__law_draw : Option Addr} {sl__law_draw : Array (Option Value)} {oc__law_draw kV__law_draw dc__law_draw pm__law_draw cd__law_draw ct__law_draw : Value}
    {fx__law_names : Addr} {od__law_names an__law_names : Option Addr} {sl__law_names : Array (Option Value)} {oc__law_names kV__law_names dc__law_names pm__law_names cd__law_names ct__law_names : Value}
    {fx__law_words : Addr} {od__law_words an__law_words : Option Addr} {sl__law_words : Array (Option Value)} {oc__law_words kV__law_words dc__law_words pm__law_words cd__law_words ct__law_words : Value}
    {fx__law_letters : Addr} {od__law_letters an__law_letters : Option Addr} {sl__law_letters : Array (Option Value)} {oc__law_letters kV__law_letters dc__law_letters pm__law_letters cd__law_letters ct__law_letters : Value}
    {fx__law_term : Addr} {od__law_term an__law_term : Option Addr} {sl__law_term : Array (Option Value)} {oc__law_term kV__law_term dc__law_term pm__law_term cd__law_term ct__law_term : Value}
    {fx__law_odd : Addr} {od__law_odd an__law_odd : Option Addr} {sl__law_odd : Array (Option Value)} {oc__law_odd kV__law_odd dc__law_odd pm__law_odd cd__law_odd ct__law_odd : Value}
    {fx__law_bent : Addr} {od__law_bent an__law_bent : Option Addr} {sl__law_bent : Array (Option Value)} {oc__law_bent kV__law_bent dc__law_bent pm__law_bent cd__law_bent ct__law_bent : Value}
    {fx__law_is_word : Addr} {od__law_is_word an__law_is_word : Option Addr} {sl__law_is_word : Array (Option Value)} {oc__law_is_word kV__law_is_word dc__law_is_word pm__law_is_word cd__law_is_word ct__law_is_word : Value}
    {fx__law_count : Addr} {od__law_count an__law_count : Option Addr} {sl__law_count : Array (Option Value)} {oc__law_count kV__law_count dc__law_count pm__law_count cd__law_count ct__law_count : Value}
    {fx__law_is_term : Addr} {od__law_is_term an__law_is_term : Option Addr} {sl__law_is_term : Array (Option Value)} {oc__law_is_term kV__law_is_term dc__law_is_term pm__law_is_term cd__law_is_term ct__law_is_term : Value}
    {fx__law_full : Addr} {od__law_full an__law_full : Option Addr} {sl__law_full : Array (Option Value)} {oc__law_full kV__law_full dc__law_full pm__law_full cd__law_full ct__law_full : Value}
    {fx__law_tower : Addr} {od__law_tower an__law_tower : Option Addr} {sl__law_tower : Array (Option Value)} {oc__law_tower kV__law_tower dc__law_tower pm__law_tower cd__law_tower ct__law_tower : Value}
    {fx__law_things : Addr} {od__law_things an__law_things : Option Addr} {sl__law_things : Array (Option Value)} {oc__law_things kV__law_things dc__law_things pm__law_things cd__law_things ct__law_things : Value}
    {fx__law_is_question : Addr} {od__law_is_question an__law_is_question : Option Addr} {sl__law_is_question : Array (Option Value)} {oc__law_is_question kV__law_is_question dc__law_is_question pm__law_is_question cd__law_is_question ct__law_is_question : Value}
    {fx__law_asked : Addr} {od__law_asked an__law_asked : Option Addr} {sl__law_asked : Array (Option Value)} {oc__law_asked kV__law_asked dc__law_asked pm__law_asked cd__law_asked ct__law_asked : Value}
    {fx__law_changed : Addr} {od__law_changed an__law_changed : Option Addr} {sl__law_changed : Array (Option Value)} {oc__law_changed kV__law_changed dc__law_changed pm__law_changed cd__law_changed ct__law_changed : Value}
    {fx__law_terms_right : Addr} {od__law_terms_right an__law_terms_right : Option Addr} {sl__law_terms_right : Array (Option Value)} {oc__law_terms_right kV__law_terms_right dc__law_terms_right pm__law_terms_right cd__law_terms_right ct__law_terms_right : Value}
    {fx_law : Addr} {od_law an_law : Option Addr} {sl_law : Array (Option Value)} {oc_law kV_law dc_law pm_law cd_law ct_law : Value}
    {tk_LONGEST_NAME : _}
    {tk_LONGEST_VARIABLE : _}
    {tk_SMALL : _}
    {tk_LARGE : _}
    {tk_DIGITS : _}
    {tk_TAKEN0 : _} {tk_TAKEN1 : _} {fx_TAKEN : Addr} {od_TAKEN : Option Addr} {sl_TAKEN : Array (Option Value)} {n_TAKEN : Nat}
    {tk_MOST_SYMBOLS : _}
    {tk_MOST_DEEP : _}
    {tk_MOST_PARTS : _}
    {tk_MOST_PLACES : _}
    (a_is_name : PySem.W.nsIn K mainGlobals "is_name" = some (some (.ref fx_is_name)))
    (l_is_name : K.lookup fx_is_name = some ⟨oc_is_name, od_is_name, .func (PySem.W.fnOf "is_name" "is_name" (defArgs s_is_name) (defBody s_is_name) (defScope s_is_name) .none kV_is_name dc_is_name pm_is_name an_is_name cd_is_name ct_is_name), sl_is_name⟩)
    (c_is_name : PySem.W.codeIn K cd_is_name "is_name" = true)
    (k_is_name : PySem.W.keepIn K (.ref fx_is_name) = true)
    (a_is_dotted : PySem.W.nsIn K mainGlobals "is_dotted" = some (some (.ref fx_is_dotted)))
    (l_is_dotted : K.lookup fx_is_dotted = some ⟨oc_is_dotted, od_is_dotted, .func (PySem.W.fnOf "is_dotted" "is_dotted" (defArgs s_is_dotted) (defBody s_is_dotted) (defScope s_is_dotted) .none kV_is_dotted dc_is_dotted pm_is_dotted an_is_dotted cd_is_dotted ct_is_dotted), sl_is_dotted⟩)
    (c_is_dotted : PySem.W.codeIn K cd_is_dotted "is_dotted" = true)
    (k_is_dotted : PySem.W.keepIn K (.ref fx_is_dotted) = true)
    (a_is_word : PySem.W.nsIn K mainGlobals "is_word" = some (some (.ref fx_is_word)))
    (l_is_word : K.lookup fx_is_word = some ⟨oc_is_word, od_is_word, .func (PySem.W.fnOf "is_word" "is_word" (defArgs s_is_word) (defBody s_is_word) (defScope s_is_word) .none kV_is_word dc_is_word pm_is_word an_is_word cd_is_word ct_is_word), sl_is_word⟩)
    (c_is_word : PySem.W.codeIn K cd_is_word "is_word" = true)
    (k_is_word : PySem.W.keepIn K (.ref fx_is_word) = true)
    (a_is_member_word : PySem.W.nsIn K mainGlobals "is_member_word" = some (some (.ref fx_is_member_word)))
    (l_is_member_word : K.lookup fx_is_member_word = some ⟨oc_is_member_word, od_is_member_word, .func (PySem.W.fnOf "is_member_word" "is_member_word" (defArgs s_is_member_word) (defBody s_is_member_word) (defScope s_is_member_word) .none kV_is_member_word dc_is_member_word pm_is_member_word an_is_member_word cd_is_member_word ct_is_member_word), sl_is_member_word⟩)
    (c_is_member_word : PySem.W.codeIn K cd_is_member_word "is_member_word" = true)
    (k_is_member_word : PySem.W.keepIn K (.ref fx_is_member_word) = true)
    (a_is_variable : PySem.W.nsIn K mainGlobals "is_variable" = some (some (.ref fx_is_variable)))
    (l_is_variable : K.lookup fx_is_variable = some ⟨oc_is_variable, od_is_variable, .func (PySem.W.fnOf "is_variable" "is_variable" (defArgs s_is_variable) (defBody s_is_variable) (defScope s_is_variable) .none kV_is_variable dc_is_variable pm_is_variable an_is_variable cd_is_variable ct_is_variable), sl_is_variable⟩)
    (c_is_variable : PySem.W.codeIn K cd_is_variable "is_variable" = true)
    (k_is_variable : PySem.W.keepIn K (.ref fx_is_variable) = true)
    (a_is_piece : PySem.W.nsIn K mainGlobals "is_piece" = some (some (.ref fx_is_piece)))
    (l_is_piece : K.lookup fx_is_piece = some ⟨oc_is_piece, od_is_piece, .func (PySem.W.fnOf "is_piece" "is_piece" (defArgs s_is_piece) (defBody s_is_piece) (defScope s_is_piece) .none kV_is_piece dc_is_piece pm_is_piece an_is_piece cd_is_piece ct_is_piece), sl_is_piece⟩)
    (c_is_piece : PySem.W.codeIn K cd_is_piece "is_piece" = true)
    (k_is_piece : PySem.W.keepIn K (.ref fx_is_piece) = true)
    (a_is_within : PySem.W.nsIn K mainGlobals "is_within" = some (some (.ref fx_is_within)))
    (l_is_within : K.lookup fx_is_within = some ⟨oc_is_within, od_is_within, .func (PySem.W.fnOf "is_within" "is_within" (defArgs s_is_within) (defBody s_is_within) (defScope s_is_within) .none kV_is_within dc_is_within pm_is_within an_is_within cd_is_within ct_is_within), sl_is_within⟩)
    (c_is_within : PySem.W.codeIn K cd_is_within "is_within" = true)
    (k_is_within : PySem.W.keepIn K (.ref fx_is_within) = true)
    (a_is_term : PySem.W.nsIn K mainGlobals "is_term" = some (some (.ref fx_is_term)))
    (l_is_term : K.lookup fx_is_term = some ⟨oc_is_term, od_is_term, .func (PySem.W.fnOf "is_term" "is_term" (defArgs s_is_term) (defBody s_is_term) (defScope s_is_term) .none kV_is_term dc_is_term pm_is_term an_is_term cd_is_term ct_is_term), sl_is_term⟩)
    (c_is_term : PySem.W.codeIn K cd_is_term "is_term" = true)
    (k_is_term : PySem.W.keepIn K (.ref fx_is_term) = true)
    (a_is_question : PySem.W.nsIn K mainGlobals "is_question" = some (some (.ref fx_is_question)))
    (l_is_question : K.lookup fx_is_question = some ⟨oc_is_question, od_is_question, .func (PySem.W.fnOf "is_question" "is_question" (defArgs s_is_question) (defBody s_is_question) (defScope s_is_question) .none kV_is_question dc_is_question pm_is_question an_is_question cd_is_question ct_is_question), sl_is_question⟩)
    (c_is_question : PySem.W.codeIn K cd_is_question "is_question" = true)
    (k_is_question : PySem.W.keepIn K (.ref fx_is_question) = true)
    (a__law_pen : PySem.W.nsIn K mainGlobals "_law_pen" = some (some (.ref fx__law_pen)))
    (l__law_pen : K.lookup fx__law_pen = some ⟨oc__law_pen, od__law_pen, .func (PySem.W.fnOf "_law_pen" "_law_pen" (defArgs s__law_pen) (defBody s__law_pen) (defScope s__law_pen) .none kV__law_pen dc__law_pen pm__law_pen an__law_pen cd__law_pen ct__law_pen), sl__law_pen⟩)
    (c__law_pen : PySem.W.codeIn K cd__law_pen "_law_pen" = true)
    (k__law_pen : PySem.W.keepIn K (.ref fx__law_pen) = true)
    (a__law_draw : PySem.W.nsIn K mainGlobals "_law_draw" = some (some (.ref fx__law_draw)))
    (l__law_draw : K.lookup fx__law_draw = some ⟨oc__law_draw, od__law_draw, .func (PySem.W.fnOf "_law_draw" "_law_draw" (defArgs s__law_draw) (defBody s__law_draw) (defScope s__law_draw) .none kV__law_draw dc__law_draw pm__law_draw an__law_draw cd__law_draw ct__law_draw), sl__law_draw⟩)
    (c__law_draw : PySem.W.codeIn K cd__law_draw "_law_draw" = true)
    (k__law_draw : PySem.W.keepIn K (.ref fx__law_draw) = true)
    (a__law_names : PySem.W.nsIn K mainGlobals "_law_names" = some (some (.ref fx__law_names)))
    (l__law_names : K.lookup fx__law_names = some ⟨oc__law_names, od__law_names, .func (PySem.W.fnOf "_law_names" "_law_names" (defArgs s__law_names) (defBody s__law_names) (defScope s__law_names) .none kV__law_names dc__law_names pm__law_names an__law_names cd__law_names ct__law_names), sl__law_names⟩)
    (c__law_names : PySem.W.codeIn K cd__law_names "_law_names" = true)
    (k__law_names : PySem.W.keepIn K (.ref fx__law_names) = true)
    (a__law_words : PySem.W.nsIn K mainGlobals "_law_words" = some (some (.ref fx__law_words)))
    (l__law_words : K.lookup fx__law_words = some ⟨oc__law_words, od__law_words, .func (PySem.W.fnOf "_law_words" "_law_words" (defArgs s__law_words) (defBody s__law_words) (defScope s__law_words) .none kV__law_words dc__law_words pm__law_words an__law_words cd__law_words ct__law_words), sl__law_words⟩)
    (c__law_words : PySem.W.codeIn K cd__law_words "_law_words" = true)
    (k__law_words : PySem.W.keepIn K (.ref fx__law_words) = true)
    (a__law_letters : PySem.W.nsIn K mainGlobals "_law_letters" = some (some (.ref fx__law_letters)))
    (l__law_letters : K.lookup fx__law_letters = some ⟨oc__law_letters, od__law_letters, .func (PySem.W.fnOf "_law_letters" "_law_letters" (defArgs s__law_letters) (defBody s__law_letters) (defScope s__law_letters) .none kV__law_letters dc__law_letters pm__law_letters an__law_letters cd__law_letters ct__law_letters), sl__law_letters⟩)
    (c__law_letters : PySem.W.codeIn K cd__law_letters "_law_letters" = true)
    (k__law_letters : PySem.W.keepIn K (.ref fx__law_letters) = true)
    (a__law_term : PySem.W.nsIn K mainGlobals "_law_term" = some (some (.ref fx__law_term)))
    (l__law_term : K.lookup fx__law_term = some ⟨oc__law_term, od__law_term, .func (PySem.W.fnOf "_law_term" "_law_term" (defArgs s__law_term) (defBody s__law_term) (defScope s__law_term) .none kV__law_term dc__law_term pm__law_term an__law_term cd__law_term ct__law_term), sl__law_term⟩)
    (c__law_term : PySem.W.codeIn K cd__law_term "_law_term" = true)
    (k__law_term : PySem.W.keepIn K (.ref fx__law_term) = true)
    (a__law_odd : PySem.W.nsIn K mainGlobals "_law_odd" = some (some (.ref fx__law_odd)))
    (l__law_odd : K.lookup fx__law_odd = some ⟨oc__law_odd, od__law_odd, .func (PySem.W.fnOf "_law_odd" "_law_odd" (defArgs s__law_odd) (defBody s__law_odd) (defScope s__law_odd) .none kV__law_odd dc__law_odd pm__law_odd an__law_odd cd__law_odd ct__law_odd), sl__law_odd⟩)
    (c__law_odd : PySem.W.codeIn K cd__law_odd "_law_odd" = true)
    (k__law_odd : PySem.W.keepIn K (.ref fx__law_odd) = true)
    (a__law_bent : PySem.W.nsIn K mainGlobals "_law_bent" = some (some (.ref fx__law_bent)))
    (l__law_bent : K.lookup fx__law_bent = some ⟨oc__law_bent, od__law_bent, .func (PySem.W.fnOf "_law_bent" "_law_bent" (defArgs s__law_bent) (defBody s__law_bent) (defScope s__law_bent) .none kV__law_bent dc__law_bent pm__law_bent an__law_bent cd__law_bent ct__law_bent), sl__law_bent⟩)
    (c__law_bent : PySem.W.codeIn K cd__law_bent "_law_bent" = true)
    (k__law_bent : PySem.W.keepIn K (.ref fx__law_bent) = true)
    (a__law_is_word : PySem.W.nsIn K mainGlobals "_law_is_word" = some (some (.ref fx__law_is_word)))
    (l__law_is_word : K.lookup fx__law_is_word = some ⟨oc__law_is_word, od__law_is_word, .func (PySem.W.fnOf "_law_is_word" "_law_is_word" (defArgs s__law_is_word) (defBody s__law_is_word) (defScope s__law_is_word) .none kV__law_is_word dc__law_is_word pm__law_is_word an__law_is_word cd__law_is_word ct__law_is_word), sl__law_is_word⟩)
    (c__law_is_word : PySem.W.codeIn K cd__law_is_word "_law_is_word" = true)
    (k__law_is_word : PySem.W.keepIn K (.ref fx__law_is_word) = true)
    (a__law_count : PySem.W.nsIn K mainGlobals "_law_count" = some (some (.ref fx__law_count)))
    (l__law_count : K.lookup fx__law_count = some ⟨oc__law_count, od__law_count, .func (PySem.W.fnOf "_law_count" "_law_count" (defArgs s__law_count) (defBody s__law_count) (defScope s__law_count) .none kV__law_count dc__law_count pm__law_count an__law_count cd__law_count ct__law_count), sl__law_count⟩)
    (c__law_count : PySem.W.codeIn K cd__law_count "_law_count" = true)
    (k__law_count : PySem.W.keepIn K (.ref fx__law_count) = true)
    (a__law_is_term : PySem.W.nsIn K mainGlobals "_law_is_term" = some (some (.ref fx__law_is_term)))
    (l__law_is_term : K.lookup fx__law_is_term = some ⟨oc__law_is_term, od__law_is_term, .func (PySem.W.fnOf "_law_is_term" "_law_is_term" (defArgs s__law_is_term) (defBody s__law_is_term) (defScope s__law_is_term) .none kV__law_is_term dc__law_is_term pm__law_is_term an__law_is_term cd__law_is_term ct__law_is_term), sl__law_is_term⟩)
    (c__law_is_term : PySem.W.codeIn K cd__law_is_term "_law_is_term" = true)
    (k__law_is_term : PySem.W.keepIn K (.ref fx__law_is_term) = true)
    (a__law_full : PySem.W.nsIn K mainGlobals "_law_full" = some (some (.ref fx__law_full)))
    (l__law_full : K.lookup fx__law_full = some ⟨oc__law_full, od__law_full, .func (PySem.W.fnOf "_law_full" "_law_full" (defArgs s__law_full) (defBody s__law_full) (defScope s__law_full) .none kV__law_full dc__law_full pm__law_full an__law_full cd__law_full ct__law_full), sl__law_full⟩)
    (c__law_full : PySem.W.codeIn K cd__law_full "_law_full" = true)
    (k__law_full : PySem.W.keepIn K (.ref fx__law_full) = true)
    (a__law_tower : PySem.W.nsIn K mainGlobals "_law_tower" = some (some (.ref fx__law_tower)))
    (l__law_tower : K.lookup fx__law_tower = some ⟨oc__law_tower, od__law_tower, .func (PySem.W.fnOf "_law_tower" "_law_tower" (defArgs s__law_tower) (defBody s__law_tower) (defScope s__law_tower) .none kV__law_tower dc__law_tower pm__law_tower an__law_tower cd__law_tower ct__law_tower), sl__law_tower⟩)
    (c__law_tower : PySem.W.codeIn K cd__law_tower "_law_tower" = true)
    (k__law_tower : PySem.W.keepIn K (.ref fx__law_tower) = true)
    (a__law_things : PySem.W.nsIn K mainGlobals "_law_things" = some (some (.ref fx__law_things)))
    (l__law_things : K.lookup fx__law_things = some ⟨oc__law_things, od__law_things, .func (PySem.W.fnOf "_law_things" "_law_things" (defArgs s__law_things) (defBody s__law_things) (defScope s__law_things) .none kV__law_things dc__law_things pm__law_things an__law_things cd__law_things ct__law_things), sl__law_things⟩)
    (c__law_things : PySem.W.codeIn K cd__law_things "_law_things" = true)
    (k__law_things : PySem.W.keepIn K (.ref fx__law_things) = true)
    (a__law_is_question : PySem.W.nsIn K mainGlobals "_law_is_question" = some (some (.ref fx__law_is_question)))
    (l__law_is_question : K.lookup fx__law_is_question = some ⟨oc__law_is_question, od__law_is_question, .func (PySem.W.fnOf "_law_is_question" "_law_is_question" (defArgs s__law_is_question) (defBody s__law_is_question) (defScope s__law_is_question) .none kV__law_is_question dc__law_is_question pm__law_is_question an__law_is_question cd__law_is_question ct__law_is_question), sl__law_is_question⟩)
    (c__law_is_question : PySem.W.codeIn K cd__law_is_question "_law_is_question" = true)
    (k__law_is_question : PySem.W.keepIn K (.ref fx__law_is_question) = true)
    (a__law_asked : PySem.W.nsIn K mainGlobals "_law_asked" = some (some (.ref fx__law_asked)))
    (l__law_asked : K.lookup fx__law_asked = some ⟨oc__law_asked, od__law_asked, .func (PySem.W.fnOf "_law_asked" "_law_asked" (defArgs s__law_asked) (defBody s__law_asked) (defScope s__law_asked) .none kV__law_asked dc__law_asked pm__law_asked an__law_asked cd__law_asked ct__law_asked), sl__law_asked⟩)
    (c__law_asked : PySem.W.codeIn K cd__law_asked "_law_asked" = true)
    (k__law_asked : PySem.W.keepIn K (.ref fx__law_asked) = true)
    (a__law_changed : PySem.W.nsIn K mainGlobals "_law_changed" = some (some (.ref fx__law_changed)))
    (l__law_changed : K.lookup fx__law_changed = some ⟨oc__law_changed, od__law_changed, .func (PySem.W.fnOf "_law_changed" "_law_changed" (defArgs s__law_changed) (defBody s__law_changed) (defScope s__law_changed) .none kV__law_changed dc__law_changed pm__law_changed an__law_changed cd__law_changed ct__law_changed), sl__law_changed⟩)
    (c__law_changed : PySem.W.codeIn K cd__law_changed "_law_changed" = true)
    (k__law_changed : PySem.W.keepIn K (.ref fx__law_changed) = true)
    (a__law_terms_right : PySem.W.nsIn K mainGlobals "_law_terms_right" = some (some (.ref fx__law_terms_right)))
    (l__law_terms_right : K.lookup fx__law_terms_right = some ⟨oc__law_terms_right, od__law_terms_right, .func (PySem.W.fnOf "_law_terms_right" "_law_terms_right" (defArgs s__law_terms_right) (defBody s__law_terms_right) (defScope s__law_terms_right) .none kV__law_terms_right dc__law_terms_right pm__law_terms_right an__law_terms_right cd__law_terms_right ct__law_terms_right), sl__law_terms_right⟩)
    (c__law_terms_right : PySem.W.codeIn K cd__law_terms_right "_law_terms_right" = true)
    (k__law_terms_right : PySem.W.keepIn K (.ref fx__law_terms_right) = true)
    (a_law : PySem.W.nsIn K mainGlobals "law" = some (some (.ref fx_law)))
    (l_law : K.lookup fx_law = some ⟨oc_law, od_law, .func (PySem.W.fnOf "law" "law" (defArgs s_law) (defBody s_law) (defScope s_law) .none kV_law dc_law pm_law an_law cd_law ct_law), sl_law⟩)
    (c_law : PySem.W.codeIn K cd_law "law" = true)
    (k_law : PySem.W.keepIn K (.ref fx_law) = true)
    (z_range : PySem.W.nsIn K mainGlobals "range" = some none)
    (z_isinstance : PySem.W.nsIn K mainGlobals "isinstance" = some none)
    (z_str : PySem.W.nsIn K mainGlobals "str" = some none)
    (z_tuple : PySem.W.nsIn K mainGlobals "tuple" = some none)
    (z_all : PySem.W.nsIn K mainGlobals "all" = some none)
    (z_len : PySem.W.nsIn K mainGlobals "len" = some none)
    (z_list : PySem.W.nsIn K mainGlobals "list" = some none)
    (z_int : PySem.W.nsIn K mainGlobals "int" = some none)
    (z_max : PySem.W.nsIn K mainGlobals "max" = some none)
    (z_repr : PySem.W.nsIn K mainGlobals "repr" = some none)
    (z_abs : PySem.W.nsIn K mainGlobals "abs" = some none)
    (a_LONGEST_NAME : PySem.W.nsIn K mainGlobals "LONGEST_NAME" = some (some (.int 8 tk_LONGEST_NAME)))
    (a_LONGEST_VARIABLE : PySem.W.nsIn K mainGlobals "LONGEST_VARIABLE" = some (some (.int 4 tk_LONGEST_VARIABLE)))
    (a_SMALL : PySem.W.nsIn K mainGlobals "SMALL" = some (some (.str "abcdefghijklmnopqrstuvwxyz" tk_SMALL)))
    (a_LARGE : PySem.W.nsIn K mainGlobals "LARGE" = some (some (.str "ABCDEFGHIJKLMNOPQRSTUVWXYZ" tk_LARGE)))
    (a_DIGITS : PySem.W.nsIn K mainGlobals "DIGITS" = some (some (.str "0123456789" tk_DIGITS)))
    (a_TAKEN : PySem.W.nsIn K mainGlobals "TAKEN" = some (some (.ref fx_TAKEN)))
    (l_TAKEN : K.lookup fx_TAKEN = some ⟨.type "tuple", od_TAKEN, .seq #[.str "self" tk_TAKEN0, .str "head" tk_TAKEN1] n_TAKEN, sl_TAKEN⟩)
    (a_MOST_SYMBOLS : PySem.W.nsIn K mainGlobals "MOST_SYMBOLS" = some (some (.int 40 tk_MOST_SYMBOLS)))
    (a_MOST_DEEP : PySem.W.nsIn K mainGlobals "MOST_DEEP" = some (some (.int 6 tk_MOST_DEEP)))
    (a_MOST_PARTS : PySem.W.nsIn K mainGlobals "MOST_PARTS" = some (some (.int 3 tk_MOST_PARTS)))
    (a_MOST_PLACES : PySem.W.nsIn K mainGlobals "MOST_PLACES" = some (some (.int 3 tk_MOST_PLACES))) :
    ∃ fd : FuncData, (∀ (s : Shared) (v : Value), BindsTo s fd ⟨[v], []⟩ [("_law_script", v)]) ∧ ∀ base : Heap, K.In base → base.Ns mainGlobals mg → FnG P w K mg base 31 fa fd ["_law_script"] (SpD ⟨K, fun _ => 0⟩ 1 (PhiF lawF)) := by
  have e := hfa.symm.trans (PySem.W.mg_of KX G a_law)
  cases e
  let T : Tx ⟨K, fun _ => 0⟩ mg := {
    is_name := ⟨_, _, fun_mk (st := s_is_name) l_is_name c_is_name k_is_name, PySem.W.mg_of KX G a_is_name, (fun_mk (st := s_is_name) l_is_name c_is_name k_is_name).binds (ps := ["thing"]) fun _ _ _ _ _ _ us hl => match us, hl with | [_], _ => rfl⟩
    is_dotted := ⟨_, _, fun_mk (st := s_is_dotted) l_is_dotted c_is_dotted k_is_dotted, PySem.W.mg_of KX G a_is_dotted, (fun_mk (st := s_is_dotted) l_is_dotted c_is_dotted k_is_dotted).binds (ps := ["thing", "many"]) fun _ _ _ _ _ _ us hl => match us, hl with | [_, _], _ => rfl⟩
    is_word := ⟨_, _, fun_mk (st := s_is_word) l_is_word c_is_word k_is_word, PySem.W.mg_of KX G a_is_word, (fun_mk (st := s_is_word) l_is_word c_is_word k_is_word).binds (ps := ["thing"]) fun _ _ _ _ _ _ us hl => match us, hl with | [_], _ => rfl⟩
    is_member_word := ⟨_, _, fun_mk (st := s_is_member_word) l_is_member_word c_is_member_word k_is_member_word, PySem.W.mg_of KX G a_is_member_word, (fun_mk (st := s_is_member_word) l_is_member_word c_is_member_word k_is_member_word).binds (ps := ["thing"]) fun _ _ _ _ _ _ us hl => match us, hl with | [_], _ => rfl⟩
    is_variable := ⟨_, _, fun_mk (st := s_is_variable) l_is_variable c_is_variable k_is_variable, PySem.W.mg_of KX G a_is_variable, (fun_mk (st := s_is_variable) l_is_variable c_is_variable k_is_variable).binds (ps := ["thing"]) fun _ _ _ _ _ _ us hl => match us, hl with | [_], _ => rfl⟩
    is_piece := ⟨_, _, fun_mk (st := s_is_piece) l_is_piece c_is_piece k_is_piece, PySem.W.mg_of KX G a_is_piece, (fun_mk (st := s_is_piece) l_is_piece c_is_piece k_is_piece).binds (ps := ["thing", "members"]) fun _ _ _ _ _ _ us hl => match us, hl with | [_, _], _ => rfl⟩
    is_within := ⟨_, _, fun_mk (st := s_is_within) l_is_within c_is_within k_is_within, PySem.W.mg_of KX G a_is_within, (fun_mk (st := s_is_within) l_is_within c_is_within k_is_within).binds (ps := ["thing", "members"]) fun _ _ _ _ _ _ us hl => match us, hl with | [_, _], _ => rfl⟩
    is_term := ⟨_, _, fun_mk (st := s_is_term) l_is_term c_is_term k_is_term, PySem.W.mg_of KX G a_is_term, (fun_mk (st := s_is_term) l_is_term c_is_term k_is_term).binds (ps := ["thing"]) fun _ _ _ _ _ _ us hl => match us, hl with | [_], _ => rfl⟩
    is_question := ⟨_, _, fun_mk (st := s_is_question) l_is_question c_is_question k_is_question, PySem.W.mg_of KX G a_is_question, (fun_mk (st := s_is_question) l_is_question c_is_question k_is_question).binds (ps := ["thing"]) fun _ _ _ _ _ _ us hl => match us, hl with | [_], _ => rfl⟩
    _law_pen := ⟨_, _, fun_mk (st := s__law_pen) l__law_pen c__law_pen k__law_pen, PySem.W.mg_of KX G a__law_pen, (fun_mk (st := s__law_pen) l__law_pen c__law_pen k__law_pen).binds (ps := ["_law_script"]) fun _ _ _ _ _ _ us hl => match us, hl with | [_], _ => rfl⟩
    _law_draw := ⟨_, _, fun_mk (st := s__law_draw) l__law_draw c__law_draw k__law_draw, PySem.W.mg_of KX G a__law_draw, (fun_mk (st := s__law_draw) l__law_draw c__law_draw k__law_draw).binds (ps := ["_law_pen_here", "_law_many"]) fun _ _ _ _ _ _ us hl => match us, hl with | [_, _], _ => rfl⟩
    _law_names := ⟨_, _, fun_mk (st := s__law_names) l__law_names c__law_names k__law_names, PySem.W.mg_of KX G a__law_names, (fun_mk (st := s__law_names) l__law_names c__law_names k__law_names).binds (ps := ["_law_pen_here", "_law_many"]) fun _ _ _ _ _ _ us hl => match us, hl with | [_, _], _ => rfl⟩
    _law_words := ⟨_, _, fun_mk (st := s__law_words) l__law_words c__law_words k__law_words, PySem.W.mg_of KX G a__law_words, (fun_mk (st := s__law_words) l__law_words c__law_words k__law_words).binds (ps := ["_law_pen_here"]) fun _ _ _ _ _ _ us hl => match us, hl with | [_], _ => rfl⟩
    _law_letters := ⟨_, _, fun_mk (st := s__law_letters) l__law_letters c__law_letters k__law_letters, PySem.W.mg_of KX G a__law_letters, (fun_mk (st := s__law_letters) l__law_letters c__law_letters k__law_letters).binds (ps := ["_law_pen_here"]) fun _ _ _ _ _ _ us hl => match us, hl with | [_], _ => rfl⟩
    _law_term := ⟨_, _, fun_mk (st := s__law_term) l__law_term c__law_term k__law_term, PySem.W.mg_of KX G a__law_term, (fun_mk (st := s__law_term) l__law_term c__law_term k__law_term).binds (ps := ["_law_pen_here", "_law_lexicon", "_law_letters_here", "_law_deep", "_law_purse"]) fun _ _ _ _ _ _ us hl => match us, hl with | [_, _, _, _, _], _ => rfl⟩
    _law_odd := ⟨_, _, fun_mk (st := s__law_odd) l__law_odd c__law_odd k__law_odd, PySem.W.mg_of KX G a__law_odd, (fun_mk (st := s__law_odd) l__law_odd c__law_odd k__law_odd).binds (ps := ["_law_pen_here", "_law_tree"]) fun _ _ _ _ _ _ us hl => match us, hl with | [_, _], _ => rfl⟩
    _law_bent := ⟨_, _, fun_mk (st := s__law_bent) l__law_bent c__law_bent k__law_bent, PySem.W.mg_of KX G a__law_bent, (fun_mk (st := s__law_bent) l__law_bent c__law_bent k__law_bent).binds (ps := ["_law_pen_here", "_law_tree"]) fun _ _ _ _ _ _ us hl => match us, hl with | [_, _], _ => rfl⟩
    _law_is_word := ⟨_, _, fun_mk (st := s__law_is_word) l__law_is_word c__law_is_word k__law_is_word, PySem.W.mg_of KX G a__law_is_word, (fun_mk (st := s__law_is_word) l__law_is_word c__law_is_word k__law_is_word).binds (ps := ["_law_entry"]) fun _ _ _ _ _ _ us hl => match us, hl with | [_], _ => rfl⟩
    _law_count := ⟨_, _, fun_mk (st := s__law_count) l__law_count c__law_count k__law_count, PySem.W.mg_of KX G a__law_count, (fun_mk (st := s__law_count) l__law_count c__law_count k__law_count).binds (ps := ["_law_entry"]) fun _ _ _ _ _ _ us hl => match us, hl with | [_], _ => rfl⟩
    _law_is_term := ⟨_, _, fun_mk (st := s__law_is_term) l__law_is_term c__law_is_term k__law_is_term, PySem.W.mg_of KX G a__law_is_term, (fun_mk (st := s__law_is_term) l__law_is_term c__law_is_term k__law_is_term).binds (ps := ["_law_entry"]) fun _ _ _ _ _ _ us hl => match us, hl with | [_], _ => rfl⟩
    _law_full := ⟨_, _, fun_mk (st := s__law_full) l__law_full c__law_full k__law_full, PySem.W.mg_of KX G a__law_full, (fun_mk (st := s__law_full) l__law_full c__law_full k__law_full).binds (ps := ["_law_pen_here", "_law_lexicon", "_law_letters_here", "_law_deep"]) fun _ _ _ _ _ _ us hl => match us, hl with | [_, _, _, _], _ => rfl⟩
    _law_tower := ⟨_, _, fun_mk (st := s__law_tower) l__law_tower c__law_tower k__law_tower, PySem.W.mg_of KX G a__law_tower, (fun_mk (st := s__law_tower) l__law_tower c__law_tower k__law_tower).binds (ps := ["_law_pen_here", "_law_lexicon", "_law_deep"]) fun _ _ _ _ _ _ us hl => match us, hl with | [_, _, _], _ => rfl⟩
    _law_things := ⟨_, _, fun_mk (st := s__law_things) l__law_things c__law_things k__law_things, PySem.W.mg_of KX G a__law_things, (fun_mk (st := s__law_things) l__law_things c__law_things k__law_things).binds (ps := ["_law_pen_here"]) fun _ _ _ _ _ _ us hl => match us, hl with | [_], _ => rfl⟩
    _law_is_question := ⟨_, _, fun_mk (st := s__law_is_question) l__law_is_question c__law_is_question k__law_is_question, PySem.W.mg_of KX G a__law_is_question, (fun_mk (st := s__law_is_question) l__law_is_question c__law_is_question k__law_is_question).binds (ps := ["_law_entry"]) fun _ _ _ _ _ _ us hl => match us, hl with | [_], _ => rfl⟩
    _law_asked := ⟨_, _, fun_mk (st := s__law_asked) l__law_asked c__law_asked k__law_asked, PySem.W.mg_of KX G a__law_asked, (fun_mk (st := s__law_asked) l__law_asked c__law_asked k__law_asked).binds (ps := ["_law_pen_here", "_law_lexicon", "_law_letters_here"]) fun _ _ _ _ _ _ us hl => match us, hl with | [_, _, _], _ => rfl⟩
    _law_changed := ⟨_, _, fun_mk (st := s__law_changed) l__law_changed c__law_changed k__law_changed, PySem.W.mg_of KX G a__law_changed, (fun_mk (st := s__law_changed) l__law_changed c__law_changed k__law_changed).binds (ps := ["_law_pen_here", "_law_lexicon", "_law_question"]) fun _ _ _ _ _ _ us hl => match us, hl with | [_, _, _], _ => rfl⟩
    _law_terms_right := ⟨_, _, fun_mk (st := s__law_terms_right) l__law_terms_right c__law_terms_right k__law_terms_right, PySem.W.mg_of KX G a__law_terms_right, (fun_mk (st := s__law_terms_right) l__law_terms_right c__law_terms_right k__law_terms_right).binds (ps := ["_law_pen_here"]) fun _ _ _ _ _ _ us hl => match us, hl with | [_], _ => rfl⟩
    law := ⟨_, _, fun_mk (st := s_law) l_law c_law k_law, PySem.W.mg_of KX G a_law, (fun_mk (st := s_law) l_law c_law k_law).binds (ps := ["_law_script"]) fun _ _ _ _ _ _ us hl => match us, hl with | [_], _ => rfl⟩
    k_is_question_thing := ⟨fun s ws _ hl => match ws, hl with | [_], _ => .of_eq rfl⟩
    k_is_term_thing := ⟨fun s ws _ hl => match ws, hl with | [_], _ => .of_eq rfl⟩
    m_range := PySem.W.mg_none_of KX G z_range
    m_isinstance := PySem.W.mg_none_of KX G z_isinstance
    m_str := PySem.W.mg_none_of KX G z_str
    m_tuple := PySem.W.mg_none_of KX G z_tuple
    m_all := PySem.W.mg_none_of KX G z_all
    m_len := PySem.W.mg_none_of KX G z_len
    m_list := PySem.W.mg_none_of KX G z_list
    m_int := PySem.W.mg_none_of KX G z_int
    m_max := PySem.W.mg_none_of KX G z_max
    m_repr := PySem.W.mg_none_of KX G z_repr
    m_abs := PySem.W.mg_none_of KX G z_abs
    c_LONGEST_NAME := ⟨_, PySem.W.mg_of KX G a_LONGEST_NAME, ⟨_, rfl⟩⟩
    c_LONGEST_VARIABLE := ⟨_, PySem.W.mg_of KX G a_LONGEST_VARIABLE, ⟨_, rfl⟩⟩
    c_SMALL := ⟨_, PySem.W.mg_of KX G a_SMALL, ⟨_, rfl⟩⟩
    c_LARGE := ⟨_, PySem.W.mg_of KX G a_LARGE, ⟨_, rfl⟩⟩
    c_DIGITS := ⟨_, PySem.W.mg_of KX G a_DIGITS, ⟨_, rfl⟩⟩
    t_TAKEN := fx_TAKEN
    c_TAKEN := ⟨_, PySem.W.mg_of KX G a_TAKEN, rfl⟩
    x_TAKEN := fun G => .tup (xs := [.str "self", .str "head"]) (.inr ⟨_, _, _, l_TAKEN, rfl, rfl, (by show 2 ≤ sizeLine; decide), (.cons ⟨_, rfl⟩ (.cons ⟨_, rfl⟩ .nil))⟩) (.cons (.str _) (.cons (.str _) .nil))
    c_MOST_SYMBOLS := ⟨_, PySem.W.mg_of KX G a_MOST_SYMBOLS, ⟨_, rfl⟩⟩
    c_MOST_DEEP := ⟨_, PySem.W.mg_of KX G a_MOST_DEEP, ⟨_, rfl⟩⟩
    c_MOST_PARTS := ⟨_, PySem.W.mg_of KX G a_MOST_PARTS, ⟨_, rfl⟩⟩
    c_MOST_PLACES := ⟨_, PySem.W.mg_of KX G a_MOST_PLACES, ⟨_, rfl⟩⟩ }
  exact ⟨_, fun s v => .of_eq rfl, fun base _ _ => ok_law T (by decide) (all T 30)⟩
end Nv

set_option Elab.async false
set_option linter.all false
set_option maxRecDepth 100000
set_option maxHeartbeats 4000000
namespace Nv
open PySem L2 PyProof.Rows PySem.Spec
theorem le_int {i j : Int} : leD (.int i) (.int j) = some (.bl (decide (i ≤ j))) := rfl
theorem lt_int {i j : Int} : ltD (.int i) (.int j) = some (.bl (decide (i < j))) := rfl
theorem gt_int {i j : Int} : gtD (.int i) (.int j) = some (.bl (decide (j < i))) := rfl
theorem ge_int {i j : Int} : geD (.int i) (.int j) = some (.bl (decide (j ≤ i))) := rfl
theorem sub_int {i j : Int} : intD (fun i j => some (D.int (i - j))) (.int i) (.int j) = some (.int (i - j)) := rfl
theorem add_int {i j : Int} : addD (.int i) (.int j) = some (.int (i + j)) := rfl
theorem iadd_int {i j : Int} : iaddD (.int i) (.int j) = some (.int (i + j)) := rfl
theorem len_lst {xs : List D} : lenD [.lst xs] = some (.int xs.length) := rfl
theorem len_tup {xs : List D} : lenD [.tup xs] = some (.int xs.length) := rfl
theorem len_str {s : Str} (h : s.length ≤ sizeLine) : lenD [.str s] = some (.int s.length) := if_pos h
theorem isBl_bl {b : Bool} : isBl (.bl b) = some b := rfl
theorem isInt_int {b : Int} : isInt (.int b) = some b := rfl
theorem isStr_str {b : Str} : isStr (.str b) = some b := rfl
theorem isLst_lst {b : List D} : isLst (.lst b) = some b := rfl
theorem isTup_tup {b : List D} : isTup (.tup b) = some b := rfl
theorem data_d {x : D} : (Sl.d x).data = some x := rfl
theorem tru_bl {b : Bool} : truD (.bl b) = some b := rfl
theorem kind_str {b : Str} : kindOk (.str b) = true := rfl
theorem kind_tup {b : List D} : kindOk (.tup b) = true := rfl
theorem kind_lst {b : List D} : kindOk (.lst b) = true := rfl
theorem kind_bl {b : Bool} : kindOk (.bl b) = true := rfl
theorem kind_int {b : Int} : kindOk (.int b) = true := rfl
theorem kind_non : kindOk .non = true := rfl
theorem eq_int {i j : Int} : eqXD (.int i) (.int j) = some (.bl (decide (i = j))) := rfl
theorem kind_dct {b : List (Key × D)} : kindOk (.dct b) = true := rfl
theorem in_taken (s : Str) : inD true (.str s) (.tup [.str "self", .str "head"]) = some (.bl (!(s == "self") && !(s == "head"))) := by
  show some (D.bl (!([D.str "self", D.str "head"].any fun y => eqF y (.str s)))) = _
  have h1 : eqF (.str "self") (.str s) = (s == ("self" : Str)) := by show (("self" : Str) == s) = _; exact Bool.eq_iff_iff.mpr (by rw [beq_iff_eq, beq_iff_eq]; exact eq_comm)
  have h2 : eqF (.str "head") (.str s) = (s == ("head" : Str)) := by show (("head" : Str) == s) = _; exact Bool.eq_iff_iff.mpr (by rw [beq_iff_eq, beq_iff_eq]; exact eq_comm)
  simp only [List.any_cons, List.any_nil, h1, h2, Bool.or_false, Bool.not_or]
theorem in_taken2 (s : Str) : inD false (.str s) (.tup [.str "self", .str "head"]) = some (.bl ((s == "self") || (s == "head"))) := by
  show some (D.bl ([D.str "self", D.str "head"].any fun y => eqF y (.str s))) = _
  have h1 : eqF (.str "self") (.str s) = (s == ("self" : Str)) := by show (("self" : Str) == s) = _; exact Bool.eq_iff_iff.mpr (by rw [beq_iff_eq, beq_iff_eq]; exact eq_comm)
  have h2 : eqF (.str "head") (.str s) = (s == ("head" : Str)) := by show (("head" : Str) == s) = _; exact Bool.eq_iff_iff.mpr (by rw [beq_iff_eq, beq_iff_eq]; exact eq_comm)
  simp only [List.any_cons, List.any_nil, h1, h2, Bool.or_false]
local macro_rules | `(tactic| walk_at "ev") => `(tactic| try simp only [defM, mSeq, mIf, mOr, mAnd, mNot, mTru, mIs, mVar, mC, mBl, mChain, mCb, mCons, mNil, mRet, mNext, mAndV, mOrV, mNotV, mOp, mAll, mLst, mSz, mTup, mLc, mLc2, mIStr, mIList, mITup, mYes, mSl, mOSome, mONone, mM1, mSet, mCall, mCallK,
  Option.bind_some, Option.bind_none, le_int, lt_int, gt_int, ge_int, sub_int, add_int, iadd_int, len_lst, len_tup, isBl_bl, isInt_int, isStr_str, isLst_lst, isTup_tup, data_d, tru_bl, kind_str, kind_tup, kind_lst, kind_bl, kind_int, kind_non, kind_dct, eq_int, in_taken, in_taken2, List.length_cons, List.length_nil, List.cons_append, List.nil_append, List.replicate, List.getElem?_cons_zero, List.getElem?_cons_succ, List.set_cons_zero, List.set_cons_succ, if_true, if_false, Bool.not_true, Bool.not_false, Bool.false_eq_true, Option.any_some, isNo, freeB, Sl.pinned, List.map_cons, List.map_nil, allNo, List.all_cons, List.all_nil, Bool.and_true, isStrD, isTupD, mergeS, Nat.reduceAdd, Nat.reduceSub, Nat.zero_add])

/-! ### comprehensions -/
theorem set_no {e : Env} {j : Nat} {x : Sl} (h : e[j]? = some .no) : (e.set j x).set j .no = e := by
  rw [List.set_set]
  apply List.ext_getElem?
  intro k
  by_cases z : j = k
  · subst z
    rw [List.getElem?_set_self (List.getElem?_eq_some_iff.mp h).1, h]
  · rw [List.getElem?_set_ne z]
theorem lc_map {j : Nat} {m : M D} {f : D → D} {e : Env} (hj : e[j]? = some .no) : ∀ (ds acc : List D), (∀ d ∈ ds, m (e.set j (.d d)) = some (f d, e.set j (.d d))) → acc.length + ds.length ≤ sizeLine → lcGo j mYes m ds acc e = some (acc ++ ds.map f, e)
  | [], acc, _, _ => by rw [List.map_nil, List.append_nil]; rfl
  | d :: ds, acc, hm, hl => by
    rw [List.length_cons] at hl
    have h1 := hm d List.mem_cons_self
    unfold lcGo
    simp only [mYes, Option.bind_some, if_true, h1]
    rw [if_pos (by omega), set_no hj, lc_map hj ds (acc ++ [f d]) (fun x hx => hm x (List.mem_cons_of_mem _ hx)) (by rw [List.length_append]; simp; omega)]
    simp
theorem lc_filter {j : Nat} {t : M Bool} {p : D → Bool} {e : Env} (hj : e[j]? = some .no) : ∀ (ds acc : List D), (∀ d ∈ ds, t (e.set j (.d d)) = some (p d, e.set j (.d d))) → acc.length + ds.length ≤ sizeLine → lcGo j t (mVar j) ds acc e = some (acc ++ ds.filter p, e)
  | [], acc, _, _ => by rw [List.filter_nil, List.append_nil]; rfl
  | d :: ds, acc, hm, hl => by
    rw [List.length_cons] at hl
    have h1 := hm d List.mem_cons_self
    have jl : j < e.length := (List.getElem?_eq_some_iff.mp hj).1
    have hv : mVar j (e.set j (.d d)) = some (d, e.set j (.d d)) := by
      unfold mVar
      rw [List.getElem?_set_self jl]
      simp only [Option.bind_some, Sl.data, List.set_set]
    unfold lcGo
    simp only [h1, Option.bind_some]
    cases hp : p d with
    | true =>
      simp only [if_true, hv, Option.bind_some]
      rw [if_pos (by omega), set_no hj, lc_filter hj ds (acc ++ [d]) (fun x hx => hm x (List.mem_cons_of_mem _ hx)) (by rw [List.length_append]; simp; omega), List.filter_cons_of_pos hp]
      simp
    | false =>
      simp only [Bool.false_eq_true, if_false]
      rw [set_no hj, lc_filter hj ds acc (fun x hx => hm x (List.mem_cons_of_mem _ hx)) (by omega), List.filter_cons_of_neg (by rw [hp]; exact Bool.false_ne_true)]

/-! ### names -/
def inS (A : Str) (c : Nat) : Bool := decide (c ∈ A.cps.toList)
abbrev smallS : Str := "abcdefghijklmnopqrstuvwxyz"
def nameS (s : Str) : Bool := decide ((1 : Int) ≤ s.length) && decide ((s.length : Int) ≤ 8) && !(s == "self") && !(s == "head") && s.cps.toList.all (inS smallS)
theorem in_sgn (A : Str) (c : Nat) : inD false (.str ⟨#[c]⟩) (.str A) = some (.bl (inS A c)) := rfl
theorem ni_sgn (A : Str) (c : Nat) : inD true (.str ⟨#[c]⟩) (.str A) = some (.bl (!inS A c)) := rfl
theorem bls_map {α : Type} (f : α → Bool) : ∀ xs : List α, blsOf (xs.map fun x => D.bl (f x)) = some (xs.map f)
  | [] => rfl
  | x :: xs => by
    show (blsOf (xs.map fun x => D.bl (f x))).map (f x :: ·) = _
    rw [bls_map f xs]
    rfl
theorem all_map {α : Type} (f : α → Bool) (xs : List α) : (xs.map f).all id = xs.all f := by rw [List.all_map]; rfl
theorem signs_len (s : Str) : (signs s).length = s.length := by unfold signs; rw [List.length_map]; exact Array.length_toList
/-- all([sign in A for sign in s]) -/
theorem all_in (A s : Str) (j : Nat) (e : Env) (hj : e[j]? = some .no) (h : s.length ≤ sizeLine) : lcGo j mYes (mOp (inD false) (mVar j) (mC (.str A))) (signs s) [] e = some (s.cps.toList.map (fun c => D.bl (inS A c)), e) := by
  have jl : j < e.length := (List.getElem?_eq_some_iff.mp hj).1
  have hv : ∀ d, mVar j (e.set j (.d d)) = some (d, e.set j (.d d)) := fun d => by
    unfold mVar
    rw [List.getElem?_set_self jl]
    simp only [Option.bind_some, Sl.data, List.set_set]
  let f : D → D := fun d => match d with
    | .str z => .bl (decide (∃ c, oneSign z = some c ∧ inS A c = true))
    | _ => .non
  rw [lc_map (f := f) hj (signs s) [] (fun d hd => ?_) (by rw [List.length_nil, Nat.zero_add, signs_len]; exact h)]
  · unfold signs
    rw [List.nil_append, List.map_map]
    refine congrArg some (congrArg (fun x => (x, e)) (List.map_congr_left fun c _ => ?_))
    show D.bl (decide (∃ c', some c = some c' ∧ inS A c' = true)) = D.bl (inS A c)
    cases q : inS A c <;> simp [q]
  · unfold signs at hd
    obtain ⟨c, _, rfl⟩ := List.mem_map.mp hd
    unfold mOp mC
    rw [hv]
    show some (D.bl (inS A c), _) = some (D.bl (decide (∃ c', some c = some c' ∧ inS A c' = true)), _)
    cases q : inS A c <;> simp [q]
theorem e_name (k : Nat) (s : Str) (h : s.length ≤ 100) : cs (k + 1) 0 [.d (.str s)] = some (.bl (nameS s), [.d (.str s)]) := by
  have hz : s.length ≤ sizeLine := Nat.le_trans h (by decide)
  show defM 1 2 (m_is_name (cs k)) [.d (.str s)] = _
  unfold m_is_name nameS
  walk_at "ev"
  simp only [len_str hz]
  walk_at "ev"
  by_cases h1 : (1 : Int) ≤ s.length
  · by_cases h2 : (s.length : Int) ≤ 8
    · simp only [h1, h2, decide_true, if_true]
      walk_at "ev"
      cases h3 : (!(s == ("self" : Str)) && !(s == ("head" : Str))) with
      | false =>
        simp only [Bool.false_eq_true, if_false, Bool.true_and, h3, Bool.false_and]
        walk_at "ev"
      | true =>
        simp only [if_true, Bool.true_and, h3]
        walk_at "ev"
        simp only [all_in _ s 1 [.d (.str s), .no] rfl hz, Option.bind_some, all1, bls_map, all_map]
        walk_at "ev"
    · simp only [h1, h2, decide_true, decide_false, if_true]
      walk_at "ev"
      simp only [Bool.and_false, Bool.false_and, Bool.true_and]
  · simp only [h1, decide_false, Bool.false_and]
    walk_at "ev"

/-! ### the same in the law's words -/
def sgnIn (A : Str) (d : D) : Bool := match d with
  | .str z => match oneSign z with
    | some c => inS A c
    | none => false
  | _ => false
theorem canLay_str (z : Str) : (PyData.str z).canLay0 = z.cps.all (· < 0x110000) := rfl
def okC (s : Str) : Prop := ∀ c ∈ s.cps.toList, c < 0x110000
theorem strs_shp : ∀ {xs : List D}, (∀ d ∈ xs, ∃ z, d = .str z ∧ okC z) → shp (.lst xs) = true := by
  have h0 : ∀ {xs : List D}, (∀ d ∈ xs, ∃ z, d = .str z ∧ okC z) → deepAll xs = true ∧ PyData.canLayAll0 (pyAll xs) = true ∧ PyData.depthAll (pyAll xs) = 0 := by
    intro xs
    induction xs with
    | nil => intro _; exact ⟨rfl, rfl, rfl⟩
    | cons d ds ih =>
      intro h
      obtain ⟨z, rfl, hz⟩ := h d List.mem_cons_self
      obtain ⟨a, b, c⟩ := ih fun x hx => h x (List.mem_cons_of_mem _ hx)
      refine ⟨a, ?_, ?_⟩
      · show ((PyData.str z).canLay0 && PyData.canLayAll0 (pyAll ds)) = true
        rw [b, Bool.and_true, canLay_str, Array.all_eq_true']
        intro c hc
        exact decide_eq_true (hz c (Array.mem_toList_iff.mpr hc))
      · show max (PyData.depth (.str z)) (PyData.depthAll (pyAll ds)) = 0
        rw [c]
        rfl
  intro xs h
  obtain ⟨a, b, c⟩ := h0 h
  show (deepAll xs && (PyData.canLayAll0 (pyAll xs) && decide (PyData.depthAll (pyAll xs) + 1 ≤ 64))) = true
  rw [a, b, c]
  rfl
theorem eq_nil {xs : List D} (h : shp (.lst xs) = true) : eqXD (.lst xs) (.lst []) = some (.bl xs.isEmpty) := by
  have h1 : eqX (.lst xs) (.lst []) = some (PyData.eqv (.list (pyAll xs)) (.list (pyAll []))) := by
    show (if (shp (.lst xs) && shp (.lst [])) = true then some (PyData.eqv (D.lst xs).py (D.lst []).py) else none) = _
    rw [h]
    rfl
  unfold eqXD
  rw [h1]
  cases xs <;> rfl
theorem sgn_ok {s : Str} (h : okC s) {p : D → Bool} : ∀ d ∈ (signs s).filter p, ∃ z, d = .str z ∧ okC z := fun d hd => by
  obtain ⟨hd, _⟩ := List.mem_filter.mp hd
  unfold signs at hd
  obtain ⟨c, hc, rfl⟩ := List.mem_map.mp hd
  refine ⟨_, rfl, fun x hx => ?_⟩
  have : x = c := by simpa using hx
  rw [this]
  exact h c hc
theorem none_out (A s : Str) : ((signs s).filter fun d => !sgnIn A d).isEmpty = s.cps.toList.all (inS A) := by
  unfold signs
  induction s.cps.toList with
  | nil => rfl
  | cons c cs ih =>
    rw [List.map_cons, List.all_cons]
    have e : sgnIn A (.str ⟨#[c]⟩) = inS A c := rfl
    cases q : inS A c with
    | true => rw [List.filter_cons_of_neg (by rw [e, q]; simp), ih]; rfl
    | false => rw [List.filter_cons_of_pos (by rw [e, q]; rfl)]; rfl
/-- [sign for sign in s if sign not in A] -/
theorem out_of (A s : Str) (j : Nat) (e : Env) (hj : e[j]? = some .no) (h : s.length ≤ sizeLine) : lcGo j (mBl (mOp (inD true) (mVar j) (mC (.str A)))) (mVar j) (signs s) [] e = some ((signs s).filter (fun d => !sgnIn A d), e) := by
  have jl : j < e.length := (List.getElem?_eq_some_iff.mp hj).1
  rw [lc_filter (p := fun d => !sgnIn A d) hj (signs s) [] (fun d hd => ?_) (by rw [List.length_nil, Nat.zero_add, signs_len]; exact h), List.nil_append]
  unfold signs at hd
  obtain ⟨c, _, rfl⟩ := List.mem_map.mp hd
  have hv : mVar j (e.set j (.d (.str ⟨#[c]⟩))) = some (.str ⟨#[c]⟩, e.set j (.d (.str ⟨#[c]⟩))) := by
    unfold mVar
    rw [List.getElem?_set_self jl]
    simp only [Option.bind_some, Sl.data, List.set_set]
  unfold mBl mOp mC
  rw [hv]
  rfl
/-! ### words -/
theorem spl_le (S : List Nat) : ∀ (L : List Nat) (k : Nat) (acc : List Nat), (∀ p ∈ TL.spl S k acc L, p.length ≤ acc.length + L.length ∧ ∀ c ∈ p, c ∈ acc ∨ c ∈ L) ∧ (TL.spl S k acc L).length ≤ L.length + 1
  | [], k, acc => by
    rw [TL.spl_nil]
    exact ⟨fun p hp => by rw [List.mem_singleton.mp hp]; exact ⟨Nat.le_add_right _ _, fun c hc => .inl hc⟩, Nat.le_refl _⟩
  | c :: r, 0, acc => by
    show (∀ p ∈ (if TL.pre S (c :: r) = true then acc :: TL.spl S (S.length - 1) [] r else TL.spl S 0 (acc ++ [c]) r), _) ∧ (if TL.pre S (c :: r) = true then acc :: TL.spl S (S.length - 1) [] r else TL.spl S 0 (acc ++ [c]) r).length ≤ _
    split
    · obtain ⟨h1, h2⟩ := spl_le S r (S.length - 1) []
      refine ⟨fun p hp => ?_, by rw [List.length_cons, List.length_cons]; omega⟩
      rcases List.mem_cons.mp hp with z | z
      · rw [z]
        exact ⟨by omega, fun c hc => .inl hc⟩
      · obtain ⟨a, b⟩ := h1 p z
        refine ⟨by rw [List.length_cons]; simp at a; omega, fun x hx => ?_⟩
        rcases b x hx with y | y
        · cases y
        · exact .inr (List.mem_cons_of_mem _ y)
    · obtain ⟨h1, h2⟩ := spl_le S r 0 (acc ++ [c])
      refine ⟨fun p hp => ?_, by rw [List.length_cons]; omega⟩
      obtain ⟨a, b⟩ := h1 p hp
      refine ⟨by rw [List.length_append] at a; simp at a; rw [List.length_cons]; omega, fun x hx => ?_⟩
      rcases b x hx with y | y
      · rcases List.mem_append.mp y with y | y
        · exact .inl y
        · rw [List.mem_singleton.mp y]
          exact .inr List.mem_cons_self
      · exact .inr (List.mem_cons_of_mem _ y)
  | c :: r, k + 1, acc => by
    obtain ⟨h1, h2⟩ := spl_le S r k acc
    refine ⟨fun p hp => ?_, by rw [List.length_cons]; exact Nat.le_succ_of_le h2⟩
    obtain ⟨a, b⟩ := h1 p hp
    exact ⟨by rw [List.length_cons]; omega, fun x hx => (b x hx).imp id (List.mem_cons_of_mem _)⟩
def parts (s : Str) : List Str := Txt.split s "."
theorem parts_ok (s : Str) : (∀ p ∈ parts s, p.length ≤ s.length ∧ ∀ c ∈ p.cps.toList, c ∈ s.cps.toList) ∧ (parts s).length ≤ s.length + 1 := by
  have e := TL.split_spl s "." (by decide) (by
    have h1 : Builtin.Str.strKind "." = 1 := by decide +kernel
    rw [h1]
    unfold Builtin.Str.strKind
    split
    · omega
    · split <;> omega)
  obtain ⟨h1, h2⟩ := spl_le (TL.tl ".") (TL.tl s) 0 []
  have ls : (TL.tl s).length = s.length := Array.length_toList
  refine ⟨fun p hp => ?_, ?_⟩
  · obtain ⟨a, b⟩ := h1 (TL.tl p) (by rw [← e]; exact List.mem_map_of_mem hp)
    refine ⟨?_, fun c hc => (b c hc).elim (fun z => by cases z) id⟩
    have lp : (TL.tl p).length = p.length := Array.length_toList
    rw [lp, ls] at a
    simpa using a
  · rw [← e, List.length_map, ls] at h2
    exact h2
structure FitS (s : Str) : Prop where
  le : s.length ≤ 100
  ok : okC s
theorem FitS.part {s p : Str} (h : FitS s) (hp : p ∈ parts s) : FitS p := ⟨Nat.le_trans ((parts_ok s).1 p hp).1 h.le, fun c hc => h.ok c (((parts_ok s).1 p hp).2 c hc)⟩
theorem FitS.size {s : Str} (h : FitS s) : s.length ≤ sizeLine := Nat.le_trans h.le (by decide)
theorem split_dot {s : Str} (h : FitS s) : splitD (.str s) (.str ".") = some (.lst ((parts s).map D.str)) := if_pos ⟨by decide, by have := h.le; have : sizeLine = 2 ^ 24 := rfl; omega⟩
def nameD (d : D) : Bool := match d with
  | .str s => nameS s
  | _ => false
theorem parts_few {s : Str} (h : FitS s) : (parts s).length ≤ 101 := by have := (parts_ok s).2; have := h.le; omega
/-- [is_name(name) for name in names] -/
theorem names_of {k j : Nat} {s : Str} (h : FitS s) {e : Env} (hj : e[j]? = some .no) : lcGo j mYes (mCall 1 (cs (k + 1) 0) (mCons (mVar j) mNil)) ((parts s).map D.str) [] e = some ((parts s).map (fun p => D.bl (nameS p)), e) := by
  have jl : j < e.length := (List.getElem?_eq_some_iff.mp hj).1
  rw [lc_map (f := fun d => .bl (nameD d)) hj _ [] (fun d hd => ?_) (by rw [List.length_nil, Nat.zero_add, List.length_map]; exact Nat.le_trans (parts_few h) (by decide)), List.nil_append, List.map_map]
  · rfl
  · obtain ⟨p, hp, rfl⟩ := List.mem_map.mp hd
    have hv : mVar j (e.set j (.d (.str p))) = some (.str p, e.set j (.d (.str p))) := by
      unfold mVar
      rw [List.getElem?_set_self jl]
      simp only [Option.bind_some, Sl.data, List.set_set]
    unfold mCall mCons mNil
    rw [hv]
    simp only [Option.bind_some, List.length_cons, List.length_nil, Nat.zero_add, if_true, List.map_cons, List.map_nil, e_name k p (h.part hp).le]
    rfl
def dotS (n : Int) (s : Str) : Bool := decide (((parts s).length : Int) = n) && (parts s).all nameS
theorem e_dotted (k : Nat) (s : Str) (n : Int) (h : FitS s) : cs (k + 2) 1 [.d (.str s), .d (.int n)] = some (.bl (dotS n s), [.d (.str s), .d (.int n)]) := by
  show defM 2 4 (m_is_dotted (cs (k + 1))) [.d (.str s), .d (.int n)] = _
  unfold m_is_dotted dotS
  walk_at "ev"
  simp only [split_dot h]
  walk_at "ev"
  simp only [List.length_map]
  by_cases h1 : ((parts s).length : Int) = n
  · simp only [h1, decide_true, if_true, Bool.true_and]
    walk_at "ev"
    simp only [names_of (k := k) (j := 3) h (e := [.d (.str s), .d (.int n), .d (.lst ((parts s).map D.str)), .no]) rfl, Option.bind_some, all1, bls_map, all_map]
    rfl
  · simp only [h1, decide_false, Bool.false_and]
    walk_at "ev"
theorem e_dotted0 (k : Nat) (d : D) (n : Int) (h : kindOk d = true) (hs : isStrD d = false) : cs (k + 1) 1 [.d d, .d (.int n)] = some (.bl false, [.d d, .d (.int n)]) := by
  cases d <;> first | (cases h; done) | (cases hs; done) | rfl
theorem e_name0 (k : Nat) (d : D) (h : kindOk d = true) (hs : isStrD d = false) : cs (k + 1) 0 [.d d] = some (.bl false, [.d d]) := by
  cases d <;> first | (cases h; done) | (cases hs; done) | rfl
structure Fit1 (d : D) : Prop where
  k : kindOk d = true
  s : ∀ s, d = .str s → FitS s
def dotD (n : Int) (d : D) : Bool := match d with
  | .str s => dotS n s
  | _ => false
theorem e_dot (k : Nat) (d : D) (n : Int) (h : Fit1 d) : cs (k + 2) 1 [.d d, .d (.int n)] = some (.bl (dotD n d), [.d d, .d (.int n)]) := by
  cases hs : isStrD d with
  | false =>
    rw [e_dotted0 (k + 1) d n h.k hs]
    cases d <;> first | rfl | cases hs
  | true =>
    cases d <;> first | (cases hs; done) | skip
    exact e_dotted k _ n (h.s _ rfl)
theorem e_word (k : Nat) (d : D) (h : Fit1 d) : cs (k + 3) 2 [.d d] = some (.bl (dotD 2 d), [.d d]) := by
  show defM 1 1 (m_is_word (cs (k + 2))) [.d d] = _
  unfold m_is_word
  walk_at "ev"
  simp only [e_dot k d 2 h]
  rfl
theorem e_mword (k : Nat) (d : D) (h : Fit1 d) : cs (k + 3) 3 [.d d] = some (.bl (dotD 3 d), [.d d]) := by
  show defM 1 1 (m_is_member_word (cs (k + 2))) [.d d] = _
  unfold m_is_member_word
  walk_at "ev"
  simp only [e_dot k d 3 h]
  rfl

/-! ### words in the law's words -/
end Nv

set_option Elab.async false
set_option linter.all false
set_option maxRecDepth 100000
set_option maxHeartbeats 4000000
namespace Nv
open PySem L2 PyProof.Rows PySem.Spec
local macro_rules | `(tactic| walk_at "ev") => `(tactic| try simp only [defM, mSeq, mIf, mOr, mAnd, mNot, mTru, mIs, mVar, mC, mBl, mChain, mCb, mCons, mNil, mRet, mNext, mAndV, mOrV, mNotV, mOp, mAll, mLst, mSz, mTup, mLc, mLc2, mIStr, mIList, mITup, mYes, mSl, mOSome, mONone, mM1, mSet, mCall, mCallK,
  Option.bind_some, Option.bind_none, le_int, lt_int, gt_int, ge_int, sub_int, add_int, iadd_int, len_lst, len_tup, isBl_bl, isInt_int, isStr_str, isLst_lst, isTup_tup, data_d, tru_bl, kind_str, kind_tup, kind_lst, kind_bl, kind_int, kind_non, kind_dct, eq_int, in_taken, in_taken2, List.length_cons, List.length_nil, List.cons_append, List.nil_append, List.replicate, List.getElem?_cons_zero, List.getElem?_cons_succ, List.set_cons_zero, List.set_cons_succ, if_true, if_false, Bool.not_true, Bool.not_false, Bool.false_eq_true, Option.any_some, isNo, freeB, Sl.pinned, List.map_cons, List.map_nil, allNo, List.all_cons, List.all_nil, Bool.and_true, isStrD, isTupD, mergeS, Nat.reduceAdd, Nat.reduceSub, Nat.zero_add])

/-! ### variables -/
abbrev largeS : Str := "ABCDEFGHIJKLMNOPQRSTUVWXYZ"
abbrev digitS : Str := "0123456789"
def restS (s : Str) : Str := cutS s (some 1) none
def firstS (s : Str) : Bool := match s.cps.toList with
  | c :: _ => inS largeS c
  | [] => false
def varS (s : Str) : Bool := decide ((1 : Int) ≤ s.length) && decide ((s.length : Int) ≤ 4) && firstS s && (restS s).cps.toList.all (inS digitS)
theorem rest_sub (s : Str) : ∀ c ∈ (restS s).cps.toList, c ∈ s.cps.toList := fun c hc => by
  unfold restS cutS at hc
  exact List.mem_of_mem_drop (List.mem_of_mem_take hc)
theorem rest_le (s : Str) : (restS s).length ≤ s.length := by
  unfold restS cutS
  show (List.toArray _).size ≤ s.cps.size
  rw [List.size_toArray, List.length_take, List.length_drop, Array.length_toList]
  omega
theorem FitS.rest {s : Str} (h : FitS s) : FitS (restS s) := ⟨Nat.le_trans (rest_le s) h.le, fun c hc => h.ok c (rest_sub s c hc)⟩
theorem first_ix {s : Str} (h : FitS s) {c : Nat} {r : List Nat} (e : s.cps.toList = c :: r) : ixD (.str s) (.int 0) = some (.str ⟨#[c]⟩) := by
  show (if s.length ≤ sizeLine then (L2.atI s.cps.toList 0).map fun c => D.str ⟨#[c]⟩ else none) = _
  rw [if_pos h.size, e]
  have : L2.atI (c :: r) 0 = some c := by
    unfold L2.atI ixN
    rw [if_pos (Int.le_refl 0), if_pos (by rw [List.length_cons]; omega)]
    rfl
  rw [this]
  rfl
theorem rest_sl {s : Str} (h : FitS s) : slD (.str s) (some 1) none = some (.str (restS s)) := if_pos h.size
theorem nonempty {s : Str} (h : (1 : Int) ≤ s.length) : ∃ c r, s.cps.toList = c :: r := by
  cases e : s.cps.toList with
  | nil =>
    have : s.cps.toList.length = s.length := Array.length_toList
    rw [e] at this
    have z : s.length = 0 := this.symm
    rw [z] at h
    omega
  | cons c r => exact ⟨c, r, rfl⟩
theorem e_varS (k : Nat) (s : Str) (h : FitS s) : cs (k + 1) 4 [.d (.str s)] = some (.bl (varS s), [.d (.str s)]) := by
  show defM 1 2 (m_is_variable (cs k)) [.d (.str s)] = _
  unfold m_is_variable varS
  walk_at "ev"
  simp only [len_str h.size]
  walk_at "ev"
  by_cases h1 : (1 : Int) ≤ s.length
  · by_cases h2 : (s.length : Int) ≤ 4
    · obtain ⟨c, r, e⟩ := nonempty h1
      have ef : firstS s = inS largeS c := by unfold firstS; rw [e]
      simp only [h1, h2, decide_true, if_true]
      walk_at "ev"
      rw [first_ix h e]
      walk_at "ev"
      rw [in_sgn]
      walk_at "ev"
      rw [ef]
      cases inS largeS c with
      | false => rfl
      | true =>
        simp only [if_true, Bool.true_and]
        walk_at "ev"
        rw [rest_sl h]
        walk_at "ev"
        rw [all_in _ (restS s) 1 [.d (.str s), .no] rfl h.rest.size]
        simp only [Option.bind_some, all1, bls_map, all_map]
        rfl
    · simp only [h1, h2, decide_true, decide_false, if_true]
      walk_at "ev"
      simp only [Bool.and_false, Bool.false_and, Bool.true_and]
  · simp only [h1, decide_false, Bool.false_and]
    walk_at "ev"
def varD (d : D) : Bool := match d with
  | .str s => varS s
  | _ => false
theorem e_var0 (k : Nat) (d : D) (h : kindOk d = true) (hs : isStrD d = false) : cs (k + 1) 4 [.d d] = some (.bl false, [.d d]) := by
  cases d <;> first | (cases h; done) | (cases hs; done) | rfl
theorem e_var (k : Nat) (d : D) (h : Fit1 d) : cs (k + 1) 4 [.d d] = some (.bl (varD d), [.d d]) := by
  cases hs : isStrD d with
  | false =>
    rw [e_var0 k d h.k hs]
    cases d <;> first | rfl | cases hs
  | true =>
    cases d <;> first | (cases hs; done) | skip
    exact e_varS k _ (h.s _ rfl)
/-! ### pieces -/
/-- data all of whose parts are fit, to any depth -/
inductive Fit : D → Prop
  | mk {d : D} (h : Fit1 d) (ht : ∀ xs, d = .tup xs → ∀ x ∈ xs, Fit x) : Fit d
theorem Fit.one {d : D} (h : Fit d) : Fit1 d := by cases h; assumption
theorem Fit.tup {xs : List D} (h : Fit (.tup xs)) : ∀ x ∈ xs, Fit x := by
  cases h with
  | mk h1 h2 => exact h2 xs rfl
/-- the word of a piece that is no variable -/
def headOk (m : Bool) (xs : List D) : Bool := match xs with
  | w :: r => dotD 2 w || (m && decide (0 < r.length) && dotD 3 w)
  | [] => false
def pieceD (m : Bool) (d : D) : Bool := varD d || match d with
  | .tup xs => decide (1 ≤ xs.length) && decide (xs.length ≤ 4) && headOk m xs
  | _ => false
theorem tup_ix0 (w : D) (r : List D) : ixD (.tup (w :: r)) (.int 0) = some w := by
  show L2.atI (w :: r) 0 = some w
  unfold L2.atI ixN
  rw [if_pos (Int.le_refl 0), if_pos (by rw [List.length_cons]; omega)]
  rfl
theorem e_piece (k : Nat) (d : D) (m : Bool) (h : Fit d) : cs (k + 4) 5 [.d d, .d (.bl m)] = some (.bl (pieceD m d), [.d d, .d (.bl m)]) := by
  show defM 2 2 (m_is_piece (cs (k + 3))) [.d d, .d (.bl m)] = _
  unfold m_is_piece pieceD
  walk_at "ev"
  rw [e_var (k + 2) d h.one]
  walk_at "ev"
  cases hv : varD d with
  | true => rfl
  | false =>
    simp only [Bool.false_eq_true, if_false, Bool.false_or]
    walk_at "ev"
    cases ht : isTupD d with
    | false =>
      have hk := h.one.k
      cases d <;> first | (cases hk; done) | (cases ht; done) | rfl
    | true =>
      cases d <;> first | (cases ht; done) | skip
      rename_i xs
      walk_at "ev"
      cases xs with
      | nil => rfl
      | cons w r =>
        have hw : Fit1 w := (h.tup w List.mem_cons_self).one
        have e1 : ((1 : Int) ≤ ((w :: r).length : Nat)) := by rw [List.length_cons]; omega
        have e1' : 1 ≤ (w :: r).length := by rw [List.length_cons]; omega
        have i0 : ixD (.tup (w :: r)) (.int 0) = some w := tup_ix0 w r
        by_cases h4 : (w :: r).length ≤ 4
        · have e2 : (((w :: r).length : Nat) : Int) ≤ 1 + 3 := by omega
          simp only [e1, e2, e1', h4, decide_true, if_true, Bool.true_and, Option.bind_some, isBl_bl, Bool.not_true, Bool.false_eq_true, if_false]
          walk_at "ev"
          rw [i0]
          walk_at "ev"
          rw [e_word k w hw]
          walk_at "ev"
          rw [show headOk m (w :: r) = (dotD 2 w || (m && decide (0 < r.length) && dotD 3 w)) from rfl]
          cases hd : dotD 2 w with
          | true =>
            simp only [if_true, Bool.true_or]
            walk_at "ev"
          | false =>
            simp only [Bool.false_eq_true, if_false, Bool.false_or]
            walk_at "ev"
            cases m with
            | false =>
              simp only [Bool.false_and]
              walk_at "ev"
            | true =>
              simp only [if_true, Bool.true_and]
              walk_at "ev"
              by_cases hr : 0 < r.length
              · have e3 : (1 : Int) < (r.length + 1 : Nat) := by omega
                simp only [e3, hr, decide_true, if_true, Bool.true_and]
                walk_at "ev"
                rw [i0]
                walk_at "ev"
                rw [e_mword k w hw]
                rfl
              · have e3 : ¬ (1 : Int) < (r.length + 1 : Nat) := by omega
                simp only [e3, hr, decide_false, Bool.false_and]
                walk_at "ev"
        · have e2 : ¬ (((w :: r).length : Nat) : Int) ≤ 1 + 3 := by omega
          simp only [e1, e2, e1', h4, decide_true, decide_false, if_true, Bool.true_and, Bool.false_and, Option.bind_some, isBl_bl, Bool.not_false]
          walk_at "ev"
end Nv

set_option Elab.async false
set_option linter.all false
set_option maxRecDepth 100000
set_option maxHeartbeats 4000000
namespace Nv
open PySem L2 PyProof.Rows PySem.Spec
local macro_rules | `(tactic| walk_at "ev") => `(tactic| try simp only [defM, mSeq, mIf, mOr, mAnd, mNot, mTru, mIs, mVar, mC, mBl, mChain, mCb, mCons, mNil, mRet, mNext, mAndV, mOrV, mNotV, mOp, mAll, mLst, mSz, mTup, mLc, mLc2, mIStr, mIList, mITup, mYes, mSl, mOSome, mONone, mM1, mSet, mCall, mCallK,
  Option.bind_some, Option.bind_none, le_int, lt_int, gt_int, ge_int, sub_int, add_int, iadd_int, mAug, isD1, dOf, allNo, len_lst, len_tup, isBl_bl, isInt_int, isStr_str, isLst_lst, isTup_tup, data_d, tru_bl, kind_str, kind_tup, kind_lst, kind_bl, kind_int, kind_non, kind_dct, eq_int, in_taken, in_taken2, List.length_cons, List.length_nil, List.cons_append, List.nil_append, List.replicate, List.getElem?_cons_zero, List.getElem?_cons_succ, List.set_cons_zero, List.set_cons_succ, if_true, if_false, Bool.not_true, Bool.not_false, Bool.false_eq_true, Option.any_some, isNo, freeB, Sl.pinned, List.map_cons, List.map_nil, allNo, List.all_cons, List.all_nil, Bool.and_true, mergeS, Nat.reduceAdd, Nat.reduceSub, Nat.zero_add])

/-! ### levels -/
theorem cut1 {α : Type} (xs : List α) : cut xs (some 1) none = xs.drop 1 := by
  unfold cut
  have h0 : HT.sIx xs.length 0 (some 1) = min 1 xs.length := HT.sIx_nat _ _ 1
  have h1 : HT.sIx xs.length xs.length none = xs.length := rfl
  rw [h0, h1]
  cases xs with
  | nil => rfl
  | cons x r =>
    have : min 1 (x :: r).length = 1 := by rw [List.length_cons]; omega
    rw [this]
    simp
def kidsD (d : D) : List D := match d with
  | .tup xs => xs.drop 1
  | _ => []
theorem Fit.kids {d : D} (h : Fit d) : ∀ x ∈ kidsD d, Fit x := by
  cases d <;> first | exact fun x hx => by cases hx | skip
  exact fun x hx => h.tup x (List.mem_of_mem_drop hx)
theorem loop_app {b : List D → M (List D)} {f : D → List D} {j : Nat} {vs : List Nat} {e : Env} (hj : e[j]? = some .no) (hv : allNo vs e = true) : ∀ (ds acc : List D),
    (∀ d ∈ ds, ∀ acc : List D, acc.length + (f d).length ≤ sizeLine → b acc (e.set j (.d d)) = some (acc ++ f d, e.set j (.d d))) → acc.length + (ds.flatMap f).length ≤ sizeLine → loopGo b j vs ds acc e = some (acc ++ ds.flatMap f, e)
  | [], acc, _, _ => by rw [List.flatMap_nil, List.append_nil]; rfl
  | d :: ds, acc, hb, hl => by
    rw [List.flatMap_cons, List.length_append] at hl
    unfold loopGo
    rw [hb d List.mem_cons_self acc (by omega)]
    simp only [Option.bind_some, set_no hj, hv, if_true]
    rw [loop_app hj hv ds (acc ++ f d) (fun x hx => hb x (List.mem_cons_of_mem _ hx)) (by rw [List.length_append]; omega), List.flatMap_cons, List.append_assoc]
/-- for part in xs, each as it is -/
theorem loop_self {j : Nat} {e : Env} (hj : e[j]? = some .no) (xs acc : List D) (hl : acc.length + xs.length ≤ sizeLine) : loopGo (mBS mYes (mVar j)) j [j] xs acc e = some (acc ++ xs, e) := by
  have hv : allNo [j] e = true := by unfold allNo; simp [hj, isNo]
  have jl : j < e.length := (List.getElem?_eq_some_iff.mp hj).1
  have hf : ∀ xs : List D, xs.flatMap (fun d => [d]) = xs := fun xs => by simp
  have := loop_app (b := mBS mYes (mVar j)) (f := fun d => [d]) hj hv xs acc (fun d hd acc hl => ?_) (by rw [hf]; exact hl)
  · rw [this, hf]
  · have hz : acc.length < sizeLine := by simp at hl; omega
    have hm : mVar j (e.set j (.d d)) = some (d, e.set j (.d d)) := by
      unfold mVar
      rw [List.getElem?_set_self jl]
      simp only [Option.bind_some, Sl.data, List.set_set]
    unfold mBS mYes
    simp only [Option.bind_some, if_true, hm, if_pos hz]
def bodyW (c : Nat → Fm) : MS := (mSeq (mAug 3 iaddD (mCb lenD (mCons (mVar 2) mNil)))
    (mSeq (mAug 4 iaddD (mC (.int 1)))
    (mSeq (mIf (mOr (mBl (mOp gtD (mVar 3) (mC (.int 40)))) (mOr (mBl (mOp gtD (mVar 4) (mC (.int 6)))) (mNot (mTru (mAll (mCons (mLst (mLc (mIList (mVar 2)) mYes (mCall 2 (c 5) (mCons (mVar 5) (mCons (mVar 1) mNil))) 5)) mNil)))))) (mRet (mC (.bl false))) mNext)
    (mSet 2 (mLst (mLc2 (mIList (mVar 2)) (mTru (mIs isTupD (mVar 5))) (mITup (mSl (mVar 5) (mOSome (mC (.int 1))) mONone)) mYes (mVar 6) 5 6))))))
/-- the next level -/
theorem level_of (d0 : D) (b : Sl) (l s dp : Sl) (level : List D) (hk : ∀ x ∈ level, Fit x) (hl : (level.flatMap kidsD).length ≤ sizeLine) :
    loopGo (mBO (mTru (mIs isTupD (mVar 5))) (mITup (mSl (mVar 5) (mOSome (mC (.int 1))) mONone)) 6 mYes (mVar 6)) 5 [5, 6] level [] [.d d0, b, l, s, dp, .no, .no] = some (level.flatMap kidsD, [.d d0, b, l, s, dp, .no, .no]) := by
  rw [loop_app (f := kidsD) rfl rfl level [] (fun d hd acc hl => ?_) (by rw [List.length_nil, Nat.zero_add]; exact hl), List.nil_append]
  have h1 := (hk d hd).one.k
  unfold mBO
  cases ht : isTupD d with
  | false =>
    have e0 : kidsD d = [] := by cases d <;> first | rfl | cases ht
    rw [e0, List.append_nil]
    cases d <;> first | (cases h1; done) | (cases ht; done) | rfl
  | true =>
    cases d <;> first | (cases ht; done) | skip
    rename_i xs
    walk_at "ev"
    rw [show isTupD (.tup xs) = true from rfl]
    walk_at "ev"
    rw [show slD (.tup xs) (some 1) none = some (.tup (cut xs (some 1) none)) from rfl, cut1]
    walk_at "ev"
    rw [loop_self rfl _ acc (by exact hl)]
    rfl

theorem pieces_of {k : Nat} {m : Bool} {d0 : D} {l s dp y : Sl} (level : List D) (hk : ∀ x ∈ level, Fit x) (hl : level.length ≤ sizeLine) :
    lcGo 5 mYes (mCall 2 (cs (k + 4) 5) (mCons (mVar 5) (mCons (mVar 1) mNil))) level [] [.d d0, .d (.bl m), l, s, dp, .no, y] = some (level.map (fun x => D.bl (pieceD m x)), [.d d0, .d (.bl m), l, s, dp, .no, y]) := by
  rw [lc_map (f := fun x => D.bl (pieceD m x)) rfl level [] (fun d hd => ?_) (by rw [List.length_nil, Nat.zero_add]; exact hl), List.nil_append]
  walk_at "ev"
  rw [e_piece k d m (hk d hd)]
  rfl
def withinL (m : Bool) : Nat → List D → Nat → Bool
  | r, level, s => if level.isEmpty = true then true else match r with
    | 0 => false
    | r + 1 => if s + level.length ≤ 40 ∧ level.all (pieceD m) = true then withinL m r (level.flatMap kidsD) (s + level.length) else false
theorem kids_few {m : Bool} {d : D} (h : pieceD m d = true) : (kidsD d).length ≤ 3 := by
  cases d <;> first | exact Nat.zero_le _ | skip
  rename_i xs
  have h : (false || (decide (1 ≤ xs.length) && decide (xs.length ≤ 4) && headOk m xs)) = true := h
  simp only [Bool.false_or, Bool.and_eq_true, decide_eq_true_eq] at h
  show (xs.drop 1).length ≤ 3
  rw [List.length_drop]
  omega
theorem flat_few {m : Bool} : ∀ {level : List D}, level.all (pieceD m) = true → (level.flatMap kidsD).length ≤ 3 * level.length
  | [], _ => Nat.le_refl _
  | d :: ds, h => by
    rw [List.all_cons, Bool.and_eq_true] at h
    have a := kids_few h.1
    have b := flat_few h.2
    rw [List.flatMap_cons, List.length_append, List.length_cons]
    omega
theorem wh_within (k : Nat) (m : Bool) (d0 : D) : ∀ (r : Nat) (level : List D) (s n : Nat), r ≤ 6 → r + 2 ≤ n → (∀ x ∈ level, Fit x) →
    ∃ e', whGo (mTru (mVar 2)) (bodyW (cs (k + 4))) n [.d d0, .d (.bl m), .d (.lst level), .d (.int s), .d (.int (6 - r : Nat)), .no, .no] = some (if withinL m r level s = true then Out.nx else .rt (.bl false), e')
  | r, level, s, 0, _, h, _ => by omega
  | r, level, s, n + 1, hr, hn, hf => by
    unfold whGo
    walk_at "ev"
    rw [show truD (.lst level) = some (!level.isEmpty) from rfl]
    walk_at "ev"
    cases he : level.isEmpty with
    | true =>
      have e : level = [] := List.isEmpty_iff.mp he
      subst e
      have hw : withinL m r [] s = true := by cases r <;> rfl
      rw [hw]
      exact ⟨_, rfl⟩
    | false =>
      simp only [Bool.not_false, if_true]
      unfold bodyW
      walk_at "ev"
      by_cases h1 : s + level.length ≤ 40
      · have c1 : ¬ (40 : Int) < (s : Int) + (level.length : Int) := by omega
        simp only [c1, decide_false, Bool.false_eq_true, if_false]
        walk_at "ev"
        cases r with
        | zero =>
          have c2 : (6 : Int) < ((6 - 0 : Nat) : Int) + 1 := by omega
          simp only [c2, decide_true, if_true]
          walk_at "ev"
          have hw : withinL m 0 level s = false := by unfold withinL; rw [he]; rfl
          rw [hw]
          exact ⟨_, rfl⟩
        | succ r =>
          have c2 : ¬ (6 : Int) < ((6 - (r + 1) : Nat) : Int) + 1 := by omega
          simp only [c2, decide_false, Bool.false_eq_true, if_false]
          walk_at "ev"
          rw [pieces_of level hf (by have : sizeLine = 2 ^ 24 := rfl; omega)]
          simp only [Option.bind_some, all1, bls_map, all_map]
          walk_at "ev"
          unfold withinL
          rw [he]
          simp only [Bool.false_eq_true, if_false, h1, true_and]
          cases ha : level.all (pieceD m) with
          | false =>
            simp only [Bool.not_false, if_true, Bool.false_eq_true, if_false]
            walk_at "ev"
            exact ⟨_, rfl⟩
          | true =>
            simp only [Bool.not_true, Bool.false_eq_true, if_false, if_true]
            walk_at "ev"
            have hz := flat_few ha
            rw [level_of d0 _ _ _ _ level hf (by have : sizeLine = 2 ^ 24 := rfl; omega)]
            walk_at "ev"
            have e1 : ((s : Int) + (level.length : Int)) = ((s + level.length : Nat) : Int) := by omega
            have e2 : (((6 - (r + 1) : Nat) : Int) + 1) = ((6 - r : Nat) : Int) := by omega
            rw [e1, e2]
            exact wh_within k m d0 r (level.flatMap kidsD) (s + level.length) n (by omega) (by omega) fun x hx => by
              obtain ⟨d, hd, hx⟩ := List.mem_flatMap.mp hx
              exact (hf d hd).kids x hx
      · have c1 : (40 : Int) < (s : Int) + (level.length : Int) := by omega
        simp only [c1, decide_true, if_true]
        walk_at "ev"
        have hw : withinL m r level s = false := by
          unfold withinL
          rw [he]
          cases r with
          | zero => rfl
          | succ r => simp [h1]
        rw [hw]
        exact ⟨_, rfl⟩

theorem e_within (k : Nat) (d : D) (m : Bool) (h : Fit d) : cs (k + 5) 6 [.d d, .d (.bl m)] = some (.bl (withinL m 6 [d] 0), [.d d, .d (.bl m)]) := by
  obtain ⟨e', hw⟩ := wh_within k m d 6 [d] 0 1000 (Nat.le_refl _) (by omega) fun x hx => by rw [List.mem_singleton.mp hx]; exact h
  have hw : mWhile 1000 (mTru (mVar 2)) (bodyW (cs (k + 4))) [.d d, .d (.bl m), .d (.lst [d]), .d (.int 0), .d (.int 0), .no, .no] = _ := hw
  show defM 2 7 (mSeq (mSet 2 (mLst (mSz (mCons (mVar 0) mNil)))) (mSeq (mSet 3 (mC (.int 0))) (mSeq (mSet 4 (mC (.int 0))) (mSeq (mWhile 1000 (mTru (mVar 2)) (bodyW (cs (k + 4)))) (mRet (mC (.bl true))))))) [.d d, .d (.bl m)] = _
  generalize mWhile 1000 (mTru (mVar 2)) (bodyW (cs (k + 4))) = B at hw ⊢
  walk_at "ev"
  rw [if_pos (by decide : (1 : Nat) ≤ sizeLine)]
  walk_at "ev"
  rw [hw]
  cases withinL m 6 [d] 0 with
  | true =>
    simp only [if_true, Option.bind_some]
    cases e' with
    | nil => rfl
    | cons a e' => cases e' <;> rfl
  | false =>
    simp only [Bool.false_eq_true, if_false, Option.bind_some]
    cases e' with
    | nil => rfl
    | cons a e' => cases e' <;> rfl
end Nv

set_option Elab.async false
set_option linter.all false
set_option maxRecDepth 100000
set_option maxHeartbeats 4000000
namespace Nv
open PySem L2 PyProof.Rows PySem.Spec
/-! ### both count alike -/
def okT (m : Bool) : Nat → D → Bool
  | 0, _ => false
  | n + 1, d => pieceD m d && (kidsD d).all (okT m n)
def cnt : Nat → D → Nat
  | 0, _ => 0
  | n + 1, d => 1 + ((kidsD d).map (cnt n)).sum
theorem cnt_pos {m : Bool} : ∀ {n : Nat} {d : D}, okT m n d = true → 0 < cnt n d
  | 0, _, h => by cases h
  | n + 1, d, _ => by show 0 < 1 + _; omega
def sumC (n : Nat) (l : List D) : Nat := (l.map (cnt n)).sum
theorem sumC_flat (n : Nat) : ∀ l : List D, sumC (n + 1) l = l.length + sumC n (l.flatMap kidsD)
  | [] => rfl
  | d :: l => by
    have ih := sumC_flat n l
    unfold sumC at ih ⊢
    rw [List.map_cons, List.sum_cons, ih, List.flatMap_cons, List.map_append, List.sum_append, List.length_cons]
    show (1 + _) + _ = _
    omega
theorem allk_flat (m : Bool) (n : Nat) : ∀ l : List D, l.all (okT m (n + 1)) = (l.all (pieceD m) && (l.flatMap kidsD).all (okT m n))
  | [] => rfl
  | d :: l => by
    rw [List.all_cons, List.all_cons, List.flatMap_cons, List.all_append, allk_flat m n l]
    show ((pieceD m d && (kidsD d).all (okT m n)) && _) = _
    cases pieceD m d <;> cases (kidsD d).all (okT m n) <;> cases l.all (pieceD m) <;> simp
theorem within_of (m : Bool) : ∀ (r : Nat) (l : List D) (s : Nat), withinL m r l s = (l.isEmpty || (l.all (okT m r) && decide (s + sumC r l ≤ 40)))
  | 0, l, s => by
    unfold withinL
    cases l with
    | nil => rfl
    | cons d l => rfl
  | r + 1, l, s => by
    unfold withinL
    cases he : l.isEmpty with
    | true => rfl
    | false =>
      simp only [Bool.false_eq_true, if_false, Bool.false_or]
      rw [allk_flat, sumC_flat, within_of m r]
      cases hp : l.all (pieceD m) with
      | false => simp
      | true =>
        simp only [and_true, Bool.true_and]
        by_cases h : s + l.length ≤ 40
        · rw [if_pos h]
          cases hk : (l.flatMap kidsD).isEmpty with
          | true =>
            have e := List.isEmpty_iff.mp hk
            rw [e]
            have : s + (l.length + sumC r []) ≤ 40 := h
            simp [this]
          | false => simp only [Bool.false_or, Nat.add_assoc]
        · rw [if_neg h]
          have : ¬ s + (l.length + sumC r (l.flatMap kidsD)) ≤ 40 := by omega
          simp [this]
end Nv

set_option Elab.async false
set_option linter.all false
set_option maxRecDepth 100000
set_option maxHeartbeats 4000000
namespace Nv
open PySem L2 PyProof.Rows PySem.Spec
/-! ShG: which data may be shown, and how long what is shown is. -/
def strB (s : Str) : Bool := decide (s.length ≤ 100) && s.cps.toList.all (fun c => decide (c < 0x110000))
theorem strB_fit {s : Str} (h : strB s = true) : FitS s := by
  unfold strB at h
  rw [Bool.and_eq_true] at h
  exact ⟨of_decide_eq_true h.1, fun c hc => of_decide_eq_true (List.all_eq_true.mp h.2 c hc)⟩
def keyB : Key → Bool
  | .inl i => decide (i.natAbs.log2 < 1000)
  | .inr s => strB s
mutual
/-- data that may be shown -/
def okB : D → Bool
  | .non => true
  | .bl _ => true
  | .int i => decide (i.natAbs.log2 < 1000)
  | .str s => strB s
  | .lst xs => okAll xs
  | .tup xs => okAll xs
  | .dct kvs => okKv kvs
  | _ => false
def okAll : List D → Bool
  | [] => true
  | d :: ds => okB d && okAll ds
def okKv : List (Key × D) → Bool
  | [] => true
  | (k, d) :: r => keyB k && okB d && okKv r
end
mutual
/-- no less than what is shown of it is long -/
def wt : D → Nat
  | .non => 4
  | .bl _ => 5
  | .int _ => 1002
  | .str s => 10 * s.length + 2
  | .lst xs => wtAll xs + 3
  | .tup xs => wtAll xs + 3
  | .dct kvs => wtKv kvs + 3
  | _ => 0
def wtAll : List D → Nat
  | [] => 0
  | d :: ds => wt d + 2 + wtAll ds
def wtKv : List (Key × D) → Nat
  | [] => 0
  | (_, d) :: r => 1006 + wt d + wtKv r
end
mutual
theorem wt_ok : ∀ d : D, okB d = true → d.py.shown.length ≤ wt d ∧ d.py.showable = true ∧ d.plain = true
  | .non, _ => ⟨by decide, rfl, rfl⟩
  | .bl b, _ => ⟨by cases b <;> decide, rfl, rfl⟩
  | .int i, h => by
    have h : i.natAbs.log2 < 1000 := of_decide_eq_true h
    refine ⟨?_, decide_eq_true (by omega), rfl⟩
    have := int_text_length_le (a := i) (k := 1000) (by decide) h
    show (Str.ofString (toString i)).length ≤ 1002
    rw [PySem.ofString_length]
    omega
  | .str s, h => by
    have f := strB_fit (s := s) h
    refine ⟨?_, rfl, rfl⟩
    exact PySem.StrLaws.reprText_len s fun c hc => Nat.lt_of_lt_of_le (f.ok c hc) (by decide)
  | .lst xs, h => by
    obtain ⟨a, b, c⟩ := wt_all xs h
    refine ⟨?_, b, c⟩
    have := listText_len_le (PyData.shownAll (pyAll xs))
    show (listText (PyData.shownAll (pyAll xs))).length ≤ wtAll xs + 3
    omega
  | .tup xs, h => by
    obtain ⟨a, b, c⟩ := wt_all xs h
    refine ⟨?_, b, c⟩
    have := tupleText_len_le (PyData.shownAll (pyAll xs))
    show (tupleText (PyData.shownAll (pyAll xs))).length ≤ wtAll xs + 3
    omega
  | .dct kvs, h => by
    obtain ⟨a, b, c⟩ := wt_kv kvs h
    refine ⟨?_, b, c⟩
    have := dictText_len_le (PyData.shownKv (pyKv kvs))
    show (dictText (PyData.shownKv (pyKv kvs))).length ≤ wtKv kvs + 3
    omega
  | .ins _ _, h => by cases h
  | .ty _, h => by cases h
  | .frl _, h => by cases h
theorem wt_all : ∀ ds : List D, okAll ds = true → ((PyData.shownAll (pyAll ds)).map (·.length)).sum + 2 * (PyData.shownAll (pyAll ds)).length ≤ wtAll ds ∧ PyData.showableAll (pyAll ds) = true ∧ plainAll ds = true
  | [], _ => ⟨Nat.le_refl _, rfl, rfl⟩
  | d :: ds, h => by
    have h : (okB d && okAll ds) = true := h
    rw [Bool.and_eq_true] at h
    obtain ⟨a, b, c⟩ := wt_ok d h.1
    obtain ⟨a', b', c'⟩ := wt_all ds h.2
    refine ⟨?_, ?_, ?_⟩
    · show ((d.py.shown :: PyData.shownAll (pyAll ds)).map (·.length)).sum + 2 * (d.py.shown :: PyData.shownAll (pyAll ds)).length ≤ wt d + 2 + wtAll ds
      rw [List.map_cons, List.sum_cons, List.length_cons]
      omega
    · show (d.py.showable && PyData.showableAll (pyAll ds)) = true
      rw [b, b']
      rfl
    · show (d.plain && plainAll ds) = true
      rw [c, c']
      rfl
theorem wt_kv : ∀ ds : List (Key × D), okKv ds = true → ((PyData.shownKv (pyKv ds)).map (·.length)).sum + 2 * (PyData.shownKv (pyKv ds)).length ≤ wtKv ds ∧ PyData.showableKv (pyKv ds) = true ∧ plainKv ds = true
  | [], _ => ⟨Nat.le_refl _, rfl, rfl⟩
  | (.inl i, d) :: ds, h => by
    have h : (decide (i.natAbs.log2 < 1000) && okB d && okKv ds) = true := h
    rw [Bool.and_eq_true, Bool.and_eq_true] at h
    obtain ⟨⟨h0, h1⟩, h2⟩ := h
    have h0 : i.natAbs.log2 < 1000 := of_decide_eq_true h0
    obtain ⟨a, b, c⟩ := wt_ok d h1
    obtain ⟨a', b', c'⟩ := wt_kv ds h2
    have kl : (Str.ofString (toString i)).length ≤ 1002 := by
      have := int_text_length_le (a := i) (k := 1000) (by decide) h0
      rw [PySem.ofString_length]
      omega
    refine ⟨?_, ?_, ?_⟩
    · show ((((Str.ofString (toString i)) ++ (": " : Str) ++ d.py.shown) :: PyData.shownKv (pyKv ds)).map (·.length)).sum + 2 * ((Str.ofString (toString i) ++ (": " : Str) ++ d.py.shown) :: PyData.shownKv (pyKv ds)).length ≤ 1006 + wt d + wtKv ds
      rw [List.map_cons, List.sum_cons, List.length_cons, strLen_append, strLen_append]
      have : ((": " : Str)).length = 2 := rfl
      omega
    · show ((PyData.int i).showable && d.py.showable && PyData.showableKv (pyKv ds)) = true
      have : (PyData.int i).showable = true := decide_eq_true (by omega)
      rw [b, b', this]
      rfl
    · show (d.plain && plainKv ds) = true
      rw [c, c']
      rfl
  | (.inr s, d) :: ds, h => by
    have h : (strB s && okB d && okKv ds) = true := h
    rw [Bool.and_eq_true, Bool.and_eq_true] at h
    obtain ⟨⟨h0, h1⟩, h2⟩ := h
    have f := strB_fit h0
    obtain ⟨a, b, c⟩ := wt_ok d h1
    obtain ⟨a', b', c'⟩ := wt_kv ds h2
    have kl : (reprText s).length ≤ 1002 := by
      have := PySem.StrLaws.reprText_len s fun c hc => Nat.lt_of_lt_of_le (f.ok c hc) (by decide)
      have := f.le
      omega
    refine ⟨?_, ?_, ?_⟩
    · show (((reprText s ++ (": " : Str) ++ d.py.shown) :: PyData.shownKv (pyKv ds)).map (·.length)).sum + 2 * ((reprText s ++ (": " : Str) ++ d.py.shown) :: PyData.shownKv (pyKv ds)).length ≤ 1006 + wt d + wtKv ds
      rw [List.map_cons, List.sum_cons, List.length_cons, strLen_append, strLen_append]
      have : ((": " : Str)).length = 2 := rfl
      omega
    · show ((PyData.str s).showable && d.py.showable && PyData.showableKv (pyKv ds)) = true
      rw [b, b']
      rfl
    · show (d.plain && plainKv ds) = true
      rw [c, c']
      rfl
end
theorem rok_of {d : D} (h : okB d = true) (hw : wt d ≤ 16000000) (hd : d.py.depth ≤ 60) (ht : tells d.py = true) : rokB d = true := by
  obtain ⟨a, b, c⟩ := wt_ok d h
  exact rokB_iff ⟨c, ht, b, hd, Nat.le_trans a (Nat.le_trans hw (by decide))⟩
mutual
theorem fit_ok : ∀ d : D, okB d = true → Fit d
  | .non, _ => ⟨⟨rfl, fun _ h => by cases h⟩, fun _ h => by cases h⟩
  | .bl _, _ => ⟨⟨rfl, fun _ h => by cases h⟩, fun _ h => by cases h⟩
  | .int _, _ => ⟨⟨rfl, fun _ h => by cases h⟩, fun _ h => by cases h⟩
  | .lst _, _ => ⟨⟨rfl, fun _ h => by cases h⟩, fun _ h => by cases h⟩
  | .dct _, _ => ⟨⟨rfl, fun _ h => by cases h⟩, fun _ h => by cases h⟩
  | .ins _ _, h => by cases h
  | .ty _, h => by cases h
  | .frl _, h => by cases h
  | .str s, h => ⟨⟨rfl, fun t e => by cases e; exact strB_fit h⟩, fun _ h => by cases h⟩
  | .tup xs, h => ⟨⟨rfl, fun _ h => by cases h⟩, fun ys e x hx => by cases e; exact fit_okAll xs h x hx⟩
theorem fit_okAll : ∀ ds : List D, okAll ds = true → ∀ x ∈ ds, Fit x
  | [], _, x, hx => by cases hx
  | d :: ds, h, x, hx => by
    have h : (okB d && okAll ds) = true := h
    rw [Bool.and_eq_true] at h
    rcases List.mem_cons.mp hx with z | z
    · rw [z]; exact fit_ok d h.1
    · exact fit_okAll ds h.2 x z
end
theorem okAll_iff : ∀ {ds : List D}, okAll ds = true ↔ (∀ d ∈ ds, okB d = true)
  | [] => ⟨fun _ _ h => (by cases h), fun _ => rfl⟩
  | d :: ds => by
    show (okB d && okAll ds) = true ↔ _
    rw [Bool.and_eq_true, okAll_iff]
    simp
theorem wtAll_append : ∀ (a b : List D), wtAll (a ++ b) = wtAll a + wtAll b
  | [], b => by show wtAll b = 0 + wtAll b; omega
  | x :: a, b => by
    show wt x + 2 + wtAll (a ++ b) = wt x + 2 + wtAll a + wtAll b
    rw [wtAll_append a b]
    omega
theorem wt_mem : ∀ {ds : List D} {d : D}, d ∈ ds → wt d ≤ wtAll ds
  | [], d, h => by cases h
  | x :: ds, d, h => by
    show wt d ≤ wt x + 2 + wtAll ds
    rcases List.mem_cons.mp h with z | z
    · rw [z]; omega
    · have := wt_mem z
      omega
theorem depth_mem : ∀ {ds : List D} {d : D}, d ∈ ds → d.py.depth ≤ PyData.depthAll (pyAll ds)
  | [], d, h => by cases h
  | x :: ds, d, h => by
    show d.py.depth ≤ max x.py.depth (PyData.depthAll (pyAll ds))
    rcases List.mem_cons.mp h with z | z
    · rw [z]; omega
    · have := depth_mem z
      omega
theorem depthAll_le {n : Nat} : ∀ {ds : List D}, (∀ d ∈ ds, d.py.depth ≤ n) → PyData.depthAll (pyAll ds) ≤ n
  | [], _ => Nat.zero_le _
  | x :: ds, h => by
    show max x.py.depth (PyData.depthAll (pyAll ds)) ≤ n
    exact Nat.max_le.mpr ⟨h x List.mem_cons_self, depthAll_le fun d hd => h d (List.mem_cons_of_mem _ hd)⟩
theorem wtAll_le {n : Nat} : ∀ {ds : List D}, (∀ d ∈ ds, wt d ≤ n) → wtAll ds ≤ ds.length * (n + 2)
  | [], _ => Nat.zero_le _
  | x :: ds, h => by
    have h1 := h x List.mem_cons_self
    have h2 := wtAll_le (n := n) fun d hd => h d (List.mem_cons_of_mem _ hd)
    show wt x + 2 + wtAll ds ≤ (ds.length + 1) * (n + 2)
    rw [Nat.add_mul, Nat.one_mul]
    omega
/-- without dicts, without lists -/
def noDct (d : D) : Prop := d.py.hasDict = false
def noLst (d : D) : Prop := noList d.py = true
theorem tells_nd {d : D} (h : noDct d) : tells d.py = true := by
  unfold tells
  rw [show d.py.hasDict = false from h]
  rfl
theorem tells_nl {d : D} (h : noLst d) : tells d.py = true := by
  unfold tells
  rw [show noList d.py = true from h, Bool.or_true]
theorem nd_all : ∀ {ds : List D}, (∀ d ∈ ds, noDct d) → PyData.hasDictAll (pyAll ds) = false
  | [], _ => rfl
  | x :: ds, h => by
    show (x.py.hasDict || PyData.hasDictAll (pyAll ds)) = false
    rw [show x.py.hasDict = false from h x List.mem_cons_self, nd_all fun d hd => h d (List.mem_cons_of_mem _ hd)]
    rfl
theorem nl_all : ∀ {ds : List D}, (∀ d ∈ ds, noLst d) → noListAll (pyAll ds) = true
  | [], _ => rfl
  | x :: ds, h => by
    show (noList x.py && noListAll (pyAll ds)) = true
    rw [show noList x.py = true from h x List.mem_cons_self, nl_all fun d hd => h d (List.mem_cons_of_mem _ hd)]
    rfl
theorem nd_tup {ds : List D} (h : ∀ d ∈ ds, noDct d) : noDct (.tup ds) := nd_all h
theorem nd_lst {ds : List D} (h : ∀ d ∈ ds, noDct d) : noDct (.lst ds) := nd_all h
theorem nl_tup {ds : List D} (h : ∀ d ∈ ds, noLst d) : noLst (.tup ds) := nl_all h
end Nv

set_option Elab.async false
set_option linter.all false
set_option maxRecDepth 100000
set_option maxHeartbeats 4000000
namespace Nv
open PySem L2 PyProof.Rows PySem.Spec
theorem istup_tup {xs : List D} : isTupD (.tup xs) = true := rfl

/-! ### the pen -/
def pk (xs : List Int) (n l : Int) : List (Key × D) := [(.inr "cells", .lst (xs.map D.int)), (.inr "at", .int n), (.inr "left", .int l)]
theorem val_left (xs : List Int) (n l : Int) : valD (pk xs n l) (.inr "left") = some (.int l) := rfl
theorem val_at (xs : List Int) (n l : Int) : valD (pk xs n l) (.inr "at") = some (.int n) := rfl
theorem val_cells (xs : List Int) (n l : Int) : valD (pk xs n l) (.inr "cells") = some (.lst (xs.map D.int)) := rfl
theorem put_left (xs : List Int) (n l v : Int) : putD (pk xs n l) (.inr "left") (.int v) = pk xs n v := rfl
theorem put_at (xs : List Int) (n l v : Int) : putD (pk xs n l) (.inr "at") (.int v) = pk xs v l := rfl
theorem pk_len (xs : List Int) (n l : Int) : ((pk xs n l).length < sizeLine) = True := eq_true (by show 3 < sizeLine; decide)
theorem dict_pd (kvs : List (Key × D)) : (Sl.pd kvs).dict = some kvs := rfl
theorem dictTo_pd (a b : List (Key × D)) : (Sl.pd a).dictTo b = .pd b := rfl
theorem dget_left (xs : List Int) (n l : Int) (e : Env) : mDGet 0 (mC (.str "left")) (.pd (pk xs n l) :: e) = some (.int l, .pd (pk xs n l) :: e) := rfl
theorem dget_at (xs : List Int) (n l : Int) (e : Env) : mDGet 0 (mC (.str "at")) (.pd (pk xs n l) :: e) = some (.int n, .pd (pk xs n l) :: e) := rfl
theorem dget_cells (xs : List Int) (n l : Int) (e : Env) : mDGet 0 (mC (.str "cells")) (.pd (pk xs n l) :: e) = some (.lst (xs.map D.int), .pd (pk xs n l) :: e) := rfl
theorem freeB_succ (a : Sl) (e : Env) (j : Nat) : freeB (a :: e) (j + 1) = freeB e j := rfl
theorem freeB_d (x : D) (e : Env) : freeB (.d x :: e) 0 = true := rfl
theorem freeB_no (e : Env) : freeB (.no :: e) 0 = true := rfl
theorem freeB_pd (k : List (Key × D)) (e : Env) : freeB (.pd k :: e) 0 = false := rfl
theorem freeB_od (k : List (Key × D)) (e : Env) : freeB (.od k :: e) 0 = true := rfl
theorem mergeS_d (x : D) (as : List Sl) (y : Sl) (e : Env) : mergeS (.d x :: as) (y :: e) = .d x :: mergeS as e := rfl
theorem mergeS_pd (x : List (Key × D)) (as : List Sl) (y : Sl) (e : Env) : mergeS (.pd x :: as) (y :: e) = y :: mergeS as e := rfl
theorem mergeS_nil (e : Env) : mergeS [] e = [] := rfl
theorem int_int (i : Int) : intOfD [.int i] = some (.int i) := rfl
theorem int_bl (b : Bool) : intOfD [.bl b] = some (.int (if b then 1 else 0)) := rfl
theorem abs_int (i : Int) : absD [.int i] = some (.int (if i < 0 then -i else i)) := rfl
theorem mod_int (i j : Int) : intD (fun i j => if 0 < j then some (.int (i % j)) else none) (.int i) (.int j) = if 0 < j then some (.int (i % j)) else none := rfl
theorem fdiv_int (i j : Int) : intD (fun i j => if CDiv i j then some (.int (i / j)) else none) (.int i) (.int j) = if CDiv i j then some (.int (i / j)) else none := rfl
theorem mul_int (i j : Int) : intD (fun i j => if CMul i j then some (.int (i * j)) else none) (.int i) (.int j) = if CMul i j then some (.int (i * j)) else none := rfl
theorem pow_int (i j : Int) : intD (fun i j => if CPow i j then some (.int (i ^ j.toNat)) else none) (.int i) (.int j) = if CPow i j then some (.int (i ^ j.toNat)) else none := rfl
local macro_rules | `(tactic| walk_at "ev") => `(tactic| try simp only [defM, mSeq, mIf, mOr, mAnd, mNot, mTru, mIs, mVar, mC, mBl, mChain, mCb, mCons, mNil, mRet, mNext, mAndV, mOrV, mNotV, mOp, mAll, mLst, mSz, mTup, mLc, mLc2, mIStr, mIList, mITup, mYes, mSl, mOSome, mONone, mM1, mSet, mCall, mCallK,
  Option.bind_some, Option.bind_none, le_int, lt_int, gt_int, ge_int, sub_int, add_int, iadd_int, mAug, isD1, dOf, dget_left, dget_at, dget_cells, dict_pd, dictTo_pd, put_left, put_at, pk_len, int_int, int_bl, abs_int, mod_int, fdiv_int, mul_int, pow_int, istup_tup, allNo, len_lst, len_tup, isBl_bl, isInt_int, isStr_str, isLst_lst, isTup_tup, data_d, tru_bl, kind_str, kind_tup, kind_lst, kind_bl, kind_int, kind_non, kind_dct, eq_int, in_taken, in_taken2, List.length_cons, List.length_nil, List.cons_append, List.nil_append, List.replicate, List.getElem?_cons_zero, List.getElem?_cons_succ, List.set_cons_zero, List.set_cons_succ, if_true, if_false, Bool.not_true, Bool.not_false, Bool.false_eq_true, Option.any_some, isNo, freeB_succ, freeB_d, freeB_no, freeB_pd, freeB_od, List.map_cons, List.map_nil, allNo, List.all_cons, List.all_nil, Bool.and_true, mergeS_d, mergeS_pd, mergeS_nil, Nat.reduceAdd, Nat.reduceSub, Nat.zero_add])
theorem ints_shp (xs : List Int) : shp (.lst (xs.map D.int)) = true := by
  have h0 : ∀ xs : List Int, deepAll (xs.map D.int) = true ∧ PyData.canLayAll0 (pyAll (xs.map D.int)) = true ∧ PyData.depthAll (pyAll (xs.map D.int)) = 0 := by
    intro xs
    induction xs with
    | nil => exact ⟨rfl, rfl, rfl⟩
    | cons d ds ih =>
      obtain ⟨a, b, c⟩ := ih
      refine ⟨a, b, ?_⟩
      show max 0 (PyData.depthAll (pyAll (ds.map D.int))) = 0
      rw [c]
      rfl
  obtain ⟨a, b, c⟩ := h0 xs
  show (deepAll (xs.map D.int) && (PyData.canLayAll0 (pyAll (xs.map D.int)) && decide (PyData.depthAll (pyAll (xs.map D.int)) + 1 ≤ 64))) = true
  rw [a, b, c]
  rfl
theorem ne_nil {xs : List D} (h : shp (.lst xs) = true) : neXD (.lst xs) (.lst []) = some (.bl (!xs.isEmpty)) := by
  have h1 : eqX (.lst xs) (.lst []) = some (PyData.eqv (.list (pyAll xs)) (.list (pyAll []))) := by
    show (if (shp (.lst xs) && shp (.lst [])) = true then some (PyData.eqv (D.lst xs).py (D.lst []).py) else none) = _
    rw [h]
    rfl
  unfold neXD
  rw [h1]
  cases xs <;> rfl
theorem ix_ints (xs : List Int) (i : Int) (h0 : 0 ≤ i) (h1 : i < xs.length) : ∃ c, ixD (.lst (xs.map D.int)) (.int i) = some (.int c) := by
  refine ⟨xs[i.toNat]'(by omega), ?_⟩
  show L2.atI (xs.map D.int) i = _
  unfold L2.atI ixN
  rw [if_pos h0, if_pos (by rw [List.length_map]; exact h1)]
  show (xs.map D.int)[i.toNat]? = _
  rw [List.getElem?_map, List.getElem?_eq_getElem (by omega)]
  rfl
theorem le_zero : ((0 : Nat) ≤ sizeLine) = True := eq_true (Nat.zero_le _)
def cellB : MS := (mIf (mBl (mOp neXD (mDGet 0 (mC (.str "cells"))) (mLst (mSz mNil)))) (mSet 4 (mOp ixD (mDGet 0 (mC (.str "cells"))) (mOp (intD fun i j => if 0 < j then some (.int (i % j)) else none) (mCb intOfD (mCons (mVar 3) mNil)) (mCb lenD (mCons (mDGet 0 (mC (.str "cells"))) mNil))))) mNext)
theorem cell_ok (xs : List Int) (n n1 l m c0 : Int) (hn : 0 ≤ n) : ∃ c, cellB [.pd (pk xs n1 l), .d (.int m), .no, .d (.int n), .d (.int c0), .no, .no] = some (Out.nx, [.pd (pk xs n1 l), .d (.int m), .no, .d (.int n), .d (.int c), .no, .no]) := by
  unfold cellB
  walk_at "ev"
  simp only [le_zero, if_true]
  walk_at "ev"
  rw [ne_nil (ints_shp xs)]
  walk_at "ev"
  cases xs with
  | nil => exact ⟨c0, rfl⟩
  | cons x r =>
    rw [show (!((x :: r).map D.int).isEmpty) = true from rfl]
    walk_at "ev"
    have hl : (0 : Int) < (r.length + 1 : Nat) := by omega
    simp only [List.length_map, hl, if_true]
    walk_at "ev"
    obtain ⟨c, hc⟩ := ix_ints (x :: r) (n % ((r.length + 1 : Nat) : Int)) (Int.emod_nonneg _ (by omega)) (by rw [List.length_cons]; exact Int.emod_lt_of_pos _ hl)
    refine ⟨c, ?_⟩
    rw [show D.int x :: List.map D.int r = (x :: r).map D.int from rfl, hc]
    rfl
theorem e_draw (k : Nat) (xs : List Int) (n l m : Int) (hm : 0 < m ∧ m ≤ 100) (hn : 0 ≤ n ∧ n ≤ 4000000) (hl : 0 ≤ l) :
    ∃ d n' l', cs (k + 1) 8 [.pd (pk xs n l), .d (.int m)] = some (.int d, [.pd (pk xs n' l'), .d (.int m)]) ∧ 0 ≤ d ∧ d < m ∧ n ≤ n' ∧ n' ≤ n + 1 ∧ 0 ≤ l' := by
  show ∃ d n' l', defM 2 7 (m__law_draw (cs k)) [.pd (pk xs n l), .d (.int m)] = _ ∧ _
  have hB := fun c0 => cell_ok xs n (n + 1) l m c0 hn.1
  unfold m__law_draw mDPut
  unfold cellB at hB
  generalize (mIf (mBl (mOp neXD (mDGet 0 (mC (.str "cells"))) (mLst (mSz mNil)))) (mSet 4 (mOp ixD (mDGet 0 (mC (.str "cells"))) (mOp (intD fun i j => if 0 < j then some (.int (i % j)) else none) (mCb intOfD (mCons (mVar 3) mNil)) (mCb lenD (mCons (mDGet 0 (mC (.str "cells"))) mNil))))) mNext) = B at hB ⊢
  have cd : ∀ i : Int, CDiv i m := fun i => ⟨hm.1, by omega⟩
  walk_at "ev"
  by_cases h0 : 0 < l
  · simp only [h0, decide_true, if_true]
    walk_at "ev"
    simp only [hm.1, if_true]
    walk_at "ev"
    simp only [cd, if_true]
    walk_at "ev"
    exact ⟨_, _, _, rfl, Int.emod_nonneg _ (by omega), Int.emod_lt_of_pos _ hm.1, Int.le_refl _, by omega, Int.ediv_nonneg hl (by omega)⟩
  · simp only [h0, decide_false, Bool.false_eq_true, if_false]
    walk_at "ev"
    have cm : CMul 7411 n := .inl ⟨by decide, by decide⟩
    simp only [cm, if_true]
    walk_at "ev"
    obtain ⟨c, hB⟩ := hB (7411 * n + 389)
    rw [hB]
    walk_at "ev"
    have cp : CPow 10 18 := by decide
    have ee : Int.toNat 18 = 18 := rfl
    simp only [List.length_map, cp, if_true, ee]
    walk_at "ev"
    have p1 : ((0 : Int) < 2147483563) = True := eq_true (by decide)
    have p2 : ((0 : Int) < 2147483647) = True := eq_true (by decide)
    have p3 : ((0 : Int) < 2147483587) = True := eq_true (by decide)
    have c2 : ∀ i : Int, CMul 2 i := fun i => .inl ⟨by decide, by decide⟩
    have c3 : ∀ i : Int, CMul 52361 i := fun i => .inl ⟨by decide, by decide⟩
    have c4 : ∀ i : Int, CMul 70001 i := fun i => .inl ⟨by decide, by decide⟩
    have hab : 0 ≤ (if c < 0 then -c else c) := by split <;> omega
    have tst : ∃ b : Bool, (if decide (n < (xs.length : Int)) = true then some (decide ((10 : Int) ^ 18 ≤ if c < 0 then -c else c), [Sl.pd (pk xs (n + 1) l), Sl.d (D.int m), Sl.no, Sl.d (D.int n), Sl.d (D.int c), Sl.no, Sl.no]) else some (false, [Sl.pd (pk xs (n + 1) l), Sl.d (D.int m), Sl.no, Sl.d (D.int n), Sl.d (D.int c), Sl.no, Sl.no])) = some (b, [Sl.pd (pk xs (n + 1) l), Sl.d (D.int m), Sl.no, Sl.d (D.int n), Sl.d (D.int c), Sl.no, Sl.no]) := by
      split
      · exact ⟨_, rfl⟩
      · exact ⟨_, rfl⟩
    obtain ⟨b, tst⟩ := tst
    rw [tst]
    walk_at "ev"
    cases b with
    | true =>
      simp only [if_true]
      walk_at "ev"
      simp only [c2, if_true]
      walk_at "ev"
      simp only [cd, if_true]
      walk_at "ev"
      simp only [hm.1, if_true]
      walk_at "ev"
      have hg : 0 ≤ 2 * (if c < 0 then -c else c) + (if decide (c < 0) = true then 1 else 0) := by
        have : (0 : Int) ≤ (if decide (c < 0) = true then 1 else 0) := by split <;> decide
        omega
      exact ⟨_, _, _, rfl, Int.emod_nonneg _ (by omega), Int.emod_lt_of_pos _ hm.1, by omega, by omega, Int.ediv_nonneg hg (by omega)⟩
    | false =>
      simp only [Bool.false_eq_true, if_false]
      walk_at "ev"
      simp only [p1, if_true]
      walk_at "ev"
      simp only [c3, if_true]
      walk_at "ev"
      have r1 := Int.emod_nonneg c (show (2147483563 : Int) ≠ 0 by decide)
      have r2 := Int.emod_lt_of_pos c (show (0 : Int) < 2147483563 by decide)
      generalize c % 2147483563 = c1 at r1 r2 ⊢
      have cp1 : CPow (c1 + 52361 * n + 41) 3 := ⟨by decide, by decide, by omega⟩
      simp only [cp1, if_true]
      walk_at "ev"
      simp only [p2, if_true]
      walk_at "ev"
      have r3 := Int.emod_nonneg ((c1 + 52361 * n + 41) ^ Int.toNat 3) (show (2147483647 : Int) ≠ 0 by decide)
      have r4 := Int.emod_lt_of_pos ((c1 + 52361 * n + 41) ^ Int.toNat 3) (show (0 : Int) < 2147483647 by decide)
      generalize (c1 + 52361 * n + 41) ^ Int.toNat 3 % 2147483647 = c5 at r3 r4 ⊢
      simp only [c2, if_true]
      walk_at "ev"
      have cm1 : CMul c5 (2 * n + 9) := .inl ⟨by omega, by omega⟩
      simp only [cm1, if_true]
      walk_at "ev"
      simp only [c4, if_true]
      walk_at "ev"
      have cm2 : CMul (70001 * n) n := .inl ⟨by omega, by omega⟩
      simp only [cm2, if_true]
      walk_at "ev"
      have cp2 : CPow (c5 * (2 * n + 9) + 70001 * n * n + 17) 3 := by
        refine ⟨by decide, by decide, ?_⟩
        have a1 : 0 ≤ c5 * (2 * n + 9) := Int.mul_nonneg r3 (by omega)
        have a2 : c5 * (2 * n + 9) ≤ 2147483647 * 8000009 := Int.mul_le_mul (by omega) (by omega) (by omega) (by decide)
        have a3 : 0 ≤ 70001 * n * n := Int.mul_nonneg (by omega) hn.1
        have a4 : 70001 * n * n ≤ 70001 * 4000000 * 4000000 := Int.mul_le_mul (by omega) hn.2 hn.1 (by decide)
        omega
      simp only [cp2, if_true]
      walk_at "ev"
      simp only [p3, if_true]
      walk_at "ev"
      have cd32 : ∀ i : Int, CDiv i 32 := fun i => ⟨by decide, by decide⟩
      simp only [cd32, if_true]
      walk_at "ev"
      simp only [hm.1, if_true]
      walk_at "ev"
      exact ⟨_, _, _, rfl, Int.emod_nonneg _ (by omega), Int.emod_lt_of_pos _ hm.1, by omega, by omega, hl⟩
end Nv

set_option Elab.async false
set_option linter.all false
set_option maxRecDepth 100000
set_option maxHeartbeats 4000000
namespace Nv
open PySem L2 PyProof.Rows PySem.Spec
local macro_rules | `(tactic| walk_at "ev") => `(tactic| try simp only [defM, mSeq, mIf, mOr, mAnd, mNot, mTru, mIs, mVar, mC, mBl, mChain, mCb, mCons, mNil, mRet, mNext, mAndV, mOrV, mNotV, mOp, mAll, mLst, mSz, mTup, mLc, mLc2, mIStr, mIList, mITup, mYes, mSl, mOSome, mONone, mM1, mSet, mCall, mCallK,
  Option.bind_some, Option.bind_none, le_int, lt_int, gt_int, ge_int, sub_int, add_int, iadd_int, mAug, isD1, dOf, dget_left, dget_at, dget_cells, dict_pd, dictTo_pd, put_left, put_at, pk_len, int_int, int_bl, abs_int, mod_int, fdiv_int, mul_int, pow_int, istup_tup, allNo, len_lst, len_tup, isBl_bl, isInt_int, isStr_str, isLst_lst, isTup_tup, data_d, tru_bl, kind_str, kind_tup, kind_lst, kind_bl, kind_int, kind_non, kind_dct, eq_int, in_taken, in_taken2, List.length_cons, List.length_nil, List.cons_append, List.nil_append, List.replicate, List.getElem?_cons_zero, List.getElem?_cons_succ, List.set_cons_zero, List.set_cons_succ, if_true, if_false, Bool.not_true, Bool.not_false, Bool.false_eq_true, Option.any_some, isNo, freeB_succ, freeB_d, freeB_no, freeB_pd, freeB_od, List.map_cons, List.map_nil, allNo, List.all_cons, List.all_nil, Bool.and_true, mergeS_d, mergeS_pd, mergeS_nil, Nat.reduceAdd, Nat.reduceSub, Nat.zero_add])

/-! ### the pen is handed on -/
theorem callP0 {np : Nat} {c : Fm} {a : M (List D)} {K K1 K2 : List (Key × D)} {e e1 : Env} {ds : List D} {d : D} {r : List Sl} (ha : a (.pd K :: e) = some (ds, .pd K1 :: e1)) (hl : ds.length + 1 = np) (hc : c (.pd K1 :: ds.map .d) = some (d, .pd K2 :: r)) : mCallP np 0 c a (.pd K :: e) = some (d, .pd K2 :: e1) := by
  unfold mCallP
  show (some (Sl.pd K)).bind _ = _
  simp only [Option.bind_some]
  rw [ha]
  simp only [Option.bind_some]
  show (some (Sl.pd K1)).bind _ = _
  simp only [Option.bind_some, if_pos hl]
  rw [show (Sl.pd K1).lend = .pd K1 from rfl, hc]
  rfl
theorem callP1 {np : Nat} {c : Fm} {a : M (List D)} {x x1 : Sl} {K K1 K2 : List (Key × D)} {e e1 : Env} {ds : List D} {d : D} {r : List Sl} (ha : a (x :: .od K :: e) = some (ds, x1 :: .od K1 :: e1)) (hl : ds.length + 1 = np) (hc : c (.pd K1 :: ds.map .d) = some (d, .pd K2 :: r)) : mCallP np 1 c a (x :: .od K :: e) = some (d, x1 :: .od K2 :: e1) := by
  unfold mCallP
  show (some (Sl.od K)).bind _ = _
  simp only [Option.bind_some]
  rw [ha]
  simp only [Option.bind_some]
  show (some (Sl.od K1)).bind _ = _
  simp only [Option.bind_some, if_pos hl]
  rw [show (Sl.od K1).lend = .pd K1 from rfl, hc]
  rfl
/-- a pen that may still be asked -/
structure PenAt (xs : List Int) (N : Int) (K : List (Key × D)) : Prop where
  ex : ∃ n l, K = pk xs n l ∧ 0 ≤ n ∧ n ≤ N ∧ 0 ≤ l
theorem draw (k : Nat) {xs : List Int} {N m : Int} {K : List (Key × D)} (h : PenAt xs N K) (hm : 0 < m ∧ m ≤ 100) (hN : N ≤ 4000000) : ∃ d K', cs (k + 1) 8 [.pd K, .d (.int m)] = some (.int d, [.pd K', .d (.int m)]) ∧ 0 ≤ d ∧ d < m ∧ PenAt xs (N + 1) K' := by
  obtain ⟨n, l, rfl, h0, h1, h2⟩ := h.ex
  obtain ⟨d, n', l', e, a, b, c1, c2, c3⟩ := e_draw k xs n l m hm ⟨h0, by omega⟩ h2
  exact ⟨d, pk xs n' l', e, a, b, ⟨n', l', rfl, by omega, by omega, c3⟩⟩
theorem PenAt.up {xs : List Int} {N M : Int} {K : List (Key × D)} (h : PenAt xs N K) (hm : N ≤ M) : PenAt xs M K := by
  obtain ⟨n, l, e, a, b, c⟩ := h.ex
  exact ⟨n, l, e, a, by omega, c⟩
/-- draw(pen, m), the pen in the slot 0 -/
theorem draw0 (k : Nat) {xs : List Int} {N m : Int} {K : List (Key × D)} (h : PenAt xs N K) (hm : 0 < m ∧ m ≤ 100) (hN : N ≤ 4000000) : ∃ d K', (∀ e, mCallP 2 0 (cs (k + 1) 8) (mCons (mC (.int m)) mNil) (.pd K :: e) = some (.int d, .pd K' :: e)) ∧ 0 ≤ d ∧ d < m ∧ PenAt xs (N + 1) K' := by
  obtain ⟨d, K', e1, a, b, c⟩ := draw k h hm hN
  exact ⟨d, K', fun e => callP0 (ds := [.int m]) rfl rfl e1, a, b, c⟩

/-! ### odd values -/
end Nv

set_option Elab.async false
set_option linter.all false
set_option maxRecDepth 100000
set_option maxHeartbeats 1000000
namespace Nv
open PySem L2 PyProof.Rows PySem.Spec
/-! ShW: the law's own look at words. -/
section
open TL PySem.Builtin.Str PySem.StrLaws
theorem from_len (x : Str) (w : Nat) : ∀ (cuts : List Nat) (a : Nat), (partsFrom x w a cuts).length = cuts.length + 1
  | [], _ => rfl
  | c :: r, a => congrArg Nat.succ (from_len x w r (c + w))
theorem count_split (x y : Str) (hy : TL.tl y ≠ []) (hk : ¬ Builtin.Str.strKind x < Builtin.Str.strKind y) : (Txt.split x y).length = (occurrences x y 0 x.length (x.length + 1)).length + 1 := by
  obtain ⟨f, g, hn⟩ := occ_tight x y (len1 hy)
  unfold Txt.split
  by_cases h1 : (decide (x.length < y.length) || decide (Builtin.Str.strKind x < Builtin.Str.strKind y)) = true
  · rw [if_pos h1]
    have hlt : x.length < y.length := by
      simp only [Bool.or_eq_true, decide_eq_true_eq] at h1
      rcases h1 with h | h
      · exact h
      · exact absurd h hk
    have ho : occurrences x y 0 x.length (x.length + 1) = [] := by
      cases ho : occurrences x y 0 x.length (x.length + 1) with
      | nil => rfl
      | cons c r =>
        rw [ho] at g
        have hc : c + y.length ≤ x.length := g.2.1.1
        omega
    rw [ho]
    rfl
  · rw [if_neg h1]
    by_cases h2 : (occurrences x y 0 x.length (x.length + 1)).isEmpty = true
    · rw [if_pos h2, List.isEmpty_iff.mp h2]
      rfl
    · rw [if_neg h2, partsBetween_eq]
      exact from_len _ _ _ _
end
theorem count_dot (s : Str) : Txt.count s "." = ((parts s).length : Int) - 1 := by
  have := count_split s "." (by decide) (TL.kind_ok (by decide +kernel))
  unfold parts
  rw [this]
  show ((PySem.Builtin.Str.occurrences s "." 0 s.length (s.length + 1)).length : Int) = _
  omega
end Nv

set_option Elab.async false
set_option linter.all false
set_option maxRecDepth 100000
set_option maxHeartbeats 1000000
namespace Nv
open PySem L2 PyProof.Rows PySem.Spec
local macro_rules | `(tactic| walk_at "n") => `(tactic| try simp only [List.set_cons_zero, List.set_cons_succ, List.map_cons, List.map_nil, List.cons_append, List.nil_append, List.replicate, Nat.reduceSub])
local macro_rules | `(tactic| walk_at "s") => `(tactic| first
  | with_reducible refine wp_seq ?_ | with_reducible refine wk_nx ?_ | with_reducible refine wk_rt ?_ | with_reducible refine wt_nx ?_ | with_reducible refine wt_rt ?_ | with_reducible refine wt_bk ?_ | with_reducible refine wt_ct ?_ | with_reducible refine wk_bk ?_ | with_reducible refine wk_ct ?_
  | with_reducible refine wp_if ?_ | with_reducible refine wp_ret ?_ | with_reducible refine wp_next ?_ | with_reducible refine wp_retN ?_ | with_reducible refine wp_set ?_ | with_reducible refine wp_own ?_ | with_reducible refine wp_drop ?_
  | ((with_reducible refine' wp_var ?_ ?_); rotate_left; rfl) | with_reducible refine wp_c ?_ | with_reducible refine wp_op ?_ | with_reducible refine wp_un ?_ | with_reducible refine wp_cb ?_ | with_reducible refine wp_cons ?_ | with_reducible refine wp_nil ?_
  | with_reducible refine wp_bl ?_ | with_reducible refine wp_tru ?_ | with_reducible refine wp_not ?_ | with_reducible refine wp_and ?_ | with_reducible refine wp_or ?_ | with_reducible refine wp_andV ?_ | with_reducible refine wp_orV ?_ | with_reducible refine wp_notV ?_
  | with_reducible refine wp_chain ?_ | with_reducible refine wp_sz ?_ | with_reducible refine wp_lst ?_ | with_reducible refine wp_tup ?_ | with_reducible refine wp_is ?_ | with_reducible refine wp_onone ?_ | with_reducible refine wp_osome ?_ | with_reducible refine wp_sl ?_ | with_reducible refine wp_m1 ?_
  | with_reducible refine wp_all ?_ | with_reducible refine wp_repr ?_ | with_reducible refine wp_peek ?_ | with_reducible refine wp_peekT ?_ | with_reducible refine wp_addF ?_ | with_reducible refine wp_ilist ?_ | with_reducible refine wp_itup ?_ | with_reducible refine wp_istr ?_ | with_reducible refine wp_irng ?_ | with_reducible refine wp_list ?_
  | with_reducible refine wp_for ?_ | with_reducible refine wp_call ?_ | with_reducible refine wp_callK ?_ | with_reducible refine wp_lnil ?_ | with_reducible refine wp_ldat ?_ | with_reducible refine wp_callL ?_ | with_reducible refine wp_flast ?_ | with_reducible refine wp_fdat ?_ | with_reducible refine wp_callF ?_
  | with_reducible refine ⟨_, (by assumption : _ = some _), ?_⟩
  | ((with_reducible refine' call_and ?_ ?_ ?_); rotate_left 2; (· rfl); (· assumption)) | ((with_reducible refine' callk_and ?_ ?_ ?_); rotate_left 2; (· exact ⟨rfl, rfl⟩); (· assumption))
  | refine ite_t ?_ | refine ite_f ?_ | refine ite_nt ?_ | refine ite_nf ?_
  | with_reducible refine ⟨_, add_int, ?_⟩ | with_reducible refine ⟨_, iadd_int, ?_⟩ | with_reducible refine ⟨_, sub_int, ?_⟩ | with_reducible refine ⟨_, lt_int, ?_⟩ | with_reducible refine ⟨_, le_int, ?_⟩ | with_reducible refine ⟨_, gt_int, ?_⟩ | with_reducible refine ⟨_, ge_int, ?_⟩ | with_reducible refine ⟨_, eq_int, ?_⟩
  | with_reducible refine ⟨_, len_lst, ?_⟩ | with_reducible refine ⟨_, len_tup, ?_⟩ | with_reducible refine ⟨_, tru_bl, ?_⟩ | with_reducible refine ⟨_, int_int _, ?_⟩ | with_reducible refine ⟨_, int_bl _, ?_⟩
  | with_reducible refine ⟨_, rfl, ?_⟩ | ((with_reducible refine free_and ?_ ?_); (· first | rfl | assumption); walk_at "n") | ((with_reducible refine kind_and ?_ ?_); (· first | rfl | assumption)) | ((with_reducible refine size_and ?_ ?_); (· simp only [List.length_cons, List.length_nil, sizeLine_eq]; omega))
  | with_reducible refine ite_y (by assumption) ?_ | with_reducible refine ite_n (by assumption) ?_ | with_reducible refine ite_ny (by assumption) ?_ | with_reducible refine ite_nn (by assumption) ?_ | with_reducible refine ite_bt (by assumption) ?_ | with_reducible refine ite_bf (by assumption) ?_ | with_reducible refine ite_nbt (by assumption) ?_ | with_reducible refine ite_nbf (by assumption) ?_)
local macro_rules | `(tactic| walk_at "r") => `(tactic| repeat walk_at "s")
local macro_rules | `(tactic| walk_at "f") => `(tactic| (refine ⟨rfl, ?_⟩; walk_at "n"))
theorem ne_int {i j : Int} : neXD (.int i) (.int j) = some (.bl (!decide (i = j))) := rfl
theorem lstr {s : Str} {Q : D → Prop} (h : s.length ≤ sizeLine) (k : Q (.int s.length)) : ∃ z, lenD [.str s] = some z ∧ Q z := ⟨_, len_str h, k⟩
/-- what the law finds wrong of a part -/
def badB (p : Str) : Bool := !(p.cps.toList.all (inS smallS)) || !(decide ((0 : Int) < p.length) && decide ((p.length : Int) < 9)) || ((p == "self") || (p == "head"))
theorem bad_name (p : Str) : badB p = !nameS p := by
  unfold badB nameS
  have e1 : decide ((0 : Int) < (p.length : Int)) = decide ((1 : Int) ≤ p.length) := decide_eq_decide.mpr (by omega)
  have e2 : decide ((p.length : Int) < 9) = decide ((p.length : Int) ≤ 8) := decide_eq_decide.mpr (by omega)
  rw [e1, e2]
  cases decide ((1 : Int) ≤ (p.length : Int)) <;> cases decide ((p.length : Int) ≤ 8) <;> cases (p == ("self" : Str)) <;> cases (p == ("head" : Str)) <;> cases p.cps.toList.all (inS smallS) <;> rfl
theorem e_lwordN (k : Nat) (d : D) (h : kindOk d = true) (hs : isStrD d = false) : cs (k + 1) 19 [.d d] = some (.bl false, [.d d]) := by
  refine eq_of_wc (show Wc (defM 1 4 (m__law_is_word (cs k))) [.d d] _ from ?_)
  refine wc_def rfl rfl ?_; walk_at "n"
  unfold m__law_is_word
  walk_at "r"
  exact ⟨rfl, rfl⟩
def lwBody : MS := (mSeq (mSet 2 (mLst (mLc (mIStr (mVar 1)) (mBl (mOp (inD true) (mVar 3) (mC (.str "abcdefghijklmnopqrstuvwxyz")))) (mVar 3) 3)))
    (mIf (mOr (mBl (mOp neXD (mVar 2) (mLst (mSz mNil)))) (mOr (mNot (mBl (mChain ltD ltD (mC (.int 0)) (mCb lenD (mCons (mVar 1) mNil)) (mC (.int 9))))) (mBl (mOp (inD false) (mVar 1) (mTup (mCons (mC (.str "self")) (mCons (mC (.str "head")) mNil))))))) (mRet (mC (.bl false))) mNext))
theorem lw_turn {x0 : Sl} {p : Str} {x2 : Sl} (h : FitS p) (h2 : Plain x2) {N : Env → Prop} {R : Out → Env → Prop}
    (k : ∀ y, if nameS p = true then N [x0, .d (.str p), .d y, .no] else R (.rt (.bl false)) [x0, .d (.str p), .d y, .no]) : Wp lwBody [x0, .d (.str p), x2, .no] (turnK N R) := by
  have hf : freeB [x0, .d (.str p), x2, .no] 2 = true := by rcases h2 with rfl | ⟨y, rfl⟩ <;> rfl
  have hb := bad_name p
  have e1 := ne_nil (strs_shp (sgn_ok (p := fun d => !sgnIn "abcdefghijklmnopqrstuvwxyz" d) h.ok))
  have e2 := len_str (s := p) h.size
  have e3 := in_taken2 p
  unfold lwBody
  walk_at "s"
  walk_at "s"
  walk_at "s"
  with_reducible refine wp_lc ?_
  walk_at "r"
  refine ⟨rfl, _, _, out_of "abcdefghijklmnopqrstuvwxyz" p 3 _ rfl h.size, hf, ?_⟩
  walk_at "n"
  walk_at "r"
  rw [none_out]
  unfold badB at hb
  cases q1 : p.cps.toList.all (inS smallS) with
  | false =>
    have q : nameS p = false := by
      rw [q1] at hb
      cases z : nameS p with
      | false => rfl
      | true => rw [z] at hb; cases hb
    rw [q] at k
    walk_at "r"
    exact k _
  | true =>
    rw [q1] at hb
    walk_at "r"
    refine ite_dec (fun z1 => ?_) fun z1 => ?_
    · walk_at "r"
      rw [decide_eq_true z1] at hb
      refine ite_nb (fun z2 => ?_) fun z2 => ?_
      · rw [z2] at hb
        have q : nameS p = false := by
          cases z : nameS p with
          | false => rfl
          | true => rw [z] at hb; cases hb
        rw [q] at k
        walk_at "r"
        exact k _
      · rw [z2] at hb
        walk_at "r"
        refine ite_b (fun z3 => ?_) fun z3 => ?_
        · rw [z3] at hb
          have q : nameS p = false := by
            cases z : nameS p with
            | false => rfl
            | true => rw [z] at hb; cases hb
          rw [q] at k
          walk_at "r"
          exact k _
        · rw [z3] at hb
          have q : nameS p = true := by
            cases z : nameS p with
            | true => rfl
            | false => rw [z] at hb; cases hb
          rw [q] at k
          walk_at "r"
          exact k _
    · walk_at "r"
      rw [decide_eq_false z1] at hb
      have q : nameS p = false := by
        cases z : nameS p with
        | false => rfl
        | true => rw [z] at hb; cases hb
      rw [q] at k
      exact k _
theorem lw_loop {x0 : Sl} {R : Out → Env → Prop} : ∀ (ps : List Str) (x1 x2 : Sl), (∀ p ∈ ps, FitS p) → Plain x1 → Plain x2 → (∀ y1 y2, Plain y1 → Plain y2 → if ps.all nameS = true then R .nx [x0, y1, y2, .no] else R (.rt (.bl false)) [x0, y1, y2, .no]) →
    Wp (forGo 1 lwBody (ps.map D.str)) [x0, x1, x2, .no] R
  | [], x1, x2, _, h1, h2, k => for_nil (k x1 x2 h1 h2)
  | p :: ps, x1, x2, h, h1, h2, k => by
    have hf : freeB [x0, x1, x2, .no] 1 = true := by rcases h1 with rfl | ⟨y, rfl⟩ <;> rfl
    refine for_cons1 hf ?_
    walk_at "n"
    refine lw_turn (h p List.mem_cons_self) h2 fun y => ?_
    cases q : nameS p with
    | true =>
      refine ite_t ?_
      refine lw_loop ps _ _ (fun r hr => h r (List.mem_cons_of_mem _ hr)) (.inr ⟨_, rfl⟩) (.inr ⟨_, rfl⟩) fun y1 y2 g1 g2 => ?_
      have := k y1 y2 g1 g2
      rw [List.all_cons, q, Bool.true_and] at this
      exact this
    | false =>
      refine ite_f ?_
      have := k _ _ (.inr ⟨.str p, rfl⟩) (.inr ⟨y, rfl⟩)
      rw [List.all_cons, q, Bool.false_and] at this
      exact this
theorem e_lwordT (k : Nat) (s : Str) (h : FitS s) : cs (k + 1) 19 [.d (.str s)] = some (.bl (dotS 2 s), [.d (.str s)]) := by
  refine eq_of_wc (show Wc (defM 1 4 (m__law_is_word (cs k))) [.d (.str s)] _ from ?_)
  refine wc_def rfl rfl ?_; walk_at "n"
  have hp := count_dot s
  have hsp := split_dot h
  unfold m__law_is_word dotS
  by_cases hc : Txt.count s "." = 1
  · have e : decide (((parts s).length : Int) = 2) = true := decide_eq_true (by omega)
    rw [e, Bool.true_and]
    walk_at "r"
    refine lw_loop (parts s) _ _ (fun p hp => h.part hp) (.inl rfl) (.inl rfl) fun y1 y2 _ _ => ?_
    cases (parts s).all nameS with
    | true =>
      walk_at "r"
      exact ⟨rfl, rfl⟩
    | false =>
      walk_at "r"
      exact ⟨rfl, rfl⟩
  · have e : decide (((parts s).length : Int) = 2) = false := decide_eq_false (by omega)
    rw [e, Bool.false_and]
    walk_at "r"
    exact ⟨rfl, rfl⟩

end Nv

set_option Elab.async false
set_option linter.all false
set_option maxRecDepth 100000
set_option maxHeartbeats 1000000
namespace Nv
open PySem L2 PyProof.Rows PySem.Spec
local macro_rules | `(tactic| walk_at "n") => `(tactic| try simp only [List.set_cons_zero, List.set_cons_succ, List.map_cons, List.map_nil, List.cons_append, List.nil_append, List.replicate, Nat.reduceSub])
local macro_rules | `(tactic| walk_at "s") => `(tactic| first
  | with_reducible refine wp_seq ?_ | with_reducible refine wk_nx ?_ | with_reducible refine wk_rt ?_ | with_reducible refine wt_nx ?_ | with_reducible refine wt_rt ?_ | with_reducible refine wt_bk ?_ | with_reducible refine wt_ct ?_ | with_reducible refine wk_bk ?_ | with_reducible refine wk_ct ?_
  | with_reducible refine wp_if ?_ | with_reducible refine wp_ret ?_ | with_reducible refine wp_next ?_ | with_reducible refine wp_retN ?_ | with_reducible refine wp_set ?_ | with_reducible refine wp_own ?_ | with_reducible refine wp_drop ?_
  | ((with_reducible refine' wp_var ?_ ?_); rotate_left; rfl) | with_reducible refine wp_c ?_ | with_reducible refine wp_op ?_ | with_reducible refine wp_un ?_ | with_reducible refine wp_cb ?_ | with_reducible refine wp_cons ?_ | with_reducible refine wp_nil ?_
  | with_reducible refine wp_bl ?_ | with_reducible refine wp_tru ?_ | with_reducible refine wp_not ?_ | with_reducible refine wp_and ?_ | with_reducible refine wp_or ?_ | with_reducible refine wp_andV ?_ | with_reducible refine wp_orV ?_ | with_reducible refine wp_notV ?_
  | with_reducible refine wp_chain ?_ | with_reducible refine wp_sz ?_ | with_reducible refine wp_lst ?_ | with_reducible refine wp_tup ?_ | with_reducible refine wp_is ?_ | with_reducible refine wp_onone ?_ | with_reducible refine wp_osome ?_ | with_reducible refine wp_sl ?_ | with_reducible refine wp_m1 ?_
  | with_reducible refine wp_all ?_ | with_reducible refine wp_repr ?_ | with_reducible refine wp_peek ?_ | with_reducible refine wp_peekT ?_ | with_reducible refine wp_addF ?_ | with_reducible refine wp_ilist ?_ | with_reducible refine wp_itup ?_ | with_reducible refine wp_istr ?_ | with_reducible refine wp_irng ?_ | with_reducible refine wp_list ?_
  | with_reducible refine wp_for ?_ | with_reducible refine wp_call ?_ | with_reducible refine wp_callK ?_ | with_reducible refine wp_lnil ?_ | with_reducible refine wp_ldat ?_ | with_reducible refine wp_callL ?_ | with_reducible refine wp_flast ?_ | with_reducible refine wp_fdat ?_ | with_reducible refine wp_callF ?_
  | with_reducible refine ⟨_, (by assumption : _ = some _), ?_⟩
  | ((with_reducible refine' call_and ?_ ?_ ?_); rotate_left 2; (· rfl); (· assumption)) | ((with_reducible refine' callk_and ?_ ?_ ?_); rotate_left 2; (· exact ⟨rfl, rfl⟩); (· assumption))
  | refine ite_t ?_ | refine ite_f ?_ | refine ite_nt ?_ | refine ite_nf ?_
  | with_reducible refine ⟨_, add_int, ?_⟩ | with_reducible refine ⟨_, iadd_int, ?_⟩ | with_reducible refine ⟨_, sub_int, ?_⟩ | with_reducible refine ⟨_, lt_int, ?_⟩ | with_reducible refine ⟨_, le_int, ?_⟩ | with_reducible refine ⟨_, gt_int, ?_⟩ | with_reducible refine ⟨_, ge_int, ?_⟩ | with_reducible refine ⟨_, eq_int, ?_⟩
  | with_reducible refine ⟨_, len_lst, ?_⟩ | with_reducible refine ⟨_, len_tup, ?_⟩ | with_reducible refine ⟨_, tru_bl, ?_⟩ | with_reducible refine ⟨_, int_int _, ?_⟩ | with_reducible refine ⟨_, int_bl _, ?_⟩
  | with_reducible refine ⟨_, rfl, ?_⟩ | ((with_reducible refine free_and ?_ ?_); (· first | rfl | assumption); walk_at "n") | ((with_reducible refine kind_and ?_ ?_); (· first | rfl | assumption)) | ((with_reducible refine size_and ?_ ?_); (· simp only [List.length_cons, List.length_nil, sizeLine_eq]; omega))
  | with_reducible refine ite_y (by assumption) ?_ | with_reducible refine ite_n (by assumption) ?_ | with_reducible refine ite_ny (by assumption) ?_ | with_reducible refine ite_nn (by assumption) ?_ | with_reducible refine ite_bt (by assumption) ?_ | with_reducible refine ite_bf (by assumption) ?_ | with_reducible refine ite_nbt (by assumption) ?_ | with_reducible refine ite_nbf (by assumption) ?_)
local macro_rules | `(tactic| walk_at "r") => `(tactic| repeat walk_at "s")
local macro_rules | `(tactic| walk_at "f") => `(tactic| (refine ⟨rfl, ?_⟩; walk_at "n"))
/-! the law's count of symbols and depth -/
def maxL : List Nat → Nat
  | [] => 0
  | x :: xs => max x (maxL xs)
def hgt : Nat → D → Nat
  | 0, _ => 0
  | n + 1, d => maxL ((kidsD d).map (hgt n)) + 1
def resD : Option (Nat × Nat) → D
  | none => .non
  | some (a, b) => .tup [.int a, .int b]
def cntF (n : Nat) (d : D) : Option (Nat × Nat) := if okT false n d = true then some (cnt n d, hgt n d) else none
theorem okT_within : ∀ (r n : Nat) (d : D), r ≤ n → (okT false r d = true ↔ okT false n d = true ∧ hgt n d ≤ r) ∧ (okT false r d = true → cnt r d = cnt n d)
  | 0, 0, d, _ => ⟨⟨fun h => (by cases h), fun h => (by cases h.1)⟩, fun h => (by cases h)⟩
  | 0, n + 1, d, _ => ⟨⟨fun h => (by cases h), fun h => absurd h.2 (by show ¬ (maxL _ + 1 ≤ 0); omega)⟩, fun h => (by cases h)⟩
  | r + 1, 0, d, h => absurd h (by omega)
  | r + 1, n + 1, d, h => by
    have mx : ∀ (xs : List Nat) (m : Nat), maxL xs ≤ m ↔ ∀ x ∈ xs, x ≤ m := by
      intro xs m
      induction xs with
      | nil => simp [maxL]
      | cons x xs ih =>
        show max x (maxL xs) ≤ m ↔ _
        rw [Nat.max_le, ih]
        simp
    have ih := fun x => okT_within r n x (by omega)
    have e1 : okT false (r + 1) d = (pieceD false d && (kidsD d).all (okT false r)) := rfl
    have e2 : okT false (n + 1) d = (pieceD false d && (kidsD d).all (okT false n)) := rfl
    have e3 : hgt (n + 1) d ≤ r + 1 ↔ ∀ x ∈ kidsD d, hgt n x ≤ r := by
      show maxL ((kidsD d).map (hgt n)) + 1 ≤ r + 1 ↔ _
      rw [Nat.add_le_add_iff_right, mx]
      simp
    refine ⟨?_, fun hk => ?_⟩
    · rw [e1, e2, e3, Bool.and_eq_true, Bool.and_eq_true, List.all_eq_true, List.all_eq_true]
      constructor
      · rintro ⟨a, b⟩
        exact ⟨⟨a, fun x hx => (((ih x).1).mp (b x hx)).1⟩, fun x hx => (((ih x).1).mp (b x hx)).2⟩
      · rintro ⟨⟨a, b⟩, c⟩
        exact ⟨a, fun x hx => ((ih x).1).mpr ⟨b x hx, c x hx⟩⟩
    · rw [e1, Bool.and_eq_true, List.all_eq_true] at hk
      show 1 + ((kidsD d).map (cnt r)).sum = 1 + ((kidsD d).map (cnt n)).sum
      rw [List.map_congr_left fun x hx => (ih x).2 (hk.2 x hx)]
/-- what the program and the law say of a term, both -/
def termB (d : D) : Bool := okT false 6 d && decide (cnt 6 d ≤ 40)
theorem term_within (d : D) : withinL false 6 [d] 0 = termB d := by
  rw [within_of]
  unfold termB sumC
  simp
theorem term_law (n : Nat) (d : D) (hn : 6 ≤ n) : (match cntF n d with | none => false | some (a, b) => decide (a ≤ 40) && decide (b ≤ 6)) = termB d := by
  obtain ⟨h1, h2⟩ := okT_within 6 n d hn
  unfold cntF termB
  cases q : okT false 6 d with
  | true =>
    obtain ⟨a, b⟩ := h1.mp q
    rw [if_pos a, h2 q]
    show (decide (cnt n d ≤ 40) && decide (hgt n d ≤ 6)) = _
    rw [decide_eq_true b, Bool.and_true, Bool.true_and]
  | false =>
    by_cases a : okT false n d = true
    · rw [if_pos a]
      have : ¬ hgt n d ≤ 6 := fun b => by
        have := h1.mpr ⟨a, b⟩
        rw [q] at this
        cases this
      show (decide (cnt n d ≤ 40) && decide (hgt n d ≤ 6)) = _
      rw [decide_eq_false this, Bool.and_false, Bool.false_and]
    · rw [if_neg a]
      rfl
/-! ### the law's walk -/
theorem isD_non (d : D) : isD d .non = some (.bl (isNon d)) := by cases d <;> rfl
theorem noD_non (d : D) : noD d .non = some (.bl (!isNon d)) := by cases d <;> rfl
theorem ix_two (a b : D) (i : Int) (h : i = 0 ∨ i = 1) : ixD (.tup [a, b]) (.int i) = some (if i = 0 then a else b) := by
  rcases h with rfl | rfl <;> rfl
theorem max2 (i j : Nat) : max2D [.int (i : Int), .int (j : Int)] = some (.int ((max i j : Nat) : Int)) := by
  show some (D.int (if (j : Int) > (i : Int) then (j : Int) else (i : Int))) = _
  congr 2
  split <;> omega
def lcBody (c : Nat → Fm) : MS := (mSeq (mSet 6 (mCall 1 (c 14) (mCons (mVar 5) mNil)))
    (mSeq (mIf (mBl (mOp isD (mVar 6) (mC .non))) (mRet (mC .non)) mNext)
    (mSeq (mSet 3 (mOp addD (mVar 3) (mOp ixD (mVar 6) (mC (.int 0)))))
    (mSet 4 (mCb max2D (mCons (mVar 4) (mCons (mOp ixD (mVar 6) (mC (.int 1))) mNil)))))))
theorem lcnt_loop {c : Nat → Fm} {n : Nat} {x0 x1 x2 x7 : Sl} {R : Out → Env → Prop} : ∀ (ds : List D) (s m : Nat) (x5 x6 : Sl), (∀ d ∈ ds, c 14 [.d d] = some (resD (cntF n d), [.d d])) → Plain x5 → Plain x6 →
    (∀ y5 y6, Plain y5 → Plain y6 → if ds.all (okT false n) = true then R .nx [x0, x1, x2, .d (.int ((s + (ds.map (cnt n)).sum : Nat) : Int)), .d (.int ((max m (maxL (ds.map (hgt n))) : Nat) : Int)), y5, y6, x7] else ∀ y3 y4, R (.rt .non) [x0, x1, x2, y3, y4, y5, y6, x7]) →
    Wp (forGo 5 (lcBody c) ds) [x0, x1, x2, .d (.int (s : Int)), .d (.int (m : Int)), x5, x6, x7] R
  | [], s, m, x5, x6, _, h5, h6, k => for_nil (by
      have := k x5 x6 h5 h6
      rw [List.all_nil, if_pos rfl] at this
      show R .nx [x0, x1, x2, .d (.int ((s : Nat) : Int)), .d (.int ((m : Nat) : Int)), x5, x6, x7]
      have e : max m (maxL (List.map (hgt n) [])) = m := Nat.max_eq_left (Nat.zero_le _)
      rw [e] at this
      exact this)
  | d :: ds, s, m, x5, x6, hc, h5, h6, k => by
    have hf5 : freeB [x0, x1, x2, .d (.int (s : Int)), .d (.int (m : Int)), x5, x6, x7] 5 = true := by rcases h5 with rfl | ⟨y, rfl⟩ <;> rfl
    have hf6 : freeB [x0, x1, x2, .d (.int (s : Int)), .d (.int (m : Int)), .d d, x6, x7] 6 = true := by rcases h6 with rfl | ⟨y, rfl⟩ <;> rfl
    have h1 := hc d List.mem_cons_self
    refine for_cons1 hf5 ?_
    walk_at "n"
    unfold lcBody
    walk_at "r"
    unfold cntF
    cases q : okT false n d with
    | false =>
      rw [if_neg Bool.false_ne_true]
      walk_at "r"
      have := k (.d d) (.d .non) (.d _) (.d _)
      rw [List.all_cons, q, Bool.false_and, if_neg Bool.false_ne_true] at this
      exact this _ _
    | true =>
      rw [if_pos rfl]
      walk_at "r"
      have e1 : ((s : Nat) : Int) + ((cnt n d : Nat) : Int) = ((s + cnt n d : Nat) : Int) := by omega
      have e2 : (if ((hgt n d : Nat) : Int) > ((m : Nat) : Int) then ((hgt n d : Nat) : Int) else ((m : Nat) : Int)) = ((max m (hgt n d) : Nat) : Int) := by split <;> omega
      rw [e1, e2]
      refine lcnt_loop ds (s + cnt n d) (max m (hgt n d)) _ _ (fun x hx => hc x (List.mem_cons_of_mem _ hx)) (.d _) (.d _) fun y5 y6 g5 g6 => ?_
      have := k y5 y6 g5 g6
      rw [List.all_cons, q, Bool.true_and, List.map_cons, List.map_cons, List.sum_cons] at this
      have e3 : max m (maxL (hgt n d :: ds.map (hgt n))) = max (max m (hgt n d)) (maxL (ds.map (hgt n))) := by
        show max m (max (hgt n d) (maxL (ds.map (hgt n)))) = _
        omega
      rw [e3, ← Nat.add_assoc] at this
      exact this
theorem varD_tup (xs : List D) : varD (.tup xs) = false := rfl
theorem len_lt {xs : List D} : ((0 : Int) < (xs.length : Int) ∧ (xs.length : Int) < 5) ↔ 1 ≤ xs.length ∧ xs.length ≤ 4 := by omega
theorem e_lwordD (k : Nat) (d : D) (h : Fit1 d) : cs (k + 1) 19 [.d d] = some (.bl (dotD 2 d), [.d d]) := by
  cases hs : isStrD d with
  | false =>
    rw [e_lwordN k d h.k hs]
    cases d <;> first | rfl | cases hs
  | true =>
    cases d <;> first | (cases hs; done) | skip
    exact e_lwordT k _ (h.s _ rfl)
theorem rest_tup {xs : List D} : slD (.tup xs) (some 1) none = some (.tup (xs.drop 1)) := by
  show some (D.tup (cut xs (some 1) none)) = _
  rw [cut1]
theorem first_ok {s : Str} (h : FitS s) (h1 : (0 : Int) < s.length) : ∃ z, slD (.str s) none (some 1) = some z ∧ inD false z (.str "ABCDEFGHIJKLMNOPQRSTUVWXYZ") = some (.bl (firstS s)) := by
  obtain ⟨c, r, e⟩ := nonempty (s := s) (by omega)
  refine ⟨.str ⟨#[c]⟩, ?_, ?_⟩
  · show (if s.length ≤ sizeLine then some (D.str (cutS s none (some 1))) else none) = _
    rw [if_pos h.size]
    congr 2
    show Str.mk _ = _
    congr 1
    have e1 : HT.sIx s.length s.length (some 1) = 1 := by
      have := HT.sIx_nat s.length s.length 1
      rw [show (((1 : Nat) : Int)) = (1 : Int) from rfl] at this
      rw [this]
      omega
    have e0 : HT.sIx s.length 0 none = 0 := rfl
    rw [e1, e0, e]
    rfl
  · rw [in_sgn]
    unfold firstS
    rw [e]
theorem e_countS (n k : Nat) (s : Str) (hs : FitS s) : cs (k + n + 1) 14 [.d (.str s)] = some (resD (cntF (n + 1) (.str s)), [.d (.str s)]) := by
  have hres : cntF (n + 1) (.str s) = if varS s = true then some (1, 1) else none := by
    have e : okT false (n + 1) (.str s) = varS s := by
      show ((varS s || false) && true) = varS s
      rw [Bool.or_false, Bool.and_true]
    unfold cntF
    rw [e]
    rfl
  rw [hres]
  refine eq_of_wc (show Wc (defM 1 8 (m__law_count (cs (k + n)))) [.d (.str s)] _ from ?_)
  refine wc_def rfl rfl ?_; walk_at "n"
  have h1 := rest_sl hs
  have h2 := len_str hs.size
  unfold m__law_count
  walk_at "r"
  with_reducible refine wp_lc ?_
  walk_at "r"
  refine ⟨rfl, _, _, out_of "0123456789" (restS s) 7 _ rfl hs.rest.size, ?_⟩
  walk_at "r"
  have hv : varS s = (decide ((0 : Int) < s.length) && decide ((s.length : Int) < 5) && firstS s && (restS s).cps.toList.all (inS digitS)) := by
    unfold varS
    rw [show decide ((1 : Int) ≤ (s.length : Int)) = decide ((0 : Int) < (s.length : Int)) from decide_eq_decide.mpr (by omega), show decide ((s.length : Int) ≤ 4) = decide ((s.length : Int) < 5) from decide_eq_decide.mpr (by omega)]
  refine ite_dec (fun z1 => ?_) fun z1 => ?_
  · obtain ⟨z, f1, f2⟩ := first_ok hs z1
    rw [decide_eq_true z1, Bool.true_and] at hv
    walk_at "r"
    refine ite_dec (fun z2 => ?_) fun z2 => ?_
    · rw [decide_eq_true z2, Bool.true_and] at hv
      walk_at "r"
      refine ite_b (fun z3 => ?_) fun z3 => ?_
      · rw [z3, Bool.true_and, ← none_out] at hv
        walk_at "r"
        rw [hv]
        refine ite_b (fun z4 => ?_) fun z4 => ?_
        · rw [if_pos z4]
          walk_at "r"
          exact ⟨rfl, rfl⟩
        · rw [if_neg (by rw [z4]; exact Bool.false_ne_true)]
          walk_at "r"
          exact ⟨rfl, rfl⟩
      · rw [z3, Bool.false_and] at hv
        rw [hv]
        walk_at "r"
        exact ⟨rfl, rfl⟩
    · rw [decide_eq_false z2, Bool.false_and, Bool.false_and] at hv
      rw [hv]
      walk_at "r"
      exact ⟨rfl, rfl⟩
  · rw [decide_eq_false z1, Bool.false_and, Bool.false_and, Bool.false_and] at hv
    rw [hv]
    walk_at "r"
    exact ⟨rfl, rfl⟩
theorem count_tup {c : Nat → Fm} {n : Nat} (w : D) (r : List D) (hw : c 19 [.d w] = some (.bl (dotD 2 w), [.d w])) (hc : ∀ d ∈ r, c 14 [.d d] = some (resD (cntF n d), [.d d])) :
    defM 1 8 (m__law_count c) [.d (.tup (w :: r))] = some (resD (cntF (n + 1) (.tup (w :: r))), [.d (.tup (w :: r))]) := by
  have hp : okT false (n + 1) (.tup (w :: r)) = (decide (r.length + 1 ≤ 4) && dotD 2 w && r.all (okT false n)) := by
    show ((false || (decide (1 ≤ r.length + 1) && decide (r.length + 1 ≤ 4) && (dotD 2 w || (false && decide (0 < r.length) && dotD 3 w)))) && r.all (okT false n)) = _
    rw [decide_eq_true (show 1 ≤ r.length + 1 by omega)]
    simp
  have hx : ixD (.tup (w :: r)) (.int 0) = some w := tup_ix0 w r
  have hs : slD (.tup (w :: r)) (some 1) none = some (.tup r) := rest_tup (xs := w :: r)
  have t1 : (0 : Int) < ((w :: r).length : Int) := by rw [List.length_cons]; omega
  refine eq_of_wc ?_
  refine wc_def rfl rfl ?_; walk_at "n"
  unfold m__law_count
  by_cases t2 : ((w :: r).length : Int) < 5
  · have t3 : decide (r.length + 1 ≤ 4) = true := decide_eq_true (by rw [List.length_cons] at t2; omega)
    rw [t3, Bool.true_and] at hp
    walk_at "r"
    cases q : dotD 2 w with
    | false =>
      rw [q, Bool.false_and] at hp
      unfold cntF
      rw [hp, if_neg Bool.false_ne_true]
      walk_at "r"
      exact ⟨rfl, rfl⟩
    | true =>
      rw [q, Bool.true_and] at hp
      walk_at "r"
      refine lcnt_loop (n := n) r 1 0 .no .no hc .no .no fun y5 y6 _ _ => ?_
      unfold cntF
      rw [hp]
      refine ite_b (fun z => ?_) fun z => ?_
      · rw [if_pos z]
        walk_at "r"
        refine ⟨?_, rfl⟩
        show D.tup [.int ((1 + (r.map (cnt n)).sum : Nat) : Int), .int (((max 0 (maxL (r.map (hgt n))) : Nat) : Int) + 1)] = D.tup [.int ((1 + ((r.drop 0).map (cnt n)).sum : Nat) : Int), .int ((maxL ((r.drop 0).map (hgt n)) + 1 : Nat) : Int)]
        rw [List.drop_zero, Nat.zero_max]
        rfl
      · rw [if_neg (by rw [z]; exact Bool.false_ne_true)]
        intro y3 y4
        walk_at "r"
        exact ⟨rfl, rfl⟩
  · have t3 : decide (r.length + 1 ≤ 4) = false := decide_eq_false (by rw [List.length_cons] at t2; omega)
    rw [t3, Bool.false_and, Bool.false_and] at hp
    unfold cntF
    rw [hp, if_neg Bool.false_ne_true]
    walk_at "r"
    exact ⟨rfl, rfl⟩
theorem count_nil (c : Nat → Fm) (n : Nat) : defM 1 8 (m__law_count c) [.d (.tup [])] = some (resD (cntF (n + 1) (.tup [])), [.d (.tup [])]) := by
  refine eq_of_wc ?_
  refine wc_def rfl rfl ?_; walk_at "n"
  unfold m__law_count
  have t1 : ¬ (0 : Int) < (([] : List D).length : Int) := by decide
  walk_at "r"
  exact ⟨rfl, rfl⟩
theorem count_none (c : Nat → Fm) (n : Nat) {d : D} (h0 : kindOk d = true) (h1 : isStrD d = false) (h2 : isTupD d = false) (h3 : pieceD false d = false) : defM 1 8 (m__law_count c) [.d d] = some (resD (cntF (n + 1) d), [.d d]) := by
  have e : okT false (n + 1) d = false := by
    show (pieceD false d && _) = false
    rw [h3, Bool.false_and]
  unfold cntF
  rw [e, if_neg Bool.false_ne_true]
  refine eq_of_wc ?_
  refine wc_def rfl rfl ?_; walk_at "n"
  unfold m__law_count
  walk_at "r"
  exact ⟨rfl, rfl⟩
theorem e_count : ∀ (n k : Nat) (d : D), okB d = true → d.py.depth < n → cs (k + n + 1) 14 [.d d] = some (resD (cntF n d), [.d d])
  | 0, k, d, _, hn => by omega
  | n + 1, k, d, hd, hn => by
    have hf := fit_ok d hd
    cases d with
    | str s =>
      have := e_countS n (k + 1) s (hf.one.s s rfl)
      rw [show k + 1 + n + 1 = k + (n + 1) + 1 by omega] at this
      exact this
    | tup xs =>
      cases xs with
      | nil => exact count_nil (cs (k + (n + 1))) n
      | cons w r =>
        have ho : okAll (w :: r) = true := hd
        have hok := okAll_iff.mp ho
        have hw := e_lwordD (k + n) w (fit_ok w (hok w List.mem_cons_self)).one
        have hdp : ∀ d ∈ r, d.py.depth < n := fun d h => by
          have h1 : PyData.depthAll (pyAll (w :: r)) + 1 < n + 1 := hn
          have h2 := depth_mem (List.mem_cons_of_mem w h)
          omega
        refine count_tup (c := cs (k + (n + 1))) w r hw (fun d h => ?_)
        have := e_count n k d (hok d (List.mem_cons_of_mem _ h)) (hdp d h)
        exact this
    | ins _ _ => cases hf.one.k
    | ty _ => cases hf.one.k
    | frl _ => cases hf.one.k
    | non => exact count_none (cs (k + (n + 1))) n (d := .non) rfl rfl rfl rfl
    | bl x => exact count_none (cs (k + (n + 1))) n (d := .bl x) rfl rfl rfl rfl
    | int x => exact count_none (cs (k + (n + 1))) n (d := .int x) rfl rfl rfl rfl
    | lst x => exact count_none (cs (k + (n + 1))) n (d := .lst x) rfl rfl rfl rfl
    | dct x => exact count_none (cs (k + (n + 1))) n (d := .dct x) rfl rfl rfl rfl
/-! ### the law's terms and questions -/
theorem e_lterm (k : Nat) (d : D) (hd : okB d = true) (hn : d.py.depth < 20) : cs (k + 22) 23 [.d d] = some (.bl (termB d), [.d d]) := by
  have h1 := e_count 20 k d hd hn
  have h2 := term_law 20 d (by omega)
  show defM 1 2 (m__law_is_term (cs (k + 21))) [.d d] = _
  rw [show k + 20 + 1 = k + 21 from rfl] at h1
  generalize cs (k + 21) = c at h1
  refine eq_of_wc ?_
  refine wc_def rfl rfl ?_; walk_at "n"
  unfold m__law_is_term
  cases q : cntF 20 d with
  | none =>
    rw [q] at h1 h2
    walk_at "r"
    exact ⟨by rw [← h2], rfl⟩
  | some p =>
    obtain ⟨a, b⟩ := p
    rw [q] at h1 h2
    walk_at "r"
    have e1 : decide ((a : Int) ≤ 40) = decide (a ≤ 40) := decide_eq_decide.mpr (by omega)
    have e2 : decide ((b : Int) ≤ 6) = decide (b ≤ 6) := decide_eq_decide.mpr (by omega)
    rw [e1]
    refine ite_dec (fun z => ?_) fun z => ?_
    · walk_at "r"
      refine ⟨?_, rfl⟩
      rw [e2, ← h2]
      show _ = D.bl (decide (a ≤ 40) && decide (b ≤ 6))
      rw [decide_eq_true z, Bool.true_and]
    · refine ⟨?_, rfl⟩
      rw [← h2]
      show _ = D.bl (decide (a ≤ 40) && decide (b ≤ 6))
      rw [decide_eq_false z, Bool.false_and]
theorem e_term (k : Nat) (d : D) (hd : okB d = true) : cs (k + 6) 9 [.d d] = some (.bl (termB d), [.d d]) := by
  have h1 := e_within k d false (fit_ok d hd)
  rw [term_within] at h1
  show defM 1 1 (m_is_term (cs (k + 5))) [.d d] = _
  generalize cs (k + 5) = c at h1
  refine eq_of_wc ?_
  refine wc_def rfl rfl ?_; walk_at "n"
  unfold m_is_term
  walk_at "r"
  exact ⟨rfl, rfl⟩
/-- what the program and the law say of a question, both -/
def questB (d : D) : Bool := match d with
  | .tup (w :: r) => decide (1 ≤ r.length) && decide (r.length ≤ 3) && dotD 2 w && r.all termB
  | _ => false
theorem lc_all {c : Nat → Fm} {i : Nat} {f : D → Bool} {e : Env} {j : Nat} (hj : e[j]? = some .no) (xs : List D) (h : ∀ d ∈ xs, c i [.d d] = some (.bl (f d), [.d d])) (hl : xs.length ≤ sizeLine) :
    lcGo j mYes (mCall 1 (c i) (mCons (mVar j) mNil)) xs [] e = some (xs.map (fun d => .bl (f d)), e) := by
  have jl := (List.getElem?_eq_some_iff.mp hj).1
  have := lc_map (f := fun d => .bl (f d)) (m := mCall 1 (c i) (mCons (mVar j) mNil)) hj xs [] (fun d hd => by
    obtain ⟨x, e', a, rfl, rfl⟩ := (wp_call (Q := fun x e' => x = D.bl (f d) ∧ e' = e.set j (.d d)) (wp_cons (wp_var (by rw [List.getElem?_set_self jl]) (wp_nil ⟨rfl, wc_eq (h d hd) ⟨rfl, rfl⟩⟩))) : Wp (mCall 1 (c i) (mCons (mVar j) mNil)) (e.set j (.d d)) _)
    exact a) (by rw [List.length_nil, Nat.zero_add]; exact hl)
  rw [this]
  rfl
theorem all_tup (f : D → Bool) (xs : List D) : all1 [.lst (xs.map fun d => .bl (f d))] = some (xs.map f) := bls_map f xs
theorem e_question (k : Nat) (d : D) (hd : okB d = true) : cs (k + 8) 26 [.d d] = some (.bl (questB d), [.d d]) := by
  have hf := fit_ok d hd
  show defM 1 2 (m_is_question (cs (k + 7))) [.d d] = _
  refine eq_of_wc ?_
  refine wc_def rfl rfl ?_; walk_at "n"
  cases d with
  | tup xs =>
    cases xs with
    | nil =>
      unfold m_is_question
      have t1 : ¬ (2 : Int) ≤ (([] : List D).length : Int) := by decide
      walk_at "r"
      exact ⟨rfl, rfl⟩
    | cons w r =>
      have ho : okAll (w :: r) = true := hd
      have hok := okAll_iff.mp ho
      have hw := e_word (k + 4) w (fit_ok w (hok w List.mem_cons_self)).one
      rw [show k + 4 + 3 = k + 7 from rfl] at hw
      have hx : ixD (.tup (w :: r)) (.int 0) = some w := tup_ix0 w r
      have hs : slD (.tup (w :: r)) (some 1) none = some (.tup r) := rest_tup (xs := w :: r)
      have hq : questB (.tup (w :: r)) = (decide (1 ≤ r.length) && decide (r.length ≤ 3) && dotD 2 w && r.all termB) := rfl
      have ht : ∀ d ∈ r, cs (k + 7) 9 [.d d] = some (.bl (termB d), [.d d]) := fun d h => e_term (k + 1) d (hok d (List.mem_cons_of_mem _ h))
      unfold m_is_question
      generalize cs (k + 7) = c at hw ht ⊢
      rw [hq]
      by_cases t1 : (2 : Int) ≤ ((w :: r).length : Int)
      · have u1 : decide (1 ≤ r.length) = true := decide_eq_true (by rw [List.length_cons] at t1; omega)
        rw [u1, Bool.true_and]
        by_cases t2 : ((w :: r).length : Int) ≤ 1 + 3
        · have u2 : decide (r.length ≤ 3) = true := decide_eq_true (by rw [List.length_cons] at t2; omega)
          rw [u2, Bool.true_and]
          walk_at "r"
          cases q : dotD 2 w with
          | false =>
            walk_at "r"
            exact ⟨rfl, rfl⟩
          | true =>
            walk_at "r"
            with_reducible refine wp_lc ?_
            walk_at "r"
            refine ⟨rfl, _, _, lc_all rfl r ht (by rw [List.length_cons] at t2; rw [sizeLine_eq]; omega), ?_⟩
            walk_at "r"
            refine ⟨_, all_tup termB r, ?_⟩
            rw [all_map]
            exact ⟨rfl, rfl⟩
        · have u2 : decide (r.length ≤ 3) = false := decide_eq_false (by rw [List.length_cons] at t2; omega)
          rw [u2, Bool.false_and, Bool.false_and]
          walk_at "r"
          exact ⟨rfl, rfl⟩
      · have u1 : decide (1 ≤ r.length) = false := decide_eq_false (by rw [List.length_cons] at t1; omega)
        rw [u1, Bool.false_and, Bool.false_and, Bool.false_and]
        walk_at "r"
        exact ⟨rfl, rfl⟩
  | ins _ _ => cases hf.one.k
  | ty _ => cases hf.one.k
  | frl _ => cases hf.one.k
  | _ =>
    unfold m_is_question
    walk_at "r"
    exact ⟨rfl, rfl⟩
theorem eq_nilD (xs : List D) : eqNilD (.lst xs) (.lst []) = some (.bl xs.isEmpty) := rfl
theorem lc_bad {c : Nat → Fm} {i : Nat} {f : D → Bool} {e : Env} {j : Nat} (hj : e[j]? = some .no) (xs : List D) (h : ∀ d ∈ xs, c i [.d d] = some (.bl (f d), [.d d])) (hl : xs.length ≤ sizeLine) :
    lcGo j (mNot (mTru (mCall 1 (c i) (mCons (mVar j) mNil)))) (mVar j) xs [] e = some (xs.filter (fun d => !f d), e) := by
  have jl := (List.getElem?_eq_some_iff.mp hj).1
  have := lc_filter (p := fun d => !f d) (t := mNot (mTru (mCall 1 (c i) (mCons (mVar j) mNil)))) hj xs [] (fun d hd => by
    obtain ⟨x, e', a, rfl, rfl⟩ := (wp_not (Q := fun x e' => x = (!f d) ∧ e' = e.set j (.d d)) (wp_tru (wp_call (wp_cons (wp_var (by rw [List.getElem?_set_self jl]) (wp_nil ⟨rfl, wc_eq (h d hd) ⟨_, rfl, rfl, rfl⟩⟩))))) : Wp (mNot (mTru (mCall 1 (c i) (mCons (mVar j) mNil)))) (e.set j (.d d)) _)
    exact a) (by rw [List.length_nil, Nat.zero_add]; exact hl)
  rw [this]
  rfl
theorem bad_empty (f : D → Bool) : ∀ xs : List D, (xs.filter fun d => !f d).isEmpty = xs.all f
  | [] => rfl
  | x :: xs => by
    rw [List.all_cons]
    cases q : f x with
    | true => rw [List.filter_cons_of_neg (by simp [q]), Bool.true_and]; exact bad_empty f xs
    | false => rw [List.filter_cons_of_pos (by simp [q])]; rfl
theorem e_lquestion (k : Nat) (d : D) (hd : okB d = true) (hn : d.py.depth < 20) : cs (k + 23) 25 [.d d] = some (.bl (questB d), [.d d]) := by
  have hf := fit_ok d hd
  show defM 1 2 (m__law_is_question (cs (k + 22))) [.d d] = _
  refine eq_of_wc ?_
  refine wc_def rfl rfl ?_; walk_at "n"
  cases d with
  | tup xs =>
    cases xs with
    | nil =>
      unfold m__law_is_question
      have t1 : ¬ (2 : Int) ≤ (([] : List D).length : Int) := by decide
      walk_at "r"
      exact ⟨rfl, rfl⟩
    | cons w r =>
      have ho : okAll (w :: r) = true := hd
      have hok := okAll_iff.mp ho
      have hw := e_lwordD (k + 21) w (fit_ok w (hok w List.mem_cons_self)).one
      rw [show k + 21 + 1 = k + 22 from rfl] at hw
      have hx : ixD (.tup (w :: r)) (.int 0) = some w := tup_ix0 w r
      have hs : slD (.tup (w :: r)) (some 1) none = some (.tup r) := rest_tup (xs := w :: r)
      have hq : questB (.tup (w :: r)) = (decide (1 ≤ r.length) && decide (r.length ≤ 3) && dotD 2 w && r.all termB) := rfl
      have ht : ∀ d ∈ r, cs (k + 22) 23 [.d d] = some (.bl (termB d), [.d d]) := fun d h => e_lterm k d (hok d (List.mem_cons_of_mem _ h)) (by
        have h1 : PyData.depthAll (pyAll (w :: r)) + 1 < 20 := hn
        have h2 := depth_mem (List.mem_cons_of_mem w h)
        omega)
      unfold m__law_is_question
      generalize cs (k + 22) = c at hw ht ⊢
      rw [hq]
      by_cases t1 : (2 : Int) ≤ ((w :: r).length : Int)
      · have u1 : decide (1 ≤ r.length) = true := decide_eq_true (by rw [List.length_cons] at t1; omega)
        rw [u1, Bool.true_and]
        by_cases t2 : ((w :: r).length : Int) ≤ 4
        · have u2 : decide (r.length ≤ 3) = true := decide_eq_true (by rw [List.length_cons] at t2; omega)
          rw [u2, Bool.true_and]
          walk_at "r"
          cases q : dotD 2 w with
          | false =>
            walk_at "r"
            exact ⟨rfl, rfl⟩
          | true =>
            walk_at "r"
            with_reducible refine wp_lc ?_
            walk_at "r"
            refine ⟨rfl, _, _, lc_bad rfl r ht (by rw [List.length_cons] at t2; rw [sizeLine_eq]; omega), ?_⟩
            have hb := eq_nilD (r.filter fun d => !termB d)
            rw [bad_empty] at hb
            walk_at "r"
            exact ⟨rfl, rfl⟩
        · have u2 : decide (r.length ≤ 3) = false := decide_eq_false (by rw [List.length_cons] at t2; omega)
          rw [u2, Bool.false_and, Bool.false_and]
          walk_at "r"
          exact ⟨rfl, rfl⟩
      · have u1 : decide (1 ≤ r.length) = false := decide_eq_false (by rw [List.length_cons] at t1; omega)
        rw [u1, Bool.false_and, Bool.false_and, Bool.false_and]
        walk_at "r"
        exact ⟨rfl, rfl⟩
  | ins _ _ => cases hf.one.k
  | ty _ => cases hf.one.k
  | frl _ => cases hf.one.k
  | _ =>
    unfold m__law_is_question
    walk_at "r"
    exact ⟨rfl, rfl⟩

end Nv

set_option Elab.async false
set_option linter.all false
set_option maxRecDepth 100000
set_option maxHeartbeats 1000000
namespace Nv
open PySem L2 PyProof.Rows PySem.Spec
local macro_rules | `(tactic| walk_at "n") => `(tactic| try simp only [List.set_cons_zero, List.set_cons_succ, List.map_cons, List.map_nil, List.cons_append, List.nil_append, List.replicate, Nat.reduceSub])
local macro_rules | `(tactic| walk_at "s") => `(tactic| first
  | with_reducible refine wp_seq ?_ | with_reducible refine wk_nx ?_ | with_reducible refine wk_rt ?_ | with_reducible refine wt_nx ?_ | with_reducible refine wt_rt ?_ | with_reducible refine wt_bk ?_ | with_reducible refine wt_ct ?_ | with_reducible refine wk_bk ?_ | with_reducible refine wk_ct ?_
  | with_reducible refine wp_if ?_ | with_reducible refine wp_ret ?_ | with_reducible refine wp_next ?_ | with_reducible refine wp_retN ?_ | with_reducible refine wp_set ?_ | with_reducible refine wp_own ?_ | with_reducible refine wp_drop ?_
  | ((with_reducible refine' wp_var ?_ ?_); rotate_left; rfl) | ((with_reducible refine' wp_varL ?_ ?_); rotate_left; rfl) | ((with_reducible refine' wp_app ?_ ?_); rotate_left; rfl) | ((with_reducible refine' wp_lget ?_ ?_ ?_); rotate_left 2; (· rfl); (· rfl)) | with_reducible refine wp_lput ?_ | ((with_reducible refine' wp_lown ?_ ?_ ?_); rotate_left; (· rfl); (· rfl)) | ((with_reducible refine' wp_fown ?_ ?_ ?_); rotate_left; (· rfl); (· rfl)) | with_reducible refine wp_c ?_ | with_reducible refine wp_op ?_ | with_reducible refine wp_un ?_ | with_reducible refine wp_cb ?_ | with_reducible refine wp_cons ?_ | with_reducible refine wp_nil ?_
  | with_reducible refine wp_bl ?_ | with_reducible refine wp_tru ?_ | with_reducible refine wp_not ?_ | with_reducible refine wp_and ?_ | with_reducible refine wp_or ?_ | with_reducible refine wp_andV ?_ | with_reducible refine wp_orV ?_ | with_reducible refine wp_notV ?_
  | with_reducible refine wp_chain ?_ | with_reducible refine wp_sz ?_ | with_reducible refine wp_lst ?_ | with_reducible refine wp_tup ?_ | with_reducible refine wp_is ?_ | with_reducible refine wp_onone ?_ | with_reducible refine wp_osome ?_ | with_reducible refine wp_sl ?_ | with_reducible refine wp_m1 ?_
  | with_reducible refine wp_all ?_ | with_reducible refine wp_repr ?_ | with_reducible refine wp_peek ?_ | with_reducible refine wp_peekT ?_ | with_reducible refine wp_addF ?_ | with_reducible refine wp_ilist ?_ | with_reducible refine wp_itup ?_ | with_reducible refine wp_istr ?_ | with_reducible refine wp_irng ?_ | with_reducible refine wp_list ?_ | with_reducible refine wp_listS ?_
  | with_reducible refine wp_for ?_ | with_reducible refine wp_call ?_ | with_reducible refine wp_callK ?_ | with_reducible refine wp_lnil ?_ | with_reducible refine wp_ldat ?_ | with_reducible refine wp_callL ?_ | with_reducible refine wp_flast ?_ | with_reducible refine wp_fdat ?_ | with_reducible refine wp_callF ?_
  | with_reducible refine ⟨_, (by assumption : _ = some _), ?_⟩
  | ((with_reducible refine' call_and ?_ ?_ ?_); rotate_left 2; (· rfl); (· assumption)) | ((with_reducible refine' callk_and ?_ ?_ ?_); rotate_left 2; (· exact ⟨rfl, rfl⟩); (· assumption))
  | refine ite_t ?_ | refine ite_f ?_ | refine ite_nt ?_ | refine ite_nf ?_
  | with_reducible refine ⟨_, add_int, ?_⟩ | with_reducible refine ⟨_, iadd_int, ?_⟩ | with_reducible refine ⟨_, sub_int, ?_⟩ | with_reducible refine ⟨_, lt_int, ?_⟩ | with_reducible refine ⟨_, le_int, ?_⟩ | with_reducible refine ⟨_, gt_int, ?_⟩ | with_reducible refine ⟨_, ge_int, ?_⟩ | with_reducible refine ⟨_, eq_int, ?_⟩
  | with_reducible refine ⟨_, len_lst, ?_⟩ | with_reducible refine ⟨_, len_tup, ?_⟩ | with_reducible refine ⟨_, tru_bl, ?_⟩ | with_reducible refine ⟨_, int_int _, ?_⟩ | with_reducible refine ⟨_, int_bl _, ?_⟩
  | with_reducible refine ⟨_, rfl, ?_⟩ | ((with_reducible refine free_and ?_ ?_); (· first | rfl | assumption); walk_at "n") | ((with_reducible refine kind_and ?_ ?_); (· first | rfl | assumption)) | ((with_reducible refine size_and ?_ ?_); (· simp only [List.length_cons, List.length_nil, sizeLine_eq]; omega))
  | with_reducible refine ite_y (by assumption) ?_ | with_reducible refine ite_n (by assumption) ?_ | with_reducible refine ite_ny (by assumption) ?_ | with_reducible refine ite_nn (by assumption) ?_ | with_reducible refine ite_bt (by assumption) ?_ | with_reducible refine ite_bf (by assumption) ?_ | with_reducible refine ite_nbt (by assumption) ?_ | with_reducible refine ite_nbf (by assumption) ?_)
local macro_rules | `(tactic| walk_at "r") => `(tactic| repeat walk_at "s")
local macro_rules | `(tactic| walk_at "f") => `(tactic| (refine ⟨rfl, ?_⟩; walk_at "n"))
local macro_rules | `(tactic| walk_at "d") => `(tactic| (with_reducible refine wp_draw' (by assumption) (by omega) (by decide) ?_; intro _ _ _ _ _))
/-! ShD0: what is drawn: short texts; defs that go on with the pen. -/
def Shs (n : Nat) (d : D) : Prop := ∃ s, d = .str s ∧ strB s = true ∧ s.length ≤ n
theorem strB_of {s : Str} (hl : s.length ≤ 100) (hc : ∀ c ∈ s.cps.toList, c < 0x110000) : strB s = true := by
  unfold strB
  rw [decide_eq_true hl, Bool.true_and, List.all_eq_true]
  exact fun c hc' => decide_eq_true (hc c hc')
theorem strB_cps {s : Str} (h : strB s = true) : ∀ c ∈ s.cps.toList, c < 0x110000 := by
  unfold strB at h
  rw [Bool.and_eq_true, List.all_eq_true] at h
  exact fun c hc => of_decide_eq_true (h.2 c hc)
theorem Shs.up {n m : Nat} {d : D} (h : Shs n d) (k : n ≤ m) : Shs m d := by
  obtain ⟨s, a, b, c⟩ := h
  exact ⟨s, a, b, Nat.le_trans c k⟩
theorem shs_c (s : Str) (n : Nat) (h : strB s = true) (hl : s.length ≤ n) : Shs n (.str s) := ⟨s, rfl, h, hl⟩
theorem Shs.add {n m : Nat} {x y : D} (h : Shs n x) (k : Shs m y) (hn : n + m ≤ 100) : ∃ z, addD x y = some z ∧ Shs (n + m) z := by
  obtain ⟨a, rfl, a1, a2⟩ := h
  obtain ⟨b, rfl, b1, b2⟩ := k
  have hl : (a ++ b).length ≤ n + m := by rw [strLen_append]; omega
  refine ⟨.str (a ++ b), if_pos (by rw [sizeLine_eq]; omega), a ++ b, rfl, strB_of (by omega) fun c hc => ?_, hl⟩
  have e : (a ++ b).cps.toList = a.cps.toList ++ b.cps.toList := Array.toList_append
  rw [e, List.mem_append] at hc
  rcases hc with z | z
  · exact strB_cps a1 c z
  · exact strB_cps b1 c z
theorem shs_ix {s : Str} (h : strB s = true) {i : Int} (h0 : 0 ≤ i) (h1 : i < s.length) : ∃ z, ixD (.str s) (.int i) = some z ∧ Shs 1 z := by
  have hf := strB_fit h
  have hl : i.toNat < s.cps.toList.length := by
    have : s.cps.toList.length = s.length := rfl
    omega
  have e : L2.atI s.cps.toList i = some (s.cps.toList[i.toNat]'hl) := by
    unfold L2.atI ixN
    rw [if_pos h0, if_pos (show i < (s.cps.toList.length : Int) from h1)]
    show s.cps.toList[i.toNat]? = _
    rw [List.getElem?_eq_getElem hl]
  refine ⟨.str ⟨#[s.cps.toList[i.toNat]'hl]⟩, ?_, _, rfl, strB_of (show 1 ≤ 100 by decide) fun c hc => ?_, Nat.le_refl 1⟩
  · show (if s.length ≤ sizeLine then (L2.atI s.cps.toList i).map _ else none) = _
    rw [if_pos hf.size, e]
    rfl
  · have hc : c ∈ [s.cps.toList[i.toNat]'hl] := hc
    rw [List.mem_singleton] at hc
    rw [hc]
    exact strB_cps h _ (List.getElem_mem _)
theorem glue_cps (ps : List Str) : ∀ acc : Array Nat, (List.foldl (fun acc (p : Str) => acc ++ (Str.ofString "").cps ++ p.cps) acc ps).toList = acc.toList ++ ps.flatMap (fun p => p.cps.toList) := by
  induction ps with
  | nil => intro acc; simp
  | cons p ps ih =>
    intro acc
    rw [List.foldl_cons, ih, List.flatMap_cons, Array.toList_append, Array.toList_append]
    show acc.toList ++ [] ++ p.cps.toList ++ _ = _
    rw [List.append_nil, List.append_assoc]
theorem join_cps (ps : List Str) : (Txt.join "" ps).cps.toList = ps.flatMap (fun p => p.cps.toList) := by
  cases ps with
  | nil => rfl
  | cons p ps =>
    show (List.foldl (fun acc (p : Str) => acc ++ (Str.ofString "").cps ++ p.cps) p.cps ps).toList = _
    rw [glue_cps, List.flatMap_cons]
theorem shs_strs : ∀ {ds : List D}, (∀ d ∈ ds, Shs 1 d) → ∃ ss, strsOf ds = some ss ∧ ss.length = ds.length ∧ ∀ s ∈ ss, strB s = true ∧ s.length ≤ 1
  | [], _ => ⟨[], rfl, rfl, fun s h => by cases h⟩
  | d :: ds, h => by
    obtain ⟨ss, a, b, c⟩ := shs_strs fun x hx => h x (List.mem_cons_of_mem _ hx)
    obtain ⟨s, rfl, hs, hl⟩ := h d List.mem_cons_self
    refine ⟨s :: ss, ?_, by rw [List.length_cons, List.length_cons, b], fun x hx => ?_⟩
    · show (strsOf ds).map (s :: ·) = _
      rw [a]
      rfl
    · rcases List.mem_cons.mp hx with z | z
      · rw [z]; exact ⟨hs, hl⟩
      · exact c x z
theorem flat_len : ∀ {ss : List Str}, (∀ s ∈ ss, s.length ≤ 1) → (ss.flatMap fun p => p.cps.toList).length ≤ ss.length ∧ (ss.map (·.length)).sum ≤ ss.length
  | [], _ => ⟨Nat.le_refl _, Nat.le_refl _⟩
  | s :: ss, h => by
    obtain ⟨a, b⟩ := flat_len fun x hx => h x (List.mem_cons_of_mem _ hx)
    have h1 := h s List.mem_cons_self
    rw [List.flatMap_cons, List.length_append, List.map_cons, List.sum_cons, List.length_cons]
    have : s.cps.toList.length = s.length := rfl
    omega
theorem shs_join {ds : List D} {n : Nat} (h : ∀ d ∈ ds, Shs 1 d) (hl : ds.length ≤ n) (hn : n ≤ 100) : ∃ z, joinD (.str "") (.lst ds) = some z ∧ Shs n z := by
  obtain ⟨ss, a, b, c⟩ := shs_strs h
  obtain ⟨f1, f2⟩ := flat_len fun s hs => (c s hs).2
  have e := join_cps ss
  have hlen : (Txt.join "" ss).length ≤ n := by
    have : (Txt.join "" ss).length = (Txt.join "" ss).cps.toList.length := rfl
    rw [this, e]
    omega
  refine ⟨.str (Txt.join "" ss), ?_, _, rfl, strB_of (by omega) fun k hk => ?_, hlen⟩
  · show (strsOf ds).bind _ = _
    rw [a]
    refine if_pos ?_
    unfold joinB
    exact decide_eq_true (by have e0 : ("" : Str).length = 0 := rfl; rw [e0]; omega)
  · rw [e, List.mem_flatMap] at hk
    obtain ⟨s, hs, hk⟩ := hk
    exact strB_cps (c s hs).1 k hk
/-! the pen -/
/-- a def that draws at most c times, and whose answer is so -/
def Draws (f : Fm) (c : Nat) (as : List Sl) (G : D → Prop) : Prop := ∀ (xs : List Int) (N : Int) (K : List (Key × D)), PenAt xs N K → N + c ≤ 4000000 →
  Wc f (.pd K :: as) fun d as' => G d ∧ ∃ K', as' = .pd K' :: as ∧ PenAt xs (N + c) K'
theorem Draws.mono {f : Fm} {c c' : Nat} {as : List Sl} {G G' : D → Prop} (h : Draws f c as G) (hc : c ≤ c') (k : ∀ d, G d → G' d) : Draws f c' as G' := fun xs N K hp hN =>
  (h xs N K hp (by omega)).mono fun d as' ⟨a, K', b, p⟩ => ⟨k d a, K', b, p.up (by omega)⟩
theorem draws_draw (k : Nat) {m : Int} (hm : 0 < m ∧ m ≤ 100) : Draws (cs (k + 1) 8) 1 [.d (.int m)] fun d => ∃ i, d = .int i ∧ 0 ≤ i ∧ i < m := fun xs N K hp hN => by
  obtain ⟨d, K', e, a, b, c⟩ := draw k hp hm (by omega)
  exact ⟨_, _, e, ⟨d, rfl, a, b⟩, K', rfl, c⟩
theorem wp_pen {f : Fm} {n : Nat} {r : M (List D)} {K : List (Key × D)} {e : Env} {Q : D → Env → Prop}
    (h : Wp r (.pd K :: e) fun ds e1 => ds.length + 1 = n ∧ ∃ (xs : List Int) (N : Int) (c : Nat) (G : D → Prop) (K1 : List (Key × D)) (e' : Env), e1 = .pd K1 :: e' ∧ PenAt xs N K1 ∧ N + c ≤ 4000000 ∧ Draws f c (ds.map .d) G ∧ ∀ d K', G d → PenAt xs (N + c) K' → Q d (.pd K' :: e')) : Wp (mCallP n 0 f r) (.pd K :: e) Q := by
  refine wp_callP (s0 := .pd K) rfl rfl (h.mono ?_)
  rintro ds e1 ⟨hl, xs, N, c, G, K1, e', rfl, hp, hN, hd, k⟩
  refine ⟨.pd K1, rfl, rfl, hl, (hd xs N K1 hp hN).mono ?_⟩
  rintro d as' ⟨hG, K', rfl, hp'⟩
  exact ⟨.pd K', rfl, k d K' hG hp'⟩
/-- one draw -/
theorem wp_draw {k : Nat} {r : M (List D)} {xs : List Int} {N : Int} {K : List (Key × D)} {e : Env} {Q : D → Env → Prop} (hp : PenAt xs N K) (hN : N + 1 ≤ 4000000)
    (h : Wp r (.pd K :: e) fun ds e1 => ∃ m : Int, ds = [.int m] ∧ ∃ e', e1 = .pd K :: e' ∧ (0 < m ∧ m ≤ 100) ∧ ∀ (i : Int) K', 0 ≤ i → i < m → PenAt xs (N + 1) K' → Q (.int i) (.pd K' :: e')) : Wp (mCallP 2 0 (cs (k + 1) 8) r) (.pd K :: e) Q := by
  refine wp_pen (h.mono ?_)
  rintro ds e1 ⟨m, rfl, e', rfl, hm, q⟩
  refine ⟨rfl, xs, N, 1, _, K, e', rfl, hp, hN, draws_draw k hm, ?_⟩
  rintro d K' ⟨i, rfl, h0, h1⟩ hp'
  exact q i K' h0 h1 hp'
/-- one draw of a known number -/
theorem wp_draw' {k : Nat} {m : Int} {xs : List Int} {N : Int} {K : List (Key × D)} {e : Env} {Q : D → Env → Prop} (hp : PenAt xs N K) (hN : N + 1 ≤ 4000000) (hm : 0 < m ∧ m ≤ 100)
    (h : ∀ (i : Int) K', 0 ≤ i → i < m → PenAt xs (N + 1) K' → Q (.int i) (.pd K' :: e)) : Wp (mCallP 2 0 (cs (k + 1) 8) (mCons (mC (.int m)) mNil)) (.pd K :: e) Q :=
  wp_draw hp hN (wp_cons (wp_c (wp_nil ⟨m, rfl, e, rfl, hm, h⟩)))
theorem upto_get {n i : Nat} {d : D} (h : (upto n)[i]? = some d) : d = .int (i : Int) ∧ i < n := by
  unfold upto at h
  rw [List.getElem?_map] at h
  have hi : i < n := by
    rcases Nat.lt_or_ge i n with z | z
    · exact z
    · rw [List.getElem?_eq_none (by rw [List.length_range]; exact z)] at h
      cases h
  rw [List.getElem?_range hi] at h
  cases h
  exact ⟨rfl, hi⟩
theorem upto_length (n : Nat) : (upto n).length = n := by unfold upto; rw [List.length_map, List.length_range]
theorem set_no' {e : Env} {j : Nat} (h : e[j]? = some .no) (x : Sl) : (e.set j x).set j .no = e := by rw [List.set_set, set_same h]
theorem wp_lcpen {j : Nat} {it : M (List D)} {m : M D} {T : D → Prop} {xs : List Int} {c : Nat} {K : List (Key × D)} {e0 e1 : Env} {Q : List D → Env → Prop} (hj : e1[j]? = some .no)
    (step : ∀ (N : Int) (K : List (Key × D)) (x : D), PenAt xs N K → N + c ≤ 4000000 → Wp m (.pd K :: e1.set j (.d x)) fun d e2 => T d ∧ ∃ K', e2 = .pd K' :: e1.set j (.d x) ∧ PenAt xs (N + c) K')
    (h : Wp it (.pd K :: e0) fun ds e2 => ∃ (N1 : Int) (K1 : List (Key × D)), e2 = .pd K1 :: e1 ∧ PenAt xs N1 K1 ∧ N1 + ds.length * c ≤ 4000000 ∧ ds.length ≤ 1000 ∧ ∀ rs K', rs.length = ds.length → (∀ r ∈ rs, T r) → PenAt xs (N1 + ds.length * c) K' → Q rs (.pd K' :: e1)) :
    Wp (mLc it mYes m (j + 1)) (.pd K :: e0) Q := by
  refine wp_lc (h.mono ?_)
  rintro ds e2 ⟨N1, K1, rfl, hp, hN, hl, k⟩
  refine ⟨hj, ?_⟩
  have hs : ∀ i d acc e, ds[i]? = some d → (∃ K', e = .pd K' :: e1 ∧ PenAt xs (N1 + (0 + i : Nat) * c) K' ∧ acc.length = 0 + i ∧ ∀ r ∈ acc, T r) → Wp mYes (e.set (j + 1) (.d d)) fun b e1' => if b = true then Wp m e1' fun y e2 => (∃ K', e2.set (j + 1) .no = .pd K' :: e1 ∧ PenAt xs (N1 + (0 + i + 1 : Nat) * c) K' ∧ (acc ++ [y]).length = 0 + i + 1 ∧ ∀ r ∈ acc ++ [y], T r) else (∃ K', e1'.set (j + 1) .no = .pd K' :: e1 ∧ PenAt xs (N1 + (0 + i + 1 : Nat) * c) K' ∧ acc.length = 0 + i + 1 ∧ ∀ r ∈ acc, T r) := by
    rintro i d acc e hd ⟨K2, rfl, hp2, hlen, hT⟩
    have hi : i < ds.length := (List.getElem?_eq_some_iff.mp hd).1
    have hm : (i + 1) * c ≤ ds.length * c := Nat.mul_le_mul_right c hi
    rw [Nat.zero_add] at hp2 hlen ⊢
    have e1' : ((i + 1 : Nat) : Int) * c = (i : Int) * c + c := by rw [Int.natCast_add, Int.add_mul]; omega
    have hm' : ((i + 1 : Nat) : Int) * c ≤ (ds.length : Int) * c := by exact_mod_cast hm
    refine ⟨true, .pd K2 :: e1.set j (.d d), rfl, ?_⟩
    refine ite_t ((step (N1 + i * c) K2 d hp2 (by omega)).mono ?_)
    rintro y e2 ⟨hy, K3, rfl, hp3⟩
    refine ⟨K3, ?_, hp3.up (by omega), by rw [List.length_append, hlen]; rfl, fun r hr => ?_⟩
    · show Sl.pd K3 :: (e1.set j (.d d)).set j .no = _
      rw [set_no' hj]
    · rcases List.mem_append.mp hr with z | z
      · exact hT r z
      · rw [List.mem_singleton.mp z]; exact hy
  obtain ⟨rs, e3, a, K', rfl, p, b, t⟩ := lc_inv (j := j + 1) (t := mYes) (a := m) (fun i acc e => ∃ K', e = .pd K' :: e1 ∧ PenAt xs (N1 + i * c) K' ∧ acc.length = i ∧ ∀ r ∈ acc, T r) ds [] 0 (.pd K1 :: e1) ⟨K1, rfl, by simpa using hp, rfl, fun _ z => by cases z⟩ (by rw [List.length_nil, sizeLine_eq]; omega) hs
  rw [Nat.zero_add] at p b
  exact ⟨rs, _, a, k rs K' b t p⟩
theorem ix_at {xs : List D} {i : Int} (h0 : 0 ≤ i) (h1 : i < xs.length) : ∃ d, ixD (.lst xs) (.int i) = some d ∧ d ∈ xs := by
  refine ⟨xs[i.toNat]'(by omega), ?_, List.getElem_mem _⟩
  show L2.atI xs i = _
  unfold L2.atI ixN
  rw [if_pos h0, if_pos h1]
  show xs[i.toNat]? = _
  rw [List.getElem?_eq_getElem (by omega)]
/-- a comprehension that leaves all as it is -/
theorem wp_lcsame {j : Nat} {it : M (List D)} {m : M D} {T : D → Prop} {e0 e1 : Env} {Q : List D → Env → Prop} (hj : e1[j]? = some .no)
    (h : Wp it e0 fun ds e2 => e2 = e1 ∧ ds.length ≤ sizeLine ∧ (∀ (i : Nat) x, ds[i]? = some x → Wp m (e1.set j (.d x)) fun d e3 => T d ∧ e3 = e1.set j (.d x)) ∧ ∀ rs : List D, rs.length = ds.length → (∀ r ∈ rs, T r) → Q rs e1) : Wp (mLc it mYes m j) e0 Q := by
  refine wp_lc (h.mono ?_)
  rintro ds e2 ⟨rfl, hl, step, k⟩
  refine ⟨hj, ?_⟩
  have hs : ∀ i d acc e, ds[i]? = some d → (e = e2 ∧ acc.length = 0 + i ∧ ∀ r ∈ acc, T r) → Wp mYes (e.set j (.d d)) fun b e1' => if b = true then Wp m e1' fun y e3 => (e3.set j .no = e2 ∧ (acc ++ [y]).length = 0 + i + 1 ∧ ∀ r ∈ acc ++ [y], T r) else (e1'.set j .no = e2 ∧ acc.length = 0 + i + 1 ∧ ∀ r ∈ acc, T r) := by
    rintro i d acc e hd ⟨rfl, hlen, hT⟩
    refine ⟨true, _, rfl, ite_t ((step i d hd).mono ?_)⟩
    rintro y e3 ⟨hy, rfl⟩
    refine ⟨set_no' hj _, by rw [List.length_append, hlen]; rfl, fun r hr => ?_⟩
    rcases List.mem_append.mp hr with z | z
    · exact hT r z
    · rw [List.mem_singleton.mp z]; exact hy
  obtain ⟨rs, e3, a, rfl, b, t⟩ := lc_inv (j := j) (t := mYes) (a := m) (fun i acc e => e = e2 ∧ acc.length = i ∧ ∀ r ∈ acc, T r) ds [] 0 e2 ⟨rfl, rfl, fun _ z => by cases z⟩ (by rw [List.length_nil]; omega) hs
  rw [Nat.zero_add] at b
  exact ⟨rs, _, a, k rs b t⟩
theorem five_mem {T : D → Prop} {a b c d e : D} (h : T a ∧ T b ∧ T c ∧ T d ∧ T e) : ∀ x ∈ [a, b, c, d, e], T x := by
  intro x hx
  simp only [List.mem_cons, List.not_mem_nil, or_false] at hx
  obtain ⟨h1, h2, h3, h4, h5⟩ := h
  rcases hx with rfl | rfl | rfl | rfl | rfl <;> assumption

end Nv

set_option Elab.async false
set_option linter.all false
set_option maxRecDepth 100000
set_option maxHeartbeats 1000000
namespace Nv
open PySem L2 PyProof.Rows PySem.Spec
local macro_rules | `(tactic| walk_at "n") => `(tactic| try simp only [List.set_cons_zero, List.set_cons_succ, List.map_cons, List.map_nil, List.cons_append, List.nil_append, List.replicate, Nat.reduceSub])
local macro_rules | `(tactic| walk_at "s") => `(tactic| first
  | with_reducible refine wp_seq ?_ | with_reducible refine wk_nx ?_ | with_reducible refine wk_rt ?_ | with_reducible refine wt_nx ?_ | with_reducible refine wt_rt ?_ | with_reducible refine wt_bk ?_ | with_reducible refine wt_ct ?_ | with_reducible refine wk_bk ?_ | with_reducible refine wk_ct ?_
  | with_reducible refine wp_if ?_ | with_reducible refine wp_ret ?_ | with_reducible refine wp_next ?_ | with_reducible refine wp_retN ?_ | with_reducible refine wp_set ?_ | with_reducible refine wp_own ?_ | with_reducible refine wp_drop ?_
  | ((with_reducible refine' wp_var ?_ ?_); rotate_left; rfl) | ((with_reducible refine' wp_varL ?_ ?_); rotate_left; rfl) | ((with_reducible refine' wp_app ?_ ?_); rotate_left; rfl) | ((with_reducible refine' wp_lget ?_ ?_ ?_); rotate_left 2; (· rfl); (· rfl)) | with_reducible refine wp_lput ?_ | ((with_reducible refine' wp_lown ?_ ?_ ?_); rotate_left; (· rfl); (· rfl)) | ((with_reducible refine' wp_fown ?_ ?_ ?_); rotate_left; (· rfl); (· rfl)) | with_reducible refine wp_c ?_ | with_reducible refine wp_op ?_ | with_reducible refine wp_un ?_ | with_reducible refine wp_cb ?_ | with_reducible refine wp_cons ?_ | with_reducible refine wp_nil ?_
  | with_reducible refine wp_bl ?_ | with_reducible refine wp_tru ?_ | with_reducible refine wp_not ?_ | with_reducible refine wp_and ?_ | with_reducible refine wp_or ?_ | with_reducible refine wp_andV ?_ | with_reducible refine wp_orV ?_ | with_reducible refine wp_notV ?_
  | with_reducible refine wp_chain ?_ | with_reducible refine wp_sz ?_ | with_reducible refine wp_lst ?_ | with_reducible refine wp_tup ?_ | with_reducible refine wp_is ?_ | with_reducible refine wp_onone ?_ | with_reducible refine wp_osome ?_ | with_reducible refine wp_sl ?_ | with_reducible refine wp_m1 ?_
  | with_reducible refine wp_all ?_ | with_reducible refine wp_repr ?_ | with_reducible refine wp_peek ?_ | with_reducible refine wp_peekT ?_ | with_reducible refine wp_addF ?_ | with_reducible refine wp_ilist ?_ | with_reducible refine wp_itup ?_ | with_reducible refine wp_istr ?_ | with_reducible refine wp_irng ?_ | with_reducible refine wp_list ?_ | with_reducible refine wp_listS ?_
  | with_reducible refine wp_for ?_ | with_reducible refine wp_call ?_ | with_reducible refine wp_callK ?_ | with_reducible refine wp_lnil ?_ | with_reducible refine wp_ldat ?_ | with_reducible refine wp_callL ?_ | with_reducible refine wp_flast ?_ | with_reducible refine wp_fdat ?_ | with_reducible refine wp_callF ?_
  | with_reducible refine ⟨_, (by assumption : _ = some _), ?_⟩
  | ((with_reducible refine' call_and ?_ ?_ ?_); rotate_left 2; (· rfl); (· assumption)) | ((with_reducible refine' callk_and ?_ ?_ ?_); rotate_left 2; (· exact ⟨rfl, rfl⟩); (· assumption))
  | refine ite_t ?_ | refine ite_f ?_ | refine ite_nt ?_ | refine ite_nf ?_
  | with_reducible refine ⟨_, add_int, ?_⟩ | with_reducible refine ⟨_, iadd_int, ?_⟩ | with_reducible refine ⟨_, sub_int, ?_⟩ | with_reducible refine ⟨_, lt_int, ?_⟩ | with_reducible refine ⟨_, le_int, ?_⟩ | with_reducible refine ⟨_, gt_int, ?_⟩ | with_reducible refine ⟨_, ge_int, ?_⟩ | with_reducible refine ⟨_, eq_int, ?_⟩
  | with_reducible refine ⟨_, len_lst, ?_⟩ | with_reducible refine ⟨_, len_tup, ?_⟩ | with_reducible refine ⟨_, tru_bl, ?_⟩ | with_reducible refine ⟨_, int_int _, ?_⟩ | with_reducible refine ⟨_, int_bl _, ?_⟩
  | with_reducible refine ⟨_, rfl, ?_⟩ | ((with_reducible refine free_and ?_ ?_); (· first | rfl | assumption); walk_at "n") | ((with_reducible refine kind_and ?_ ?_); (· first | rfl | assumption)) | ((with_reducible refine size_and ?_ ?_); (· simp only [List.length_cons, List.length_nil, sizeLine_eq]; omega))
  | with_reducible refine ite_y (by assumption) ?_ | with_reducible refine ite_n (by assumption) ?_ | with_reducible refine ite_ny (by assumption) ?_ | with_reducible refine ite_nn (by assumption) ?_ | with_reducible refine ite_bt (by assumption) ?_ | with_reducible refine ite_bf (by assumption) ?_ | with_reducible refine ite_nbt (by assumption) ?_ | with_reducible refine ite_nbf (by assumption) ?_)
local macro_rules | `(tactic| walk_at "r") => `(tactic| repeat walk_at "s")
local macro_rules | `(tactic| walk_at "f") => `(tactic| (refine ⟨rfl, ?_⟩; walk_at "n"))
local macro_rules | `(tactic| walk_at "d") => `(tactic| (with_reducible refine wp_draw' (by assumption) (by omega) (by decide) ?_; intro _ _ _ _ _))
/-! ShD1: names, words, letters. -/
theorem wp_alph {s : Str} {i : Int} (h : strB s = true) (h0 : 0 ≤ i) (h1 : i < s.length) {Q : D → Prop} (k : ∀ z, Shs 1 z → Q z) : ∃ z, ixD (.str s) (.int i) = some z ∧ Q z := by
  obtain ⟨z, a, b⟩ := shs_ix h h0 h1
  exact ⟨z, a, k z b⟩
def NamesD (n : Nat) (d : D) : Prop := ∃ ds, d = .lst ds ∧ ds.length = n ∧ ∀ x ∈ ds, Shs 9 x
theorem emod26 (x : Int) : 0 ≤ x % 26 ∧ x % 26 < 26 := ⟨Int.emod_nonneg _ (by decide), Int.emod_lt_of_pos _ (by decide)⟩
def nmBody (c : Nat → Fm) : MS := (mSeq (mSet 7 (mOp ixD (mVar 2) (mOp (intD fun i j => if 0 < j then some (.int (i % j)) else none) (mCb intOfD (mCons (mOp addD (mVar 4) (mOp (intD fun i j => if CMul i j then some (.int (i * j)) else none) (mC (.int 7)) (mVar 6))) mNil)) (mC (.int 26)))))
    (mSeq (mSet 8 (mM1 joinD (mC (.str "")) (mLst (mLc (mIRng (mCons (mCallP 2 0 (c 8) (mCons (mC (.int 8)) mNil)) mNil)) mYes (mOp ixD (mVar 2) (mCallP 2 0 (c 8) (mCons (mC (.int 26)) mNil))) 10))))
    (mSeq (mSet 9 (mOp ixD (mLst (mSz (mCons (mVar 7) (mCons (mOp addD (mC (.str "zzzzzzz")) (mVar 7)) (mCons (mOp addD (mVar 7) (mVar 8)) mNil))))) (mVar 3)))
    (mSeq (mIf (mBl (mOp (inD false) (mVar 9) (mTup (mCons (mC (.str "self")) (mCons (mC (.str "head")) mNil))))) (mSet 9 (mOp addD (mVar 9) (mC (.str "s")))) mNext)
    (mApp 5 (mVar 9))))))
abbrev alph : Str := "abcdefghijklmnopqrstuvwxyz"
theorem nm_turn (k : Nat) {xs : List Int} {N : Int} {K : List (Key × D)} {x1 : Sl} {w b t : Int} {acc : List D} {x7 x8 x9 : Sl} {R : Out → Env → Prop} {P : Env → Prop} (hp : PenAt xs N K) (hN : N + 8 ≤ 4000000)
    (hw : 0 ≤ w ∧ w < 3) (hacc : acc.length < 100) (h7 : Plain x7) (h8 : Plain x8) (h9 : Plain x9)
    (q : ∀ K' d y7 y8, PenAt xs (N + 8) K' → Shs 9 d → P [.pd K', x1, .d (.str alph), .d (.int w), .d (.int b), .ol (acc ++ [d]), .d (.int t), .d y7, .d y8, .d d, .no]) :
    Wp (nmBody (cs (k + 1))) [.pd K, x1, .d (.str alph), .d (.int w), .d (.int b), .ol acc, .d (.int t), x7, x8, x9, .no] (turnK P R) := by
  have f7 : freeB [.pd K, x1, .d (.str alph), .d (.int w), .d (.int b), .ol acc, .d (.int t), x7, x8, x9, .no] 7 = true := by rcases h7 with rfl | ⟨y, rfl⟩ <;> rfl
  have f8 : ∀ K' z, freeB [.pd K', x1, .d (.str alph), .d (.int w), .d (.int b), .ol acc, .d (.int t), .d z, x8, x9, .no] 8 = true := by rcases h8 with rfl | ⟨y, rfl⟩ <;> (intro _ _; rfl)
  have f9 : ∀ K' z u, freeB [.pd K', x1, .d (.str alph), .d (.int w), .d (.int b), .ol acc, .d (.int t), .d z, .d u, x9, .no] 9 = true := by rcases h9 with rfl | ⟨y, rfl⟩ <;> (intro _ _ _; rfl)
  have m7 : CMul 7 t := .inl ⟨by decide, by decide⟩
  obtain ⟨s7, e7, g7⟩ := shs_ix (s := alph) (by decide) (emod26 (b + 7 * t)).1 (emod26 (b + 7 * t)).2
  unfold nmBody
  walk_at "r"
  refine wp_lcpen (T := Shs 1) (xs := xs) (c := 1) (e1 := [x1, .d (.str alph), .d (.int w), .d (.int b), .ol acc, .d (.int t), .d s7, x8, x9, .no]) rfl (fun N K x hp hN => ?_) ?_
  · walk_at "r"
    walk_at "d"
    rename_i i K' h0 h1 hp'
    obtain ⟨z, a, g⟩ := shs_ix (s := alph) (by decide) h0 h1
    walk_at "r"
    exact ⟨g, _, rfl, hp'⟩
  · walk_at "r"
    walk_at "d"
    rename_i i K' h0 h1 hp'
    walk_at "r"
    refine ⟨by omega, N + 1, K', rfl, hp', by rw [upto_length]; omega, by rw [upto_length]; omega, fun rs K2 hl hT hp2 => ?_⟩
    rw [upto_length] at hl hp2
    obtain ⟨z, a, g⟩ := shs_join (n := 7) hT (by omega) (by decide)
    obtain ⟨z1, a1, g1⟩ := (shs_c "zzzzzzz" 7 (by decide) (by decide)).add g7 (by decide)
    obtain ⟨z2, a2, g2⟩ := g7.add g (by decide)
    refine ⟨z, a, f8 _ _, ?_⟩
    walk_at "n"
    walk_at "r"
    obtain ⟨z3, a3, m3⟩ := ix_at (xs := [s7, z1, z2]) hw.1 (by show w < 3; exact hw.2)
    have g3 : Shs 8 z3 := by
      simp only [List.mem_cons, List.not_mem_nil, or_false] at m3
      rcases m3 with rfl | rfl | rfl
      · exact g7.up (by decide)
      · exact g1
      · exact g2
    obtain ⟨z4, a4, g4⟩ := g3.add (shs_c "s" 1 (by decide) (by decide)) (by decide)
    have g3' := g3
    obtain ⟨s3, rfl, _, _⟩ := g3'
    have t3 := in_taken2 s3
    refine ⟨_, a3, f9 _ _ _, ?_⟩
    walk_at "n"
    walk_at "r"
    refine ite_b (fun _ => ?_) fun _ => ?_
    · walk_at "r"
      exact ⟨by rw [sizeLine_eq]; omega, q _ _ _ _ (hp2.up (by omega)) g4⟩
    · walk_at "r"
      exact ⟨by rw [sizeLine_eq]; omega, q _ _ _ _ (hp2.up (by omega)) (g3.up (by decide))⟩
theorem e_names (k : Nat) {n : Nat} (hn : n ≤ 10) : Draws (cs (k + 2) 10) (2 + 8 * n) [.d (.int (n : Int))] (NamesD n) := fun xs N K hp hN => by
  refine (show Wc (defM 2 11 (m__law_names (cs (k + 1)))) _ _ from ?_)
  refine wc_def rfl rfl ?_; walk_at "n"
  unfold m__law_names
  walk_at "r"
  walk_at "d"
  rename_i w K1 w0 w1 p1
  walk_at "r"
  walk_at "d"
  rename_i b K2 b0 b1 p2
  walk_at "r"
  have e5 : ((2 + 8 * n : Nat) : Int) = 2 + 8 * (n : Int) := by omega
  refine ⟨by omega, ?_⟩
  rw [Int.toNat_natCast]
  refine for_inv (fun i e => ∃ K' acc x6 x7 x8 x9, e = [.pd K', .d (.int (n : Int)), .d (.str alph), .d (.int w), .d (.int b), .ol acc, x6, x7, x8, x9, .no] ∧ PenAt xs (N + 2 + 8 * i) K' ∧ acc.length = i ∧ (∀ x ∈ acc, Shs 9 x) ∧ Plain x6 ∧ Plain x7 ∧ Plain x8 ∧ Plain x9) (upto n) 0 _ ⟨K2, [], .no, .no, .no, .no, rfl, p2.up (by omega), rfl, (fun _ z => by cases z), .no, .no, .no, .no⟩ ?_ ?_
  · rintro i d e hd ⟨K', acc, x6, x7, x8, x9, rfl, hp', hl, hT, h6, h7, h8, h9⟩
    obtain ⟨rfl, hi⟩ := upto_get hd
    rw [Nat.zero_add] at hp' hl ⊢
    have f6 : freeB [.pd K', .d (.int (n : Int)), .d (.str alph), .d (.int w), .d (.int b), .ol acc, x6, x7, x8, x9, .no] 6 = true := by rcases h6 with rfl | ⟨y, rfl⟩ <;> rfl
    refine ⟨f6, nm_turn k hp' (by omega) ⟨w0, w1⟩ (by omega) h7 h8 h9 fun K3 d y7 y8 hp3 hd => ?_⟩
    exact ⟨K3, _, _, _, _, _, rfl, hp3.up (by omega), by rw [List.length_append, hl]; rfl, (fun x hx => by
      rcases List.mem_append.mp hx with z | z
      · exact hT x z
      · rw [List.mem_singleton.mp z]; exact hd), .d _, .d _, .d _, .d _⟩
  · rintro e ⟨K', acc, x6, x7, x8, x9, rfl, hp', hl, hT, h6, h7, h8, h9⟩
    rw [Nat.zero_add, upto_length] at hp' hl
    walk_at "r"
    exact ⟨⟨acc, rfl, hl, hT⟩, K', rfl, hp'.up (by omega)⟩
/-! words -/
def WordsD (d : D) : Prop := ∃ ds, d = .lst ds ∧ 2 ≤ ds.length ∧ ds.length ≤ 6 ∧ ∀ x ∈ ds, Shs 19 x
theorem e_words (k : Nat) : Draws (cs (k + 3) 16) 60 [] WordsD := fun xs N K hp hN => by
  refine (show Wc (defM 1 4 (m__law_words (cs (k + 2)))) _ _ from ?_)
  refine wc_def rfl rfl ?_; walk_at "n"
  unfold m__law_words
  walk_at "r"
  with_reducible refine wp_pen ?_
  walk_at "r"
  refine ⟨rfl, _, _, _, _, _, _, rfl, hp, by omega, e_names k (n := 5) (by decide), ?_⟩
  rintro d K1 ⟨ns, rfl, hl, hT⟩ p1
  walk_at "f"
  walk_at "r"
  walk_at "d"
  rename_i m K2 m0 m1 p2
  walk_at "r"
  refine ⟨by omega, ?_⟩
  refine for_inv (fun i e => ∃ acc x3, e = [.pd K2, .d (.lst ns), .ol acc, x3] ∧ acc.length = i ∧ (∀ x ∈ acc, Shs 19 x) ∧ Plain x3) (upto (2 + m).toNat) 0 _ ⟨[], .no, rfl, rfl, (fun _ z => by cases z), .no⟩ ?_ ?_
  · rintro i d e hd ⟨acc, x3, rfl, hla, hA, h3⟩
    obtain ⟨rfl, hi⟩ := upto_get hd
    rw [Nat.zero_add] at hla ⊢
    have f3 : freeB [.pd K2, .d (.lst ns), .ol acc, x3] 3 = true := by rcases h3 with rfl | ⟨y, rfl⟩ <;> rfl
    refine ⟨f3, ?_⟩
    walk_at "n"
    obtain ⟨z1, a1, n1⟩ := ix_at (xs := ns) (i := (i : Int) % 2) (Int.emod_nonneg _ (by decide)) (by have := Int.emod_lt_of_pos (i : Int) (show (0 : Int) < 2 by decide); omega)
    obtain ⟨z2, a2, n2⟩ := ix_at (xs := ns) (i := 2 + (i : Int) / 2 % 3) (by have := Int.emod_nonneg ((i : Int) / 2) (show (3 : Int) ≠ 0 by decide); omega) (by have := Int.emod_lt_of_pos ((i : Int) / 2) (show (0 : Int) < 3 by decide); omega)
    obtain ⟨z3, a3, g3⟩ := (hT z1 n1).add (shs_c "." 1 (by decide) (by decide)) (by decide)
    obtain ⟨z4, a4, g4⟩ := g3.add (hT z2 n2) (by decide)
    have cd : CDiv (i : Int) 2 := ⟨by decide, by decide⟩
    walk_at "r"
    exact ⟨by rw [sizeLine_eq]; omega, _, _, rfl, by rw [List.length_append, hla]; rfl, (fun x hx => by
      rcases List.mem_append.mp hx with z | z
      · exact hA x z
      · rw [List.mem_singleton.mp z]; exact g4), .d _⟩
  · rintro e ⟨acc, x3, rfl, hla, hA, h3⟩
    rw [Nat.zero_add, upto_length] at hla
    walk_at "r"
    exact ⟨⟨acc, rfl, by omega, by omega, hA⟩, K2, rfl, p2.up (by omega)⟩
/-! letters -/
def LetD (d : D) : Prop := ∃ ds, d = .lst ds ∧ ds.length = 5 ∧ ∀ x ∈ ds, Shs 4 x
abbrev big : Str := "ABCDEFGHIJKLMNOPQRSTUVWXYZ"
theorem str_digit : ∀ {i : Nat}, i < 5 → ∃ z, strOfD [.int (4 - (i : Int))] = some z ∧ Shs 1 z
  | 0, _ => ⟨.str "4", by kernel_rfl, shs_c _ _ (by decide) (by decide)⟩
  | 1, _ => ⟨.str "3", by kernel_rfl, shs_c _ _ (by decide) (by decide)⟩
  | 2, _ => ⟨.str "2", by kernel_rfl, shs_c _ _ (by decide) (by decide)⟩
  | 3, _ => ⟨.str "1", by kernel_rfl, shs_c _ _ (by decide) (by decide)⟩
  | 4, _ => ⟨.str "0", by kernel_rfl, shs_c _ _ (by decide) (by decide)⟩
  | n + 5, h => absurd h (by omega)
theorem e_letters (k : Nat) : Draws (cs (k + 2) 17) 2 [] LetD := fun xs N K hp hN => by
  refine (show Wc (defM 1 5 (m__law_letters (cs (k + 1)))) _ _ from ?_)
  refine wc_def rfl rfl ?_; walk_at "n"
  unfold m__law_letters
  walk_at "r"
  walk_at "d"
  rename_i w K1 w0 w1 p1
  walk_at "r"
  walk_at "d"
  rename_i b K2 b0 b1 p2
  obtain ⟨s0, e0, g0⟩ := shs_ix (s := big) (by decide) b0 (Int.lt_trans b1 (by decide))
  obtain ⟨z1, a1, g1⟩ := g0.add (shs_c "0" 1 (by decide) (by decide)) (by decide)
  obtain ⟨z2, a2, g2⟩ := g0.add (shs_c "00" 2 (by decide) (by decide)) (by decide)
  obtain ⟨z3, a3, g3⟩ := g0.add (shs_c "07" 2 (by decide) (by decide)) (by decide)
  obtain ⟨z4, a4, g4⟩ := g0.add (shs_c "999" 3 (by decide) (by decide)) (by decide)
  walk_at "r"
  refine ite_dec (fun z => ?_) fun z => ?_
  · walk_at "r"
    with_reducible refine wp_lcsame (T := Shs 4) (e1 := [.pd K2, .d (.int w), .d (.int b), .d (.str big), .no]) rfl ?_
    walk_at "r"
    refine ⟨by decide, rfl, by decide, fun i x hx => ?_, fun rs hl hT => ?_⟩
    · obtain ⟨rfl, hi⟩ := upto_get hx
      have hi : i < 5 := hi
      obtain ⟨y, ey, gy⟩ := shs_ix (s := big) (i := b + i) (by decide) (by omega) (by show b + (i : Int) < 26; omega)
      walk_at "n"
      walk_at "r"
      exact ⟨gy.up (by decide), rfl⟩
    · walk_at "r"
      exact ⟨⟨rs, rfl, hl, hT⟩, K2, rfl, p2.up (by omega)⟩
  · walk_at "r"
    refine ite_dec (fun z => ?_) fun z => ?_
    · walk_at "r"
      with_reducible refine wp_lcsame (T := Shs 4) (e1 := [.pd K2, .d (.int w), .d (.int b), .d (.str big), .no]) rfl ?_
      walk_at "r"
      refine ⟨by decide, rfl, by decide, fun i x hx => ?_, fun rs hl hT => ?_⟩
      · obtain ⟨rfl, hi⟩ := upto_get hx
        obtain ⟨y, ey, gy⟩ := str_digit hi
        obtain ⟨u, eu, gu⟩ := (shs_c "V" 1 (by decide) (by decide)).add gy (by decide)
        walk_at "n"
        walk_at "r"
        exact ⟨gu.up (by decide), rfl⟩
      · walk_at "r"
        exact ⟨⟨rs, rfl, hl, hT⟩, K2, rfl, p2.up (by omega)⟩
    · walk_at "r"
      exact ⟨⟨_, rfl, rfl, five_mem ⟨g0.up (by decide), g1.up (by decide), g2.up (by decide), g3.up (by decide), g4.up (by decide)⟩⟩, K2, rfl, p2.up (by omega)⟩

end Nv

set_option Elab.async false
set_option linter.all false
set_option maxRecDepth 100000
set_option maxHeartbeats 1000000
namespace Nv
open PySem L2 PyProof.Rows PySem.Spec
local macro_rules | `(tactic| walk_at "n") => `(tactic| try simp only [List.set_cons_zero, List.set_cons_succ, List.map_cons, List.map_nil, List.cons_append, List.nil_append, List.replicate, Nat.reduceSub])
local macro_rules | `(tactic| walk_at "s") => `(tactic| first
  | with_reducible refine wp_seq ?_ | with_reducible refine wk_nx ?_ | with_reducible refine wk_rt ?_ | with_reducible refine wt_nx ?_ | with_reducible refine wt_rt ?_ | with_reducible refine wt_bk ?_ | with_reducible refine wt_ct ?_ | with_reducible refine wk_bk ?_ | with_reducible refine wk_ct ?_
  | with_reducible refine wp_if ?_ | with_reducible refine wp_ret ?_ | with_reducible refine wp_next ?_ | with_reducible refine wp_retN ?_ | with_reducible refine wp_set ?_ | with_reducible refine wp_own ?_ | with_reducible refine wp_drop ?_
  | ((with_reducible refine' wp_var ?_ ?_); rotate_left; rfl) | ((with_reducible refine' wp_varL ?_ ?_); rotate_left; rfl) | ((with_reducible refine' wp_app ?_ ?_); rotate_left; rfl) | ((with_reducible refine' wp_lget ?_ ?_ ?_); rotate_left 2; (· rfl); (· rfl)) | with_reducible refine wp_lput ?_ | ((with_reducible refine' wp_lown ?_ ?_ ?_); rotate_left; (· rfl); (· rfl)) | ((with_reducible refine' wp_fown ?_ ?_ ?_); rotate_left; (· rfl); (· rfl)) | with_reducible refine wp_c ?_ | with_reducible refine wp_op ?_ | with_reducible refine wp_un ?_ | with_reducible refine wp_cb ?_ | with_reducible refine wp_cons ?_ | with_reducible refine wp_nil ?_
  | with_reducible refine wp_bl ?_ | with_reducible refine wp_tru ?_ | with_reducible refine wp_not ?_ | with_reducible refine wp_and ?_ | with_reducible refine wp_or ?_ | with_reducible refine wp_andV ?_ | with_reducible refine wp_orV ?_ | with_reducible refine wp_notV ?_
  | with_reducible refine wp_chain ?_ | with_reducible refine wp_sz ?_ | with_reducible refine wp_lst ?_ | with_reducible refine wp_tup ?_ | with_reducible refine wp_is ?_ | with_reducible refine wp_onone ?_ | with_reducible refine wp_osome ?_ | with_reducible refine wp_sl ?_ | with_reducible refine wp_m1 ?_
  | with_reducible refine wp_all ?_ | with_reducible refine wp_repr ?_ | with_reducible refine wp_peek ?_ | with_reducible refine wp_peekT ?_ | with_reducible refine wp_addF ?_ | with_reducible refine wp_ilist ?_ | with_reducible refine wp_itup ?_ | with_reducible refine wp_istr ?_ | with_reducible refine wp_irng ?_ | with_reducible refine wp_list ?_ | with_reducible refine wp_listS ?_
  | with_reducible refine wp_for ?_ | with_reducible refine wp_call ?_ | with_reducible refine wp_callK ?_ | with_reducible refine wp_lnil ?_ | with_reducible refine wp_ldat ?_ | with_reducible refine wp_callL ?_ | with_reducible refine wp_flast ?_ | with_reducible refine wp_fdat ?_ | with_reducible refine wp_callF ?_
  | with_reducible refine ⟨_, (by assumption : _ = some _), ?_⟩
  | ((with_reducible refine' call_and ?_ ?_ ?_); rotate_left 2; (· rfl); (· assumption)) | ((with_reducible refine' callk_and ?_ ?_ ?_); rotate_left 2; (· exact ⟨rfl, rfl⟩); (· assumption))
  | refine ite_t ?_ | refine ite_f ?_ | refine ite_nt ?_ | refine ite_nf ?_
  | with_reducible refine ⟨_, add_int, ?_⟩ | with_reducible refine ⟨_, iadd_int, ?_⟩ | with_reducible refine ⟨_, sub_int, ?_⟩ | with_reducible refine ⟨_, lt_int, ?_⟩ | with_reducible refine ⟨_, le_int, ?_⟩ | with_reducible refine ⟨_, gt_int, ?_⟩ | with_reducible refine ⟨_, ge_int, ?_⟩ | with_reducible refine ⟨_, eq_int, ?_⟩
  | with_reducible refine ⟨_, len_lst, ?_⟩ | with_reducible refine ⟨_, len_tup, ?_⟩ | with_reducible refine ⟨_, tru_bl, ?_⟩ | with_reducible refine ⟨_, int_int _, ?_⟩ | with_reducible refine ⟨_, int_bl _, ?_⟩
  | with_reducible refine ⟨_, rfl, ?_⟩ | ((with_reducible refine free_and ?_ ?_); (· first | rfl | assumption); walk_at "n") | ((with_reducible refine kind_and ?_ ?_); (· first | rfl | assumption)) | ((with_reducible refine size_and ?_ ?_); (· simp only [List.length_cons, List.length_nil, sizeLine_eq]; omega))
  | with_reducible refine ite_y (by assumption) ?_ | with_reducible refine ite_n (by assumption) ?_ | with_reducible refine ite_ny (by assumption) ?_ | with_reducible refine ite_nn (by assumption) ?_ | with_reducible refine ite_bt (by assumption) ?_ | with_reducible refine ite_bf (by assumption) ?_ | with_reducible refine ite_nbt (by assumption) ?_ | with_reducible refine ite_nbf (by assumption) ?_)
local macro_rules | `(tactic| walk_at "r") => `(tactic| repeat walk_at "s")
local macro_rules | `(tactic| walk_at "f") => `(tactic| (refine ⟨rfl, ?_⟩; walk_at "n"))
local macro_rules | `(tactic| walk_at "d") => `(tactic| (with_reducible refine wp_draw' (by assumption) (by omega) (by decide) ?_; intro _ _ _ _ _))
/-! ShD2: trees as they are drawn. -/
inductive Tre (L : Nat) : Nat → D → Prop
  | leaf {n : Nat} {d : D} (h : Shs 4 d) : Tre L n d
  | node {n : Nat} {w : D} {r : List D} (hw : Shs L w) (hl : r.length ≤ 3) (hr : ∀ x ∈ r, Tre L n x) : Tre L (n + 1) (.tup (w :: r))
theorem Tre.up {L n m : Nat} {d : D} (h : Tre L n d) : n ≤ m → Tre L m d := by
  induction h generalizing m with
  | leaf h => intro _; exact .leaf h
  | node hw hl hr ih =>
    intro hm
    obtain ⟨k, rfl⟩ : ∃ k, m = k + 1 := ⟨m - 1, by omega⟩
    exact .node hw hl fun x hx => ih x hx (by omega)
def tw : Nat → Nat
  | 0 => 42
  | n + 1 => 3 * tw n + 413
theorem shs_ok {n : Nat} {d : D} (h : Shs n d) : okB d = true ∧ wt d ≤ 10 * n + 2 ∧ d.py.depth = 0 ∧ noDct d ∧ noLst d := by
  obtain ⟨s, rfl, a, b⟩ := h
  exact ⟨a, by show 10 * s.length + 2 ≤ _; omega, rfl, rfl, rfl⟩
theorem tw_ge : ∀ n, 42 ≤ tw n
  | 0 => Nat.le_refl _
  | n + 1 => by show 42 ≤ 3 * tw n + 413; omega
/-- what may be said of data: shown, so great, so deep, without dicts and lists -/
structure Ok (n w : Nat) (d : D) : Prop where
  ok : okB d = true
  wt : wt d ≤ w
  dp : d.py.depth ≤ n
  nd : noDct d
  nl : noLst d
theorem Ok.up {n m w v : Nat} {d : D} (h : Ok n w d) (hn : n ≤ m) (hw : w ≤ v) : Ok m v d := ⟨h.ok, Nat.le_trans h.wt hw, Nat.le_trans h.dp hn, h.nd, h.nl⟩
theorem ok_shs {n : Nat} {d : D} (h : Shs n d) : Ok 0 (10 * n + 2) d := by
  obtain ⟨a, b, c, e, f⟩ := shs_ok h
  exact ⟨a, b, Nat.le_of_eq c, e, f⟩
theorem ok_tup {n w : Nat} {ds : List D} (h : ∀ d ∈ ds, okB d = true ∧ d.py.depth ≤ n ∧ noDct d ∧ noLst d) (hw : wtAll ds + 3 ≤ w) : Ok (n + 1) w (.tup ds) where
  ok := okAll_iff.mpr fun d hd => (h d hd).1
  wt := hw
  dp := Nat.add_le_add_right (depthAll_le fun d hd => (h d hd).2.1) 1
  nd := nd_tup fun d hd => (h d hd).2.2.1
  nl := nl_tup fun d hd => (h d hd).2.2.2
theorem Tre.ok {L n : Nat} {d : D} (h : Tre L n d) (hL : L ≤ 40) : Ok n (tw n) d := by
  induction h with
  | leaf h => exact (ok_shs h).up (Nat.zero_le _) (tw_ge _)
  | node hw hl hr ih =>
    rename_i n w r
    obtain ⟨a, b, c, e, f⟩ := shs_ok hw
    refine ok_tup (fun d hd => ?_) ?_
    · rcases List.mem_cons.mp hd with z | z
      · rw [z]; exact ⟨a, by rw [c]; exact Nat.zero_le _, e, f⟩
      · exact ⟨(ih d z).ok, (ih d z).dp, (ih d z).nd, (ih d z).nl⟩
    · have h1 := wtAll_le (ds := r) (n := tw n) fun d hd => (ih d hd).wt
      have h2 : r.length * (tw n + 2) ≤ 3 * (tw n + 2) := Nat.mul_le_mul_right _ hl
      show wt w + 2 + wtAll r + 3 ≤ 3 * tw n + 413
      omega
theorem shs_shp {n : Nat} {ds : List D} (h : ∀ d ∈ ds, Shs n d) : shp (.lst ds) = true := strs_shp fun d hd => by
  obtain ⟨s, e, a, b⟩ := h d hd
  exact ⟨s, e, (strB_fit a).ok⟩
/-- draws of a term so deep -/
def tc : Nat → Nat
  | 0 => 2
  | n + 1 => 2 + 3 * tc n
theorem tc_ge (n : Nat) : 2 ≤ tc n := by cases n <;> (unfold tc; omega)
def lex (ds : List D) : Prop := 0 < ds.length ∧ ds.length ≤ 100 ∧ ∀ x ∈ ds, Shs 19 x
def lets (ds : List D) : Prop := ds.length ≤ 50 ∧ ∀ x ∈ ds, Shs 4 x
def TermOk (f : Fm) (c n : Nat) (ws ls : List D) : Prop := ∀ (xs : List Int) (N : Int) (K : List (Key × D)) (p : Int), PenAt xs N K → N + c ≤ 4000000 →
  Wc f [.pd K, .d (.lst ws), .d (.lst ls), .d (.int (n : Int)), .pl [.int p]] fun d as' => Tre 19 n d ∧ ∃ K' p', as' = [.pd K', .d (.lst ws), .d (.lst ls), .d (.int (n : Int)), .pl [.int p']] ∧ PenAt xs (N + c) K'
theorem range5 {w : Int} (h0 : 0 ≤ w) (h1 : w < 5) : ∃ m : Int, ixD (.lst [.int 0, .int 1, .int 2, .int 3, .int 3]) (.int w) = some (.int m) ∧ 0 ≤ m ∧ m ≤ 3 := by
  have : w = 0 ∨ w = 1 ∨ w = 2 ∨ w = 3 ∨ w = 4 := by omega
  rcases this with rfl | rfl | rfl | rfl | rfl
  · exact ⟨0, rfl, by decide, by decide⟩
  · exact ⟨1, rfl, by decide, by decide⟩
  · exact ⟨2, rfl, by decide, by decide⟩
  · exact ⟨3, rfl, by decide, by decide⟩
  · exact ⟨3, rfl, by decide, by decide⟩
theorem lget1 {p : Int} {Q : D → Prop} {e : Env} {i : Nat} {x : Sl} (hi : e[i]? = some x) (hx : x.list = some [.int p]) (h : Q (.int p)) : ∃ s xs k v, e[i]? = some s ∧ s.list = some xs ∧ D.int 0 = D.int k ∧ L2.atI xs k = some v ∧ Q v := ⟨_, _, 0, _, hi, hx, rfl, rfl, h⟩
theorem lput1 {p : Int} {Q : Env → Prop} {e : Env} {i : Nat} {y : D} (hi : e[i]? = some (.pl [.int p])) (h : Q (e.set i (.pl [y]))) : ∃ s xs, ∃ k : Nat, e[i]? = some s ∧ s.list = some xs ∧ ixN xs.length 0 = some k ∧ Q (e.set i (s.listTo (xs.set k y))) := ⟨_, _, 0, hi, rfl, rfl, h⟩
theorem shs_emp {ls : List D} (h : lets ls) : neXD (.lst ls) (.lst []) = some (.bl (!ls.isEmpty)) := ne_nil (shs_shp h.2)
theorem wp_pick (k : Nat) {xs : List Int} {N : Int} {K : List (Key × D)} {e : Env} {i : Nat} {ws : List D} {T : D → Prop} {P : D → Env → Prop} (hi : (Sl.pd K :: e)[i]? = some (.d (.lst ws))) (hm : 0 < ws.length ∧ ws.length ≤ 100) (hT : ∀ x ∈ ws, T x) (hp : PenAt xs N K) (hN : N + 1 ≤ 4000000)
    (q : ∀ d K', T d → PenAt xs (N + 1) K' → P d (.pd K' :: e)) : Wp (mCallP 2 0 (cs (k + 1) 8) (mCons (mCb lenD (mCons (mVar i) mNil)) mNil)) (.pd K :: e) fun y e2 => ∃ z, ixD (.lst ws) y = some z ∧ P z e2 := by
  refine wp_draw hp hN (wp_cons (wp_cb (wp_cons (wp_var hi (wp_nil ⟨_, len_lst, wp_nil ⟨_, rfl, e, rfl, ⟨by omega, by omega⟩, fun j K' h0 h1 hp' => ?_⟩⟩)))))
  obtain ⟨d, a, b⟩ := ix_at (xs := ws) h0 h1
  exact ⟨d, a, q d K' (hT d b) hp'⟩
def tmBody (c : Nat → Fm) : MS := (mIf (mBl (mOp gtD (mLGet 4 (mC (.int 0))) (mC (.int 0)))) (mSet 6 (mOp addD (mVar 6) (mTup (mCons (mCallL 5 (c 11) (mLOwn 0 (mLDat (mVar 1) (mLDat (mVar 2) (mLDat (mOp (intD fun i j => some (.int (i - j))) (mVar 3) (mC (.int 1))) (mLOwn 4 mLNil)))))) mNil)))) mNext)
theorem tm_turn {c : Nat → Fm} {ws ls : List D} {n : Nat} {cc : Nat} (hc : TermOk (c 11) cc n ws ls) {xs : List Int} {N : Int} {K : List (Key × D)} {p : Int} {x5 x7 : Sl} {w : D} {r : List D} {R : Out → Env → Prop} {P : Env → Prop} (hp : PenAt xs N K) (hN : N + cc ≤ 4000000) (hr : ∀ x ∈ r, Tre 19 n x) (hl : r.length ≤ 2)
    (q : ∀ K' p' r', PenAt xs (N + cc) K' → (∀ x ∈ r', Tre 19 n x) → r'.length ≤ r.length + 1 → P [.pd K', .d (.lst ws), .d (.lst ls), .d (.int ((n + 1 : Nat) : Int)), .pl [.int p'], x5, .d (.tup (w :: r')), x7]) :
    Wp (tmBody c) [.pd K, .d (.lst ws), .d (.lst ls), .d (.int ((n + 1 : Nat) : Int)), .pl [.int p], x5, .d (.tup (w :: r)), x7] (turnK P R) := by
  unfold tmBody
  walk_at "r"
  refine lget1 rfl rfl ?_
  walk_at "r"
  refine ite_dec (fun z => ?_) fun z => ?_
  · walk_at "r"
    have en : ((n + 1 : Nat) : Int) - 1 = (n : Int) := by omega
    refine ⟨⟨rfl, rfl⟩, _, rfl, ?_⟩
    rw [en]
    refine (hc xs N K p hp hN).mono ?_
    rintro d as' ⟨hd, K', p', rfl, hp'⟩
    show Wp mNil [Sl.pd K', Sl.d (D.lst ws), Sl.d (D.lst ls), Sl.d (D.int ((n + 1 : Nat) : Int)), Sl.pl [D.int p'], x5, Sl.d (D.tup (w :: r)), x7] _
    walk_at "r"
    have ha : addD (.tup (w :: r)) (.tup [d]) = some (.tup (w :: (r ++ [d]))) := if_pos (by rw [List.length_cons, List.length_cons, List.length_nil, sizeLine_eq]; omega)
    walk_at "r"
    refine q K' p' (r ++ [d]) hp' (fun x hx => ?_) (by rw [List.length_append]; simp)
    rcases List.mem_append.mp hx with z | z
    · exact hr x z
    · rw [List.mem_singleton.mp z]; exact hd
  · walk_at "r"
    exact q K p r (hp.up (by omega)) hr (by omega)
theorem e_term_d (ws ls : List D) (hws : lex ws) (hls : lets ls) : ∀ n k : Nat, TermOk (cs (k + n + 2) 11) (tc n) (n + 1) ws ls
  | n, k => fun xs N K p hp hN => by
    have h2 := tc_ge n
    have ne := shs_emp hls
    refine (show Wc (defM 5 8 (m__law_term (cs (k + n + 1)))) _ _ from ?_)
    refine wc_def rfl rfl ?_; walk_at "n"
    unfold m__law_term
    walk_at "r"
    refine lget1 rfl rfl ?_
    walk_at "r"
    refine lput1 rfl ?_
    walk_at "n"
    walk_at "r"
    walk_at "d"
    rename_i w K1 w0 w1 p1
    walk_at "r"
    have tail : Wp (mSeq (mSet 6 (mTup (mCons (mOp ixD (mVar 1) (mCallP 2 0 (cs (k + n + 1) 8) (mCons (mCb lenD (mCons (mVar 1) mNil)) mNil))) mNil)))
    (mSeq (mFor (mIRng (mCons (mOp (intD fun i j => if CMul i j then some (.int (i * j)) else none) (mOp ixD (mLst (mSz (mCons (mC (.int 0)) (mCons (mC (.int 1)) (mCons (mC (.int 2)) (mCons (mC (.int 3)) (mCons (mC (.int 3)) mNil))))))) (mVar 5)) (mCb intOfD (mCons (mOp gtD (mVar 3) (mC (.int 1))) mNil))) mNil)) 7 (tmBody (cs (k + n + 1)))) (mRet (mVar 6))))
      [.pd K1, .d (.lst ws), .d (.lst ls), .d (.int ((n + 1 : Nat) : Int)), .pl [.int (p - 1)], .d (.int w), .no, .no]
      (defK [.pd K, .d (.lst ws), .d (.lst ls), .d (.int ((n + 1 : Nat) : Int)), .pl [.int p]] fun d as' => Tre 19 (n + 1) d ∧ ∃ K' p', as' = [.pd K', .d (.lst ws), .d (.lst ls), .d (.int ((n + 1 : Nat) : Int)), .pl [.int p']] ∧ PenAt xs (N + tc n) K') := by
      walk_at "r"
      refine wp_pick (k + n) rfl ⟨hws.1, hws.2.1⟩ hws.2.2 p1 (by omega) fun d K2 hd p2 => ?_
      walk_at "r"
      obtain ⟨m, em, m0, m1⟩ := range5 w0 w1
      have cm : ∀ j : Int, CMul m j := fun j => .inl ⟨by omega, by omega⟩
      walk_at "r"
      refine ⟨_, if_pos (cm _), ?_⟩
      walk_at "r"
      cases n with
      | zero =>
        have e0 : m * (if decide ((1 : Int) < ((0 + 1 : Nat) : Int)) = true then (1 : Int) else 0) = 0 := Int.mul_zero m
        rw [e0]
        refine ⟨by decide, ?_⟩
        refine for_nil ?_
        walk_at "r"
        exact ⟨.node (r := []) hd (by decide) (fun _ z => by cases z), K2, p - 1, rfl, p2.up (by omega)⟩
      | succ n =>
        have e1 : m * (if decide ((1 : Int) < ((n + 1 + 1 : Nat) : Int)) = true then (1 : Int) else 0) = m := by rw [decide_eq_true (by omega), if_pos rfl, Int.mul_one]
        rw [e1]
        have et : (tc (n + 1) : Int) = 2 + 3 * (tc n : Int) := by show ((2 + 3 * tc n : Nat) : Int) = _; omega
        refine ⟨by omega, ?_⟩
        have ih := e_term_d ws ls hws hls n k
        refine for_inv (fun i e => ∃ K' p' r x7, e = [.pd K', .d (.lst ws), .d (.lst ls), .d (.int ((n + 1 + 1 : Nat) : Int)), .pl [.int p'], .d (.int w), .d (.tup (d :: r)), x7] ∧ PenAt xs (N + 2 + i * tc n) K' ∧ r.length ≤ i ∧ (∀ x ∈ r, Tre 19 (n + 1) x) ∧ Plain x7) (upto m.toNat) 0 _ ⟨K2, p - 1, [], .no, rfl, p2.up (by omega), Nat.le_refl _, (fun _ z => by cases z), .no⟩ ?_ ?_
        · rintro i y e hy ⟨K', p', r, x7, rfl, hp', hrl, hr, h7⟩
          obtain ⟨rfl, hi⟩ := upto_get hy
          rw [Nat.zero_add] at hp' hrl ⊢
          have f7 : freeB [.pd K', .d (.lst ws), .d (.lst ls), .d (.int ((n + 1 + 1 : Nat) : Int)), .pl [.int p'], .d (.int w), .d (.tup (d :: r)), x7] 7 = true := by rcases h7 with rfl | ⟨y, rfl⟩ <;> rfl
          have hm : i * tc n ≤ 2 * tc n := Nat.mul_le_mul_right _ (by omega)
          have hm' : (i : Int) * (tc n : Int) ≤ 2 * (tc n : Int) := by exact_mod_cast hm
          have es : ((i + 1 : Nat) : Int) * (tc n : Int) = (i : Int) * (tc n : Int) + tc n := by rw [Int.natCast_add, Int.add_mul]; omega
          refine ⟨f7, ?_⟩
          refine tm_turn (n := n + 1) ih hp' (by omega) hr (by omega) fun K3 p3 r' hp3 hr' hl' => ?_
          exact ⟨K3, p3, r', _, rfl, hp3.up (by omega), by omega, hr', .d _⟩
        · rintro e ⟨K', p', r, x7, rfl, hp', hrl, hr, h7⟩
          rw [Nat.zero_add, upto_length] at hp' hrl
          have hm : m.toNat * tc n ≤ 3 * tc n := Nat.mul_le_mul_right _ (by omega)
          have hm' : (m.toNat : Int) * (tc n : Int) ≤ 3 * (tc n : Int) := by exact_mod_cast hm
          walk_at "r"
          exact ⟨.node hd (by omega) hr, K', p', rfl, hp'.up (by omega)⟩
    refine ite_b (fun z => ?_) fun z => ?_
    · walk_at "r"
      refine ite_dec (fun z2 => ?_) fun z2 => ?_
      · walk_at "r"
        have hl : 0 < ls.length := by
          cases ls with
          | nil => cases z
          | cons _ _ => rw [List.length_cons]; omega
        refine wp_pick (k + n) rfl ⟨hl, by have := hls.1; omega⟩ hls.2 p1 (by omega) fun d K2 hd p2 => ?_
        exact ⟨.leaf hd, K2, p - 1, rfl, p2.up (by omega)⟩
      · with_reducible refine wp_next ?_
        with_reducible refine wk_nx ?_
        exact tail
    · refine ite_f ?_
      with_reducible refine wp_next ?_
      with_reducible refine wk_nx ?_
      exact tail

end Nv

set_option Elab.async false
set_option linter.all false
set_option maxRecDepth 100000
set_option maxHeartbeats 1000000
namespace Nv
open PySem L2 PyProof.Rows PySem.Spec
local macro_rules | `(tactic| walk_at "n") => `(tactic| try simp only [List.set_cons_zero, List.set_cons_succ, List.map_cons, List.map_nil, List.cons_append, List.nil_append, List.replicate, Nat.reduceSub])
local macro_rules | `(tactic| walk_at "s") => `(tactic| first
  | with_reducible refine wp_seq ?_ | with_reducible refine wk_nx ?_ | with_reducible refine wk_rt ?_ | with_reducible refine wt_nx ?_ | with_reducible refine wt_rt ?_ | with_reducible refine wt_bk ?_ | with_reducible refine wt_ct ?_ | with_reducible refine wk_bk ?_ | with_reducible refine wk_ct ?_
  | with_reducible refine wp_if ?_ | with_reducible refine wp_ret ?_ | with_reducible refine wp_next ?_ | with_reducible refine wp_retN ?_ | with_reducible refine wp_set ?_ | with_reducible refine wp_own ?_ | with_reducible refine wp_drop ?_
  | ((with_reducible refine' wp_var ?_ ?_); rotate_left; rfl) | ((with_reducible refine' wp_varL ?_ ?_); rotate_left; rfl) | ((with_reducible refine' wp_app ?_ ?_); rotate_left; rfl) | ((with_reducible refine' wp_lget ?_ ?_ ?_); rotate_left 2; (· rfl); (· rfl)) | with_reducible refine wp_lput ?_ | ((with_reducible refine' wp_lown ?_ ?_ ?_); rotate_left; (· rfl); (· rfl)) | ((with_reducible refine' wp_fown ?_ ?_ ?_); rotate_left; (· rfl); (· rfl)) | with_reducible refine wp_c ?_ | with_reducible refine wp_op ?_ | with_reducible refine wp_un ?_ | with_reducible refine wp_cb ?_ | with_reducible refine wp_cons ?_ | with_reducible refine wp_nil ?_
  | with_reducible refine wp_bl ?_ | with_reducible refine wp_tru ?_ | with_reducible refine wp_not ?_ | with_reducible refine wp_and ?_ | with_reducible refine wp_or ?_ | with_reducible refine wp_andV ?_ | with_reducible refine wp_orV ?_ | with_reducible refine wp_notV ?_
  | with_reducible refine wp_chain ?_ | with_reducible refine wp_sz ?_ | with_reducible refine wp_lst ?_ | with_reducible refine wp_tup ?_ | with_reducible refine wp_is ?_ | with_reducible refine wp_onone ?_ | with_reducible refine wp_osome ?_ | with_reducible refine wp_sl ?_ | with_reducible refine wp_m1 ?_
  | with_reducible refine wp_all ?_ | with_reducible refine wp_repr ?_ | with_reducible refine wp_peek ?_ | with_reducible refine wp_peekT ?_ | with_reducible refine wp_addF ?_ | with_reducible refine wp_ilist ?_ | with_reducible refine wp_itup ?_ | with_reducible refine wp_istr ?_ | with_reducible refine wp_irng ?_ | with_reducible refine wp_list ?_ | with_reducible refine wp_listS ?_
  | with_reducible refine wp_for ?_ | with_reducible refine wp_call ?_ | with_reducible refine wp_callK ?_ | with_reducible refine wp_lnil ?_ | with_reducible refine wp_ldat ?_ | with_reducible refine wp_callL ?_ | with_reducible refine wp_flast ?_ | with_reducible refine wp_fdat ?_ | with_reducible refine wp_callF ?_
  | with_reducible refine ⟨_, (by assumption : _ = some _), ?_⟩
  | ((with_reducible refine' call_and ?_ ?_ ?_); rotate_left 2; (· rfl); (· assumption)) | ((with_reducible refine' callk_and ?_ ?_ ?_); rotate_left 2; (· exact ⟨rfl, rfl⟩); (· assumption))
  | refine ite_t ?_ | refine ite_f ?_ | refine ite_nt ?_ | refine ite_nf ?_
  | with_reducible refine ⟨_, add_int, ?_⟩ | with_reducible refine ⟨_, iadd_int, ?_⟩ | with_reducible refine ⟨_, sub_int, ?_⟩ | with_reducible refine ⟨_, lt_int, ?_⟩ | with_reducible refine ⟨_, le_int, ?_⟩ | with_reducible refine ⟨_, gt_int, ?_⟩ | with_reducible refine ⟨_, ge_int, ?_⟩ | with_reducible refine ⟨_, eq_int, ?_⟩
  | with_reducible refine ⟨_, len_lst, ?_⟩ | with_reducible refine ⟨_, len_tup, ?_⟩ | with_reducible refine ⟨_, tru_bl, ?_⟩ | with_reducible refine ⟨_, int_int _, ?_⟩ | with_reducible refine ⟨_, int_bl _, ?_⟩
  | with_reducible refine ⟨_, rfl, ?_⟩ | ((with_reducible refine free_and ?_ ?_); (· first | rfl | assumption); walk_at "n") | ((with_reducible refine kind_and ?_ ?_); (· first | rfl | assumption)) | ((with_reducible refine size_and ?_ ?_); (· simp only [List.length_cons, List.length_nil, sizeLine_eq]; omega))
  | with_reducible refine ite_y (by assumption) ?_ | with_reducible refine ite_n (by assumption) ?_ | with_reducible refine ite_ny (by assumption) ?_ | with_reducible refine ite_nn (by assumption) ?_ | with_reducible refine ite_bt (by assumption) ?_ | with_reducible refine ite_bf (by assumption) ?_ | with_reducible refine ite_nbt (by assumption) ?_ | with_reducible refine ite_nbf (by assumption) ?_)
local macro_rules | `(tactic| walk_at "r") => `(tactic| repeat walk_at "s")
local macro_rules | `(tactic| walk_at "f") => `(tactic| (refine ⟨rfl, ?_⟩; walk_at "n"))
local macro_rules | `(tactic| walk_at "d") => `(tactic| (with_reducible refine wp_draw' (by assumption) (by omega) (by decide) ?_; intro _ _ _ _ _))
/-! ShD3: full trees, towers. -/
def fc : Nat → Nat
  | 0 => 1
  | n + 1 => 1 + 3 * fc n
theorem fc_ge (n : Nat) : 1 ≤ fc n := by cases n <;> (unfold fc; omega)
theorem tup_lst (xs : List D) : tupOfD [.lst xs] = some (.tup xs) := rfl
def FullD (n : Nat) (d : D) : Prop := ∃ w rs, d = .tup (w :: rs) ∧ Shs 19 w ∧ rs.length = 3 ∧ ∀ x ∈ rs, Tre 19 n x
theorem e_full (ws ls : List D) (hws : lex ws) (hls : lets ls) : ∀ n k : Nat, Draws (cs (k + n + 2) 15) (fc n) [.d (.lst ws), .d (.lst ls), .d (.int ((n + 1 : Nat) : Int))] (fun d => Tre 19 (n + 1) d ∧ (0 < n → FullD n d))
  | 0, k => fun xs N K hp hN => by
    refine (show Wc (defM 4 6 (m__law_full (cs (k + 1)))) _ _ from ?_)
    refine wc_def rfl rfl ?_; walk_at "n"
    obtain ⟨w0, ew, hw⟩ := ix_at (xs := ws) (i := 0) (by decide) (by have := hws.1; omega)
    have ha : addD (.lst ls) (.lst [.tup [w0]]) = some (.lst (ls ++ [.tup [w0]])) := if_pos (by have := hls.1; rw [List.length_cons, List.length_nil, sizeLine_eq]; omega)
    have e1 : ((0 + 1 : Nat) : Int) = 1 := rfl
    unfold m__law_full
    walk_at "r"
    refine wp_draw hp hN ?_
    walk_at "r"
    refine ⟨by have := hls.1; omega, fun i K' h0 h1 hp' => ?_⟩
    obtain ⟨d, ed, hd⟩ := ix_at (xs := ls ++ [.tup [w0]]) (i := i) h0 (by rw [List.length_append, List.length_cons, List.length_nil]; omega)
    walk_at "r"
    refine ⟨⟨?_, fun z => absurd z (by decide)⟩, K', rfl, hp'⟩
    rcases List.mem_append.mp hd with z | z
    · exact .leaf (hls.2 d z)
    · rw [List.mem_singleton.mp z]
      exact .node (hws.2.2 _ hw) (by decide) fun _ z => by cases z
  | n + 1, k => fun xs N K hp hN => by
    have ih := e_full ws ls hws hls n k
    refine (show Wc (defM 4 6 (m__law_full (cs (k + n + 2)))) _ _ from ?_)
    refine wc_def rfl rfl ?_; walk_at "n"
    have e1 : ¬ ((n + 1 + 1 : Nat) : Int) = 1 := by omega
    have e2 : ((n + 1 + 1 : Nat) : Int) - 1 = ((n + 1 : Nat) : Int) := by omega
    have et : (fc (n + 1) : Int) = 1 + 3 * (fc n : Int) := by show ((1 + 3 * fc n : Nat) : Int) = _; omega
    unfold m__law_full
    walk_at "r"
    with_reducible refine wp_lcpen (T := Tre 19 (n + 1)) (xs := xs) (c := fc n) (e1 := [.d (.lst ws), .d (.lst ls), .d (.int ((n + 1 + 1 : Nat) : Int)), .no, .no]) rfl (fun N K x hp hN => ?_) ?_
    · walk_at "n"
      with_reducible refine wp_pen ?_
      walk_at "r"
      rw [e2]
      exact ⟨rfl, _, _, _, _, _, _, rfl, hp, hN, ih, fun d K' hd hp' => ⟨hd.1, K', rfl, hp'⟩⟩
    · walk_at "r"
      refine ⟨by decide, N, K, rfl, hp, by rw [upto_length]; show N + ((3 : Nat) : Int) * (fc n : Int) ≤ _; omega, by rw [upto_length]; decide, fun rs K' hl hT hp' => ?_⟩
      rw [upto_length] at hl hp'
      have hl : rs.length = 3 := hl
      have hp' : PenAt xs (N + ((3 : Nat) : Int) * (fc n : Int)) K' := hp'
      walk_at "r"
      refine wp_pick (k + n + 1) rfl ⟨hws.1, hws.2.1⟩ hws.2.2 hp' (by omega) fun d K2 hd p2 => ?_
      have ha : addD (.tup [d]) (.tup rs) = some (.tup (d :: rs)) := if_pos (by rw [List.length_cons, List.length_nil, sizeLine_eq]; omega)
      walk_at "r"
      exact ⟨⟨.node hd (by omega) hT, fun _ => ⟨d, rs, rfl, hd, hl, hT⟩⟩, K2, rfl, p2.up (by omega)⟩
theorem e_tower (ws : List D) (hws : lex ws) (n k : Nat) (hn : n ≤ 50) : Draws (cs (k + 2) 18) n [.d (.lst ws), .d (.int ((n + 1 : Nat) : Int))] (Tre 19 (n + 1)) := fun xs N K hp hN => by
  refine (show Wc (defM 3 5 (m__law_tower (cs (k + 1)))) _ _ from ?_)
  refine wc_def rfl rfl ?_; walk_at "n"
  obtain ⟨w0, ew, hw⟩ := ix_at (xs := ws) (i := 0) (by decide) (by have := hws.1; omega)
  have e2 : ((n + 1 : Nat) : Int) - 1 = (n : Int) := by omega
  unfold m__law_tower
  walk_at "r"
  rw [e2]
  refine ⟨by omega, ?_⟩
  rw [Int.toNat_natCast]
  refine for_inv (fun i e => ∃ K' d x4, e = [.pd K', .d (.lst ws), .d (.int ((n + 1 : Nat) : Int)), .d d, x4] ∧ PenAt xs (N + i) K' ∧ Tre 19 (i + 1) d ∧ Plain x4) (upto n) 0 _ ⟨K, .tup [w0], .no, rfl, hp.up (by omega), .node (hws.2.2 _ hw) (by decide) (fun _ z => by cases z), .no⟩ ?_ ?_
  · rintro i y e hy ⟨K', d, x4, rfl, hp', hd, h4⟩
    obtain ⟨rfl, hi⟩ := upto_get hy
    rw [Nat.zero_add] at hp' hd ⊢
    have f4 : freeB [.pd K', .d (.lst ws), .d (.int ((n + 1 : Nat) : Int)), .d d, x4] 4 = true := by rcases h4 with rfl | ⟨y, rfl⟩ <;> rfl
    refine ⟨f4, ?_⟩
    walk_at "n"
    walk_at "r"
    refine wp_pick k rfl ⟨hws.1, hws.2.1⟩ hws.2.2 hp' (by omega) fun w K2 hw' p2 => ?_
    walk_at "r"
    exact ⟨K2, _, _, rfl, p2.up (by omega), .node hw' (show 1 ≤ 3 by decide) (fun x hx => by rw [List.mem_singleton.mp hx]; exact hd), .d _⟩
  · rintro e ⟨K', d, x4, rfl, hp', hd, h4⟩
    rw [Nat.zero_add, upto_length] at hp' hd
    walk_at "r"
    exact ⟨hd, K', rfl, hp'.up (by omega)⟩

end Nv

set_option Elab.async false
set_option linter.all false
set_option maxRecDepth 100000
set_option maxHeartbeats 1000000
namespace Nv
open PySem L2 PyProof.Rows PySem.Spec
local macro_rules | `(tactic| walk_at "n") => `(tactic| try simp only [List.set_cons_zero, List.set_cons_succ, List.map_cons, List.map_nil, List.cons_append, List.nil_append, List.replicate, Nat.reduceSub])
local macro_rules | `(tactic| walk_at "s") => `(tactic| first
  | with_reducible refine wp_seq ?_ | with_reducible refine wk_nx ?_ | with_reducible refine wk_rt ?_ | with_reducible refine wt_nx ?_ | with_reducible refine wt_rt ?_ | with_reducible refine wt_bk ?_ | with_reducible refine wt_ct ?_ | with_reducible refine wk_bk ?_ | with_reducible refine wk_ct ?_
  | with_reducible refine wp_if ?_ | with_reducible refine wp_ret ?_ | with_reducible refine wp_next ?_ | with_reducible refine wp_retN ?_ | with_reducible refine wp_set ?_ | with_reducible refine wp_own ?_ | with_reducible refine wp_drop ?_
  | ((with_reducible refine' wp_var ?_ ?_); rotate_left; rfl) | ((with_reducible refine' wp_varL ?_ ?_); rotate_left; rfl) | ((with_reducible refine' wp_app ?_ ?_); rotate_left; rfl) | ((with_reducible refine' wp_lget ?_ ?_ ?_); rotate_left 2; (· rfl); (· rfl)) | with_reducible refine wp_lput ?_ | ((with_reducible refine' wp_lown ?_ ?_ ?_); rotate_left; (· rfl); (· rfl)) | ((with_reducible refine' wp_fown ?_ ?_ ?_); rotate_left; (· rfl); (· rfl)) | with_reducible refine wp_c ?_ | with_reducible refine wp_op ?_ | with_reducible refine wp_un ?_ | with_reducible refine wp_cb ?_ | with_reducible refine wp_cons ?_ | with_reducible refine wp_nil ?_
  | with_reducible refine wp_bl ?_ | with_reducible refine wp_tru ?_ | with_reducible refine wp_not ?_ | with_reducible refine wp_and ?_ | with_reducible refine wp_or ?_ | with_reducible refine wp_andV ?_ | with_reducible refine wp_orV ?_ | with_reducible refine wp_notV ?_
  | with_reducible refine wp_chain ?_ | with_reducible refine wp_sz ?_ | with_reducible refine wp_lst ?_ | with_reducible refine wp_tup ?_ | with_reducible refine wp_is ?_ | with_reducible refine wp_onone ?_ | with_reducible refine wp_osome ?_ | with_reducible refine wp_sl ?_ | with_reducible refine wp_m1 ?_
  | with_reducible refine wp_all ?_ | with_reducible refine wp_repr ?_ | with_reducible refine wp_peek ?_ | with_reducible refine wp_peekT ?_ | with_reducible refine wp_addF ?_ | with_reducible refine wp_ilist ?_ | with_reducible refine wp_itup ?_ | with_reducible refine wp_istr ?_ | with_reducible refine wp_irng ?_ | with_reducible refine wp_list ?_ | with_reducible refine wp_listS ?_
  | with_reducible refine wp_for ?_ | with_reducible refine wp_call ?_ | with_reducible refine wp_callK ?_ | with_reducible refine wp_lnil ?_ | with_reducible refine wp_ldat ?_ | with_reducible refine wp_callL ?_ | with_reducible refine wp_flast ?_ | with_reducible refine wp_fdat ?_ | with_reducible refine wp_callF ?_
  | with_reducible refine ⟨_, (by assumption : _ = some _), ?_⟩
  | ((with_reducible refine' call_and ?_ ?_ ?_); rotate_left 2; (· rfl); (· assumption)) | ((with_reducible refine' callk_and ?_ ?_ ?_); rotate_left 2; (· exact ⟨rfl, rfl⟩); (· assumption))
  | refine ite_t ?_ | refine ite_f ?_ | refine ite_nt ?_ | refine ite_nf ?_
  | with_reducible refine ⟨_, add_int, ?_⟩ | with_reducible refine ⟨_, iadd_int, ?_⟩ | with_reducible refine ⟨_, sub_int, ?_⟩ | with_reducible refine ⟨_, lt_int, ?_⟩ | with_reducible refine ⟨_, le_int, ?_⟩ | with_reducible refine ⟨_, gt_int, ?_⟩ | with_reducible refine ⟨_, ge_int, ?_⟩ | with_reducible refine ⟨_, eq_int, ?_⟩
  | with_reducible refine ⟨_, len_lst, ?_⟩ | with_reducible refine ⟨_, len_tup, ?_⟩ | with_reducible refine ⟨_, tru_bl, ?_⟩ | with_reducible refine ⟨_, int_int _, ?_⟩ | with_reducible refine ⟨_, int_bl _, ?_⟩
  | with_reducible refine ⟨_, rfl, ?_⟩ | ((with_reducible refine free_and ?_ ?_); (· first | rfl | assumption); walk_at "n") | ((with_reducible refine kind_and ?_ ?_); (· first | rfl | assumption)) | ((with_reducible refine size_and ?_ ?_); (· simp only [List.length_cons, List.length_nil, sizeLine_eq]; omega))
  | with_reducible refine ite_y (by assumption) ?_ | with_reducible refine ite_n (by assumption) ?_ | with_reducible refine ite_ny (by assumption) ?_ | with_reducible refine ite_nn (by assumption) ?_ | with_reducible refine ite_bt (by assumption) ?_ | with_reducible refine ite_bf (by assumption) ?_ | with_reducible refine ite_nbt (by assumption) ?_ | with_reducible refine ite_nbf (by assumption) ?_)
local macro_rules | `(tactic| walk_at "r") => `(tactic| repeat walk_at "s")
local macro_rules | `(tactic| walk_at "f") => `(tactic| (refine ⟨rfl, ?_⟩; walk_at "n"))
local macro_rules | `(tactic| walk_at "d") => `(tactic| (with_reducible refine wp_draw' (by assumption) (by omega) (by decide) ?_; intro _ _ _ _ _))
/-! ShD4: odd values, trees that are bent. -/
mutual
/-- all texts in it are so short -/
def shB (L : Nat) : D → Bool
  | .str s => decide (s.length ≤ L)
  | .lst xs => shAll L xs
  | .tup xs => shAll L xs
  | _ => true
def shAll (L : Nat) : List D → Bool
  | [] => true
  | d :: ds => shB L d && shAll L ds
end
theorem shAll_iff {L : Nat} : ∀ {ds : List D}, shAll L ds = true ↔ (∀ d ∈ ds, shB L d = true)
  | [] => ⟨fun _ _ h => (by cases h), fun _ => rfl⟩
  | d :: ds => by
    show (shB L d && shAll L ds) = true ↔ _
    rw [Bool.and_eq_true, shAll_iff]
    simp
theorem Tre.sh {L n : Nat} {d : D} (h : Tre L n d) (hL : 4 ≤ L) : shB (L + 1) d = true := by
  induction h with
  | leaf h =>
    obtain ⟨s, rfl, _, a⟩ := h
    exact decide_eq_true (by omega)
  | node hw hl hr ih =>
    rename_i n w r
    show shAll (L + 1) (w :: r) = true
    refine shAll_iff.mpr fun d hd => ?_
    rcases List.mem_cons.mp hd with z | z
    · obtain ⟨s, rfl, _, a⟩ := hw
      rw [z]
      exact decide_eq_true (by omega)
    · exact ih d z
structure Odd (L n w : Nat) (d : D) : Prop where
  ok : okB d = true
  wt : wt d ≤ w
  dp : d.py.depth ≤ n
  te : noDct d ∨ noLst d
  sh : shB (L + 1) d = true
theorem Odd.up {L n m w v : Nat} {d : D} (h : Odd L n w d) (hn : n ≤ m) (hw : w ≤ v) : Odd L m v d := ⟨h.ok, Nat.le_trans h.wt hw, Nat.le_trans h.dp hn, h.te, h.sh⟩
theorem Odd.tells {L n w : Nat} {d : D} (h : Odd L n w d) : tells d.py = true := h.te.elim tells_nd tells_nl
theorem Odd.rok {L n w : Nat} {d : D} (h : Odd L n w d) (hn : n ≤ 60) (hw : w ≤ 16000000) : rokB d = true := rok_of h.ok (Nat.le_trans h.wt hw) (Nat.le_trans h.dp hn) h.tells
def oddL (a b t : D) (ls : List D) : List D := [a, b, .non, .bl true, .int 0, .str "", .str "t", .tup [], .lst [a], .lst ls, .tup [.str "T"], .tup [a, a], .tup [.str "T", .tup [a]]] ++
  [.tup [a, .non], .tup [a, .str "t"], .tup [a, .bl true], .tup [.tup [a]], .tup [a, .str "T", .str "T", .str "T", .str "T"], .dct [], .tup [a, .lst [a]]]
theorem odd_all {L n w : Nat} {a b t : D} {ls : List D} (ha : Shs L a) (hb : Shs (L + 1) b) (hL : 4 ≤ L ∧ L ≤ 40) (hl : Odd L (n + 2) (w + 1700) (.lst ls)) : ∀ d ∈ oddL a b t ls, Odd L (n + 2) (w + 1700) d := by
  obtain ⟨s, rfl, s1, s2⟩ := ha
  obtain ⟨u, rfl, u1, u2⟩ := hb
  intro d hd
  simp only [oddL, List.cons_append, List.nil_append, List.mem_cons, List.not_mem_nil, or_false] at hd
  have k1 : strB "T" = true := by decide
  have k2 : strB "t" = true := by decide
  have k3 : strB "" = true := by decide
  have l1 : ("T" : Str).length = 1 := rfl
  have l2 : ("t" : Str).length = 1 := rfl
  have l3 : ("" : Str).length = 0 := rfl
  have d1 : decide (s.length ≤ L + 1) = true := decide_eq_true (by omega)
  have d2 : decide (u.length ≤ L + 1) = true := decide_eq_true u2
  have d3 : decide (1 ≤ L + 1) = true := decide_eq_true (by omega)
  have d4 : decide (0 ≤ L + 1) = true := decide_eq_true (by omega)
  rcases hd with rfl | rfl | rfl | rfl | rfl | rfl | rfl | rfl | rfl | rfl | rfl | rfl | rfl | rfl | rfl | rfl | rfl | rfl | rfl | rfl
  all_goals first
    | exact hl
    | exact ⟨by simp [okB, okAll, okKv, s1, u1, k1, k2, k3], by simp only [wt, wtAll, wtKv, l1, l2, l3]; omega, (show _ ≤ n + 2 from Nat.le_trans (show _ ≤ 2 from by first | exact Nat.zero_le 2 | exact (show 1 ≤ 2 by decide) | exact Nat.le_refl 2) (by omega)), by first | exact .inl rfl | exact .inr rfl, by simp only [shB, shAll, l1, l2, l3, d1, d2, d3, d4, Bool.and_self, Bool.and_true, Bool.true_and]⟩
theorem odd_of_lst {L n w : Nat} {ds : List D} (h : ∀ d ∈ ds, okB d = true ∧ d.py.depth ≤ n ∧ noDct d ∧ shB (L + 1) d = true) (hw : wtAll ds + 3 ≤ w) : Odd L (n + 1) w (.lst ds) where
  ok := okAll_iff.mpr fun d hd => (h d hd).1
  wt := hw
  dp := Nat.add_le_add_right (depthAll_le fun d hd => (h d hd).2.1) 1
  te := .inl (nd_lst fun d hd => (h d hd).2.2.1)
  sh := shAll_iff.mpr fun d hd => (h d hd).2.2.2
theorem Tre.shape {L n : Nat} {d : D} (h : Tre L n d) : (∃ s, d = .str s ∧ Shs 4 d) ∨ ∃ w r m, d = .tup (w :: r) ∧ n = m + 1 ∧ Shs L w ∧ r.length ≤ 3 ∧ ∀ x ∈ r, Tre L m x := by
  cases h with
  | leaf h =>
    obtain ⟨s, rfl, a⟩ := h
    exact .inl ⟨s, rfl, s, rfl, a⟩
  | node hw hl hr => exact .inr ⟨_, _, _, rfl, rfl, hw, hl, hr⟩
theorem Tre.odd' {L n : Nat} {d : D} (h : Tre L n d) (hL : 4 ≤ L ∧ L ≤ 40) : Odd L (n + 2) (tw n + 1700) d := by
  have o := h.ok hL.2
  exact ⟨o.ok, Nat.le_trans o.wt (by omega), Nat.le_trans o.dp (by omega), .inl o.nd, h.sh hL.1⟩
/-- the word of a tree, and its parts as a list -/
theorem Tre.odd {L n : Nat} {t : D} (h : Tre L n t) (hL : 4 ≤ L ∧ L ≤ 40) : ∃ a ls, ((isStrD t = true ∧ a = .str "a.b") ∨ (isStrD t = false ∧ ixD t (.int 0) = some a)) ∧ kindOk t = true ∧ seqOfS [t] = some ls ∧ Shs L a ∧ Odd L (n + 2) (tw n + 1700) (.lst ls) := by
  rcases h.shape with ⟨s, rfl, hs⟩ | ⟨w, r, m, rfl, rfl, hw, hl, hr⟩
  · obtain ⟨u, e, u1, u2⟩ := hs
    cases e
    refine ⟨.str "a.b", signs s, .inl ⟨rfl, rfl⟩, rfl, ?_, shs_c _ _ (by decide) (by show 3 ≤ L; omega), ?_⟩
    · show (if s.length ≤ sizeLine then some (signs s) else none) = _
      rw [if_pos (strB_fit u1).size]
    · have hl : (signs s).length ≤ 4 := by unfold signs; rw [List.length_map]; exact u2
      have hd : ∀ d ∈ signs s, Shs 1 d := fun d hd => by
        unfold signs at hd
        obtain ⟨c, hc, rfl⟩ := List.mem_map.mp hd
        refine ⟨_, rfl, strB_of (show 1 ≤ 100 by decide) fun x hx => ?_, Nat.le_refl 1⟩
        have hx : x ∈ [c] := hx
        rw [List.mem_singleton.mp hx]
        exact strB_cps u1 c hc
      have := wtAll_le (ds := signs s) (n := 12) fun d h => (shs_ok (hd d h)).2.1
      have h4 : (signs s).length * (12 + 2) ≤ 4 * (12 + 2) := Nat.mul_le_mul_right _ hl
      have hsh : ∀ d ∈ signs s, shB (L + 1) d = true := fun d h => by
        obtain ⟨v, rfl, _, a⟩ := hd d h
        exact decide_eq_true (by omega)
      exact (odd_of_lst (L := L) (n := 0) (w := 1700) (fun d h => ⟨(shs_ok (hd d h)).1, Nat.le_of_eq (shs_ok (hd d h)).2.2.1, (shs_ok (hd d h)).2.2.2.1, hsh d h⟩) (by omega)).up (by omega) (by omega)
  · have ho := h.ok hL.2
    have hs := h.sh hL.1
    refine ⟨w, w :: r, .inr ⟨rfl, tup_ix0 w r⟩, rfl, rfl, hw, ⟨ho.ok, Nat.le_trans ho.wt (by omega), Nat.le_trans ho.dp (by omega), .inl ho.nd, hs⟩⟩
theorem add_lst {a b : List D} (h : a.length + b.length ≤ 1000) : addD (.lst a) (.lst b) = some (.lst (a ++ b)) := if_pos (by rw [sizeLine_eq]; omega)
theorem e_odd (k n : Nat) {L : Nat} (hL : 4 ≤ L ∧ L ≤ 40) {t : D} (h : Tre L n t) : Draws (cs (k + 2) 13) 1 [.d t] (Odd L (n + 2) (tw n + 1700)) := fun xs N K hp hN => by
  refine (show Wc (defM 2 4 (m__law_odd (cs (k + 1)))) _ _ from ?_)
  refine wc_def rfl rfl ?_; walk_at "n"
  obtain ⟨a, ls, hw, hk, hq, ha, hl⟩ := h.odd hL
  obtain ⟨b, eb, hb⟩ := ha.add (shs_c "s" 1 (by decide) (by decide)) (by omega)
  have all := odd_all (n := n) (w := tw n) (t := t) ha hb hL hl
  have add : addD (.lst [a, b, .non, .bl true, .int 0, .str "", .str "t", .tup [], .lst [a], .lst ls, .tup [.str "T"], .tup [a, a], .tup [.str "T", .tup [a]]]) (.lst [.tup [a, .non], .tup [a, .str "t"], .tup [a, .bl true], .tup [.tup [a]], .tup [a, .str "T", .str "T", .str "T", .str "T"], .dct [], .tup [a, .lst [a]]]) = some (.lst (oddL a b t ls)) := add_lst (show 20 ≤ 1000 by decide)
  have len : (oddL a b t ls).length = 20 := rfl
  unfold m__law_odd
  rcases hw with ⟨hs, rfl⟩ | ⟨hs, hx⟩
  all_goals
    generalize oddL _ b t ls = L at all len add
    walk_at "r"
    walk_at "d"
    rename_i i K1 i0 i1 p1
    obtain ⟨z, ez, hz⟩ := ix_at (xs := L) i0 (by omega)
    walk_at "r"
    exact ⟨all z hz, K1, rfl, p1⟩

end Nv

set_option Elab.async false
set_option linter.all false
set_option maxRecDepth 100000
set_option maxHeartbeats 1000000
namespace Nv
open PySem L2 PyProof.Rows PySem.Spec
local macro_rules | `(tactic| walk_at "n") => `(tactic| try simp only [List.set_cons_zero, List.set_cons_succ, List.map_cons, List.map_nil, List.cons_append, List.nil_append, List.replicate, Nat.reduceSub])
local macro_rules | `(tactic| walk_at "s") => `(tactic| first
  | with_reducible refine wp_seq ?_ | with_reducible refine wk_nx ?_ | with_reducible refine wk_rt ?_ | with_reducible refine wt_nx ?_ | with_reducible refine wt_rt ?_ | with_reducible refine wt_bk ?_ | with_reducible refine wt_ct ?_ | with_reducible refine wk_bk ?_ | with_reducible refine wk_ct ?_
  | with_reducible refine wp_if ?_ | with_reducible refine wp_ret ?_ | with_reducible refine wp_next ?_ | with_reducible refine wp_retN ?_ | with_reducible refine wp_set ?_ | with_reducible refine wp_own ?_ | with_reducible refine wp_drop ?_
  | ((with_reducible refine' wp_var ?_ ?_); rotate_left; rfl) | ((with_reducible refine' wp_varL ?_ ?_); rotate_left; rfl) | ((with_reducible refine' wp_app ?_ ?_); rotate_left; rfl) | ((with_reducible refine' wp_lget ?_ ?_ ?_); rotate_left 2; (· rfl); (· rfl)) | with_reducible refine wp_lput ?_ | ((with_reducible refine' wp_lown ?_ ?_ ?_); rotate_left; (· rfl); (· rfl)) | ((with_reducible refine' wp_fown ?_ ?_ ?_); rotate_left; (· rfl); (· rfl)) | with_reducible refine wp_c ?_ | with_reducible refine wp_op ?_ | with_reducible refine wp_un ?_ | with_reducible refine wp_cb ?_ | with_reducible refine wp_cons ?_ | with_reducible refine wp_nil ?_
  | with_reducible refine wp_bl ?_ | with_reducible refine wp_tru ?_ | with_reducible refine wp_not ?_ | with_reducible refine wp_and ?_ | with_reducible refine wp_or ?_ | with_reducible refine wp_andV ?_ | with_reducible refine wp_orV ?_ | with_reducible refine wp_notV ?_
  | with_reducible refine wp_chain ?_ | with_reducible refine wp_sz ?_ | with_reducible refine wp_lst ?_ | with_reducible refine wp_tup ?_ | with_reducible refine wp_is ?_ | with_reducible refine wp_onone ?_ | with_reducible refine wp_osome ?_ | with_reducible refine wp_sl ?_ | with_reducible refine wp_m1 ?_
  | with_reducible refine wp_all ?_ | with_reducible refine wp_repr ?_ | with_reducible refine wp_peek ?_ | with_reducible refine wp_peekT ?_ | with_reducible refine wp_addF ?_ | with_reducible refine wp_ilist ?_ | with_reducible refine wp_itup ?_ | with_reducible refine wp_istr ?_ | with_reducible refine wp_irng ?_ | with_reducible refine wp_list ?_ | with_reducible refine wp_listS ?_
  | with_reducible refine wp_for ?_ | with_reducible refine wp_call ?_ | with_reducible refine wp_callK ?_ | with_reducible refine wp_lnil ?_ | with_reducible refine wp_ldat ?_ | with_reducible refine wp_callL ?_ | with_reducible refine wp_flast ?_ | with_reducible refine wp_fdat ?_ | with_reducible refine wp_callF ?_
  | with_reducible refine ⟨_, (by assumption : _ = some _), ?_⟩
  | ((with_reducible refine' call_and ?_ ?_ ?_); rotate_left 2; (· rfl); (· assumption)) | ((with_reducible refine' callk_and ?_ ?_ ?_); rotate_left 2; (· exact ⟨rfl, rfl⟩); (· assumption))
  | refine ite_t ?_ | refine ite_f ?_ | refine ite_nt ?_ | refine ite_nf ?_
  | with_reducible refine ⟨_, add_int, ?_⟩ | with_reducible refine ⟨_, iadd_int, ?_⟩ | with_reducible refine ⟨_, sub_int, ?_⟩ | with_reducible refine ⟨_, lt_int, ?_⟩ | with_reducible refine ⟨_, le_int, ?_⟩ | with_reducible refine ⟨_, gt_int, ?_⟩ | with_reducible refine ⟨_, ge_int, ?_⟩ | with_reducible refine ⟨_, eq_int, ?_⟩
  | with_reducible refine ⟨_, len_lst, ?_⟩ | with_reducible refine ⟨_, len_tup, ?_⟩ | with_reducible refine ⟨_, tru_bl, ?_⟩ | with_reducible refine ⟨_, int_int _, ?_⟩ | with_reducible refine ⟨_, int_bl _, ?_⟩
  | with_reducible refine ⟨_, rfl, ?_⟩ | ((with_reducible refine free_and ?_ ?_); (· first | rfl | assumption); walk_at "n") | ((with_reducible refine kind_and ?_ ?_); (· first | rfl | assumption)) | ((with_reducible refine size_and ?_ ?_); (· simp only [List.length_cons, List.length_nil, sizeLine_eq]; omega))
  | with_reducible refine ite_y (by assumption) ?_ | with_reducible refine ite_n (by assumption) ?_ | with_reducible refine ite_ny (by assumption) ?_ | with_reducible refine ite_nn (by assumption) ?_ | with_reducible refine ite_bt (by assumption) ?_ | with_reducible refine ite_bf (by assumption) ?_ | with_reducible refine ite_nbt (by assumption) ?_ | with_reducible refine ite_nbf (by assumption) ?_)
local macro_rules | `(tactic| walk_at "r") => `(tactic| repeat walk_at "s")
local macro_rules | `(tactic| walk_at "f") => `(tactic| (refine ⟨rfl, ?_⟩; walk_at "n"))
local macro_rules | `(tactic| walk_at "d") => `(tactic| (with_reducible refine wp_draw' (by assumption) (by omega) (by decide) ?_; intro _ _ _ _ _))
/-! ShD5: trees that are bent. -/
theorem cut_take {α : Type} (xs : List α) (a : Nat) : cut xs none (some (a : Int)) = xs.take a := by
  unfold cut
  have h0 : HT.sIx xs.length 0 none = 0 := rfl
  rw [h0, HT.sIx_nat, List.drop_zero, Nat.sub_zero]
  by_cases h : a ≤ xs.length
  · rw [Nat.min_eq_left h]
  · rw [Nat.min_eq_right (by omega), List.take_of_length_le (Nat.le_refl _), List.take_of_length_le (by omega)]
theorem cut_drop {α : Type} (xs : List α) (a : Nat) : cut xs (some (a : Int)) none = xs.drop a := by
  unfold cut
  have h0 : HT.sIx xs.length xs.length none = xs.length := rfl
  rw [h0, HT.sIx_nat]
  by_cases h : a ≤ xs.length
  · rw [Nat.min_eq_left h, List.take_of_length_le (by rw [List.length_drop]; omega)]
  · rw [Nat.min_eq_right (by omega), List.drop_of_length_le (Nat.le_refl _), List.drop_of_length_le (by omega)]
    exact List.take_nil
theorem cut_last {α : Type} (xs : List α) : cut xs none (some (-1)) = xs.dropLast := by
  unfold cut
  have h0 : HT.sIx xs.length 0 none = 0 := rfl
  have h1 : HT.sIx xs.length xs.length (some (-1)) = xs.length - 1 := by
    show ((-1 : Int) + (xs.length : Int)).toNat = xs.length - 1
    omega
  rw [h0, h1, List.drop_zero, Nat.sub_zero, List.dropLast_eq_take]
theorem bent_odd {L m : Nat} (hL : 4 ≤ L ∧ L ≤ 40) {w z : D} {r1 r2 : List D} (hw : Shs L w) (h1 : ∀ x ∈ r1, Tre L m x) (h2 : ∀ x ∈ r2, Tre L m x) (hz : Odd L (m + 2) (tw m + 1700) z) (hl : wtAll r1 + wt z + wtAll r2 ≤ 3 * tw m + 1704) : Odd L (m + 1 + 2) (tw (m + 1) + 1700) (.tup (w :: (r1 ++ z :: r2))) := by
  obtain ⟨a, b, c, e, f⟩ := shs_ok hw
  have mem : ∀ x ∈ w :: (r1 ++ z :: r2), okB x = true ∧ x.py.depth ≤ m + 2 ∧ (x = z ∨ noDct x ∧ noLst x) := fun x hx => by
    rcases List.mem_cons.mp hx with y | y
    · rw [y]; exact ⟨a, by omega, .inr ⟨e, f⟩⟩
    · rcases List.mem_append.mp y with y | y
      · have := (h1 x y).ok hL.2
        exact ⟨this.ok, Nat.le_trans this.dp (by omega), .inr ⟨this.nd, this.nl⟩⟩
      · rcases List.mem_cons.mp y with y | y
        · rw [y]; exact ⟨hz.ok, hz.dp, .inl rfl⟩
        · have := (h2 x y).ok hL.2
          exact ⟨this.ok, Nat.le_trans this.dp (by omega), .inr ⟨this.nd, this.nl⟩⟩
  refine ⟨okAll_iff.mpr fun d hd => (mem d hd).1, ?_, Nat.add_le_add_right (depthAll_le fun d hd => (mem d hd).2.1) 1, ?_, ?_⟩
  · show wt w + 2 + wtAll (r1 ++ z :: r2) + 3 ≤ 3 * tw m + 413 + 1700
    rw [wtAll_append]
    show wt w + 2 + (wtAll r1 + (wt z + 2 + wtAll r2)) + 3 ≤ _
    omega
  · rcases hz.te with t | t
    · exact .inl (nd_tup fun d hd => (mem d hd).2.2.elim (fun z => by rw [z]; exact t) fun z => z.1)
    · exact .inr (nl_tup fun d hd => (mem d hd).2.2.elim (fun z => by rw [z]; exact t) fun z => z.2)
  · refine shAll_iff.mpr fun d hd => ?_
    rcases List.mem_cons.mp hd with y | y
    · obtain ⟨s, rfl, _, l⟩ := hw
      rw [y]
      exact decide_eq_true (by omega)
    · rcases List.mem_append.mp y with y | y
      · exact (h1 d y).sh hL.1
      · rcases List.mem_cons.mp y with y | y
        · rw [y]; exact hz.sh
        · exact (h2 d y).sh hL.1
theorem sl_take (xs : List D) (a : Nat) : slD (.tup xs) none (some (a : Int)) = some (.tup (xs.take a)) := by
  show some (D.tup (cut xs none (some (a : Int)))) = _
  rw [cut_take]
theorem sl_drop (xs : List D) (a : Nat) : slD (.tup xs) (some (a : Int)) none = some (.tup (xs.drop a)) := by
  show some (D.tup (cut xs (some (a : Int)) none)) = _
  rw [cut_drop]
theorem sl_last (xs : List D) : slD (.tup xs) none (some (-1)) = some (.tup xs.dropLast) := by
  show some (D.tup (cut xs none (some (-1)))) = _
  rw [cut_last]
theorem add_tup {a b : List D} (h : a.length + b.length ≤ 1000) : addD (.tup a) (.tup b) = some (.tup (a ++ b)) := if_pos (by rw [sizeLine_eq]; omega)
theorem ix_tup' {xs : List D} {a : Nat} (h : a < xs.length) : ixD (.tup xs) (.int (a : Int)) = some xs[a] := by
  show L2.atI xs a = _
  unfold L2.atI ixN
  rw [if_pos (by omega), if_pos (by omega)]
  show xs[(a : Int).toNat]? = _
  rw [Int.toNat_natCast, List.getElem?_eq_getElem h]
def bc : Nat → Nat
  | 0 => 3
  | n + 1 => 3 + bc n
theorem bc_ge (n : Nat) : 3 ≤ bc n := by cases n <;> (unfold bc; omega)
def bnTail (c : Nat → Fm) : MS := (mSeq (mSet 3 (mCallP 2 0 (c 8) (mCons (mC (.int 5)) mNil)))
    (mSeq (mIf (mAnd (mBl (mOp eqXD (mVar 3) (mC (.int 0)))) (mNot (mTru (mIs isStrD (mVar 1))))) (mRet (mOp addD (mVar 1) (mTup (mCons (mC (.str "T")) mNil)))) mNext)
    (mSeq (mIf (mAnd (mBl (mOp eqXD (mVar 3) (mC (.int 1)))) (mNot (mTru (mIs isStrD (mVar 1))))) (mRet (mSl (mVar 1) mONone (mOSome (mUn negD (mC (.int 1)))))) mNext)
    (mSeq (mIf (mAnd (mBl (mOp eqXD (mVar 3) (mC (.int 2)))) (mNot (mTru (mIs isStrD (mVar 1))))) (mRet (mOp addD (mSl (mVar 1) mONone (mOSome (mC (.int 1)))) (mUn (revD (some 0)) (mVar 1)))) mNext)
    (mRet (mCallP 2 0 (c 13) (mCons (mVar 1) mNil)))))))
theorem bn_tail (k n : Nat) {L : Nat} (hL : 4 ≤ L ∧ L ≤ 40) {t : D} (h : Tre L n t) {xs : List Int} {N : Int} {K : List (Key × D)} {R : Out → Env → Prop} (hp : PenAt xs N K) (hN : N + 2 ≤ 4000000)
    (q : ∀ d K' x3, Odd L (n + 2) (tw n + 1700) d → PenAt xs (N + 2) K' → R (.rt d) [.pd K', .d t, .no, x3]) : Wp (bnTail (cs (k + 2))) [.pd K, .d t, .no, .no] R := by
  unfold bnTail
  have ho := e_odd k n hL h
  walk_at "r"
  walk_at "d"
  rename_i i K1 i0 i1 p1
  have last : ∀ Q' : D → Env → Prop, (∀ d K', Odd L (n + 2) (tw n + 1700) d → PenAt xs (N + 2) K' → Q' d [.pd K', .d t, .no, .d (.int i)]) → Wp (mCallP 2 0 (cs (k + 2) 13) (mCons (mVar 1) mNil)) [.pd K1, .d t, .no, .d (.int i)] Q' := fun Q' q' => by
    with_reducible refine wp_pen ?_
    walk_at "r"
    exact ⟨rfl, _, _, _, _, _, _, rfl, p1, by omega, ho, fun d K' hd hp' => q' d K' hd (hp'.up (by omega))⟩
  rcases h.shape with ⟨s, rfl, hs⟩ | ⟨w, r, m, rfl, rfl, hw, hl, hr⟩
  · have hk : isStrD (.str s) = true := rfl
    walk_at "r"
    refine ite_dec (fun z => ?_) fun z => ?_
    · walk_at "r"
      have z1 : ¬ i = 1 := by omega
      have z2 : ¬ i = 2 := by omega
      walk_at "r"
      exact last _ fun d K' hd hp' => q d K' _ hd hp'
    · walk_at "r"
      refine ite_dec (fun z => ?_) fun z => ?_
      · have z2 : ¬ i = 2 := by omega
        walk_at "r"
        exact last _ fun d K' hd hp' => q d K' _ hd hp'
      · walk_at "r"
        refine ite_dec (fun z => ?_) fun z => ?_
        · walk_at "r"
          exact last _ fun d K' hd hp' => q d K' _ hd hp'
        · walk_at "r"
          exact last _ fun d K' hd hp' => q d K' _ hd hp'
  · have hk : isStrD (.tup (w :: r)) = false := rfl
    have ok := h.ok hL.2
    have k1 : strB "T" = true := by decide
    have kt : Odd L (m + 2) (tw m + 1700) (.str "T") := (Tre.leaf (shs_c "T" 4 k1 (by decide)) : Tre L m (.str "T")).odd' hL
    have wr : wtAll r ≤ 3 * (tw m + 2) := Nat.le_trans (wtAll_le (n := tw m) fun d hd => ((hr d hd).ok hL.2).wt) (Nat.mul_le_mul_right _ hl)
    have wT : wt (.str "T") = 12 := rfl
    have a1 : addD (.tup (w :: r)) (.tup [.str "T"]) = some (.tup (w :: (r ++ .str "T" :: []))) := add_tup (by rw [List.length_cons, List.length_cons, List.length_nil]; omega)
    have g1 : Odd L (m + 1 + 2) (tw (m + 1) + 1700) (.tup (w :: (r ++ .str "T" :: []))) := bent_odd hL hw hr (fun _ z => by cases z) kt (by rw [wT]; show _ + 0 ≤ _; omega)
    have a2 := sl_last (w :: r)
    have g2 : Odd L (m + 1 + 2) (tw (m + 1) + 1700) (.tup (w :: r).dropLast) := by
      cases r with
      | nil => exact ⟨rfl, Nat.le_trans (show (0 : Nat) + 3 ≤ 3 from Nat.le_refl _) (by omega), Nat.le_trans (show (0 : Nat) + 1 ≤ 1 from Nat.le_refl _) (by omega), .inl rfl, rfl⟩
      | cons x r =>
        rw [List.dropLast_cons₂]
        exact (Tre.node hw (by rw [List.length_dropLast]; omega) fun y hy => hr y ((List.dropLast_sublist _).subset hy)).odd' hL
    have a3 : slD (.tup (w :: r)) none (some 1) = some (.tup [w]) := sl_take (w :: r) 1
    have a4 : revD (some 0) (.tup (w :: r)) = some (.tup r.reverse) := by
      show some (D.tup ((w :: r).reverse.take (negN (w :: r).length (some 0)))) = _
      congr 2
      rw [List.reverse_cons]
      have : negN (w :: r).length (some 0) = r.reverse.length := by
        show (w :: r).length - 1 = _
        rw [List.length_cons, List.length_reverse]
        omega
      rw [this, List.take_left]
    have a5 : addD (.tup [w]) (.tup r.reverse) = some (.tup (w :: r.reverse)) := add_tup (by rw [List.length_cons, List.length_nil, List.length_reverse]; omega)
    have g5 : Odd L (m + 1 + 2) (tw (m + 1) + 1700) (.tup (w :: r.reverse)) := (Tre.node hw (by rw [List.length_reverse]; exact hl) fun y hy => hr y (List.mem_reverse.mp hy)).odd' hL
    have ng : negD (.int 1) = some (.int (-1)) := rfl
    have up : PenAt xs (N + 2) K1 := p1.up (by omega)
    walk_at "r"
    refine ite_dec (fun z => ?_) fun z => ?_
    · walk_at "r"
      exact q _ _ _ g1 up
    · walk_at "r"
      refine ite_dec (fun z => ?_) fun z => ?_
      · walk_at "r"
        exact q _ _ _ g2 up
      · walk_at "r"
        refine ite_dec (fun z => ?_) fun z => ?_
        · walk_at "r"
          exact q _ _ _ g5 up
        · walk_at "r"
          exact last _ fun d K' hd hp' => q d K' _ hd hp'
theorem bn_c (c : Nat → Fm) : m__law_bent c = mSeq (mIf (mAnd (mNot (mTru (mIs isStrD (mVar 1)))) (mAnd (mBl (mOp gtD (mCb lenD (mCons (mVar 1) mNil)) (mC (.int 1)))) (mBl (mOp gtD (mCallP 2 0 (c 8) (mCons (mC (.int 4)) mNil)) (mC (.int 0)))))) (mSeq (mSet 2 (mOp addD (mC (.int 1)) (mCallP 2 0 (c 8) (mCons (mOp (intD fun i j => some (.int (i - j))) (mCb lenD (mCons (mVar 1) mNil)) (mC (.int 1))) mNil))))
    (mRet (mOp addD (mOp addD (mSl (mVar 1) mONone (mOSome (mVar 2))) (mTup (mCons (mCallP 2 0 (c 12) (mCons (mOp ixD (mVar 1) (mVar 2)) mNil)) mNil))) (mSl (mVar 1) (mOSome (mOp addD (mVar 2) (mC (.int 1)))) mONone)))) mNext) (bnTail c) := rfl
theorem split_at {r : List D} {j : Nat} (h : j < r.length) : ∃ r1 x r2, r = r1 ++ x :: r2 ∧ r1.length = j := by
  refine ⟨r.take j, r[j], r.drop (j + 1), ?_, by rw [List.length_take]; omega⟩
  rw [← List.drop_eq_getElem_cons h, List.take_append_drop]
theorem e_bent {L : Nat} (hL : 4 ≤ L ∧ L ≤ 40) : ∀ (n k : Nat) {t : D}, Tre L n t → Draws (cs (k + n + 3) 12) (bc n) [.d t] (Odd L (n + 2) (tw n + 1700))
  | n, k, t, h => fun xs N K hp hN => by
    have hb := bc_ge n
    refine (show Wc (defM 2 4 (m__law_bent (cs (k + n + 2)))) _ _ from ?_)
    refine wc_def rfl rfl ?_; walk_at "n"
    rw [bn_c]
    with_reducible refine wp_seq ?_
    have tail : ∀ {N1 : Int} {K1}, PenAt xs N1 K1 → N1 ≤ N + 1 → Wp (bnTail (cs (k + n + 2))) [.pd K1, .d t, .no, .no] (defK [.pd K, .d t] fun d as' => Odd L (n + 2) (tw n + 1700) d ∧ ∃ K', as' = [.pd K', .d t] ∧ PenAt xs (N + bc n) K') := fun {N1 K1} p1 h1 =>
      bn_tail (k + n) n hL h p1 (by omega) fun d K' x3 hd p2 => ⟨hd, K', rfl, p2.up (by omega)⟩
    rcases h.shape with ⟨s, rfl, hs⟩ | ⟨w, r, m, rfl, rfl, hw, hl, hr⟩
    · have hk : isStrD (.str s) = true := rfl
      generalize bnTail (cs (k + n + 2)) = B at tail ⊢
      walk_at "r"
      exact tail hp (by omega)
    · have hk : isStrD (.tup (w :: r)) = false := rfl
      have ih := fun {t} => e_bent hL m k (t := t)
      generalize bnTail (cs (k + (m + 1) + 2)) = B at tail ⊢
      walk_at "r"
      refine ite_dec (fun z => ?_) fun z => ?_
      · walk_at "r"
        refine wp_draw' (k := k + (m + 1) + 1) hp (by omega) (by decide) fun i K1 i0 i1 p1 => ?_
        walk_at "r"
        refine ite_dec (fun z1 => ?_) fun z1 => ?_
        · walk_at "r"
          refine wp_draw (k := k + (m + 1) + 1) p1 (by omega) ?_
          have el : ((w :: r).length : Int) = r.length + 1 := by rw [List.length_cons]; omega
          walk_at "r"
          refine ⟨by omega, fun i' K2 j0 j1 p2 => ?_⟩
          obtain ⟨j, rfl⟩ : ∃ j : Nat, i' = (j : Int) := ⟨i'.toNat, by omega⟩
          obtain ⟨r1, x, r2, rfl, hj⟩ := split_at (r := r) (j := j) (by omega)
          have e1 : (1 : Int) + (j : Int) = ((j + 1 : Nat) : Int) := by omega
          have e2 : (1 : Int) + (j : Int) + 1 = ((j + 2 : Nat) : Int) := by omega
          have s1 : slD (.tup (w :: (r1 ++ x :: r2))) none (some (1 + (j : Int))) = some (.tup (w :: r1)) := by
            rw [e1, sl_take, List.take_succ_cons, ← hj, List.take_left]
          have s2 : ixD (.tup (w :: (r1 ++ x :: r2))) (.int (1 + (j : Int))) = some x := by
            rw [e1, ix_tup' (by rw [List.length_cons, List.length_append, List.length_cons]; omega), List.getElem_cons_succ, List.getElem_append_right (by omega)]
            subst hj
            simp
          have s3 : slD (.tup (w :: (r1 ++ x :: r2))) (some (1 + (j : Int) + 1)) none = some (.tup r2) := by
            rw [e2, sl_drop]
            show some (D.tup (List.drop (j + 1) (r1 ++ x :: r2))) = _
            rw [← hj, ← List.drop_drop, List.drop_left]
            rfl
          rw [List.length_append, List.length_cons] at hl
          have kx := ih (hr x (List.mem_append_right _ List.mem_cons_self))
          have eb : (bc (m + 1) : Int) = 3 + bc m := by show ((3 + bc m : Nat) : Int) = _; omega
          walk_at "r"
          with_reducible refine wp_pen ?_
          walk_at "r"
          refine ⟨rfl, _, _, _, _, _, _, rfl, p2, by omega, kx, fun z K3 hz p3 => ?_⟩
          have f1 : addD (.tup (w :: r1)) (.tup [z]) = some (.tup (w :: (r1 ++ [z]))) := add_tup (by rw [List.length_cons, List.length_cons, List.length_nil]; omega)
          have f2 : addD (.tup (w :: (r1 ++ [z]))) (.tup r2) = some (.tup (w :: (r1 ++ z :: r2))) := by
            rw [add_tup (by rw [List.length_cons, List.length_append, List.length_cons, List.length_nil]; omega)]
            simp
          walk_at "r"
          have h1 : ∀ y ∈ r1, Tre L m y := fun y hy => hr y (List.mem_append_left _ hy)
          have h2 : ∀ y ∈ r2, Tre L m y := fun y hy => hr y (List.mem_append_right _ (List.mem_cons_of_mem _ hy))
          have w1 := wtAll_le (n := tw m) fun d hd => ((h1 d hd).ok hL.2).wt
          have w2 := wtAll_le (n := tw m) fun d hd => ((h2 d hd).ok hL.2).wt
          have w3 : (r1.length + r2.length) * (tw m + 2) ≤ 2 * (tw m + 2) := Nat.mul_le_mul_right _ (by omega)
          rw [Nat.add_mul] at w3
          have w4 := hz.wt
          exact ⟨bent_odd hL hw h1 h2 hz (by omega), K3, rfl, p3.up (by omega)⟩
        · walk_at "r"
          exact tail p1 (by omega)
      · walk_at "r"
        exact tail hp (by omega)

end Nv

set_option Elab.async false
set_option linter.all false
set_option maxRecDepth 100000
set_option maxHeartbeats 1000000
namespace Nv
open PySem L2 PyProof.Rows PySem.Spec
local macro_rules | `(tactic| walk_at "n") => `(tactic| try simp only [List.set_cons_zero, List.set_cons_succ, List.map_cons, List.map_nil, List.cons_append, List.nil_append, List.replicate, Nat.reduceSub])
local macro_rules | `(tactic| walk_at "s") => `(tactic| first
  | with_reducible refine wp_seq ?_ | with_reducible refine wk_nx ?_ | with_reducible refine wk_rt ?_ | with_reducible refine wt_nx ?_ | with_reducible refine wt_rt ?_ | with_reducible refine wt_bk ?_ | with_reducible refine wt_ct ?_ | with_reducible refine wk_bk ?_ | with_reducible refine wk_ct ?_
  | with_reducible refine wp_if ?_ | with_reducible refine wp_ret ?_ | with_reducible refine wp_next ?_ | with_reducible refine wp_retN ?_ | with_reducible refine wp_set ?_ | with_reducible refine wp_own ?_ | with_reducible refine wp_drop ?_
  | ((with_reducible refine' wp_var ?_ ?_); rotate_left; rfl) | ((with_reducible refine' wp_varL ?_ ?_); rotate_left; rfl) | ((with_reducible refine' wp_app ?_ ?_); rotate_left; rfl) | ((with_reducible refine' wp_lget ?_ ?_ ?_); rotate_left 2; (· rfl); (· rfl)) | with_reducible refine wp_lput ?_ | ((with_reducible refine' wp_lown ?_ ?_ ?_); rotate_left; (· rfl); (· rfl)) | ((with_reducible refine' wp_fown ?_ ?_ ?_); rotate_left; (· rfl); (· rfl)) | with_reducible refine wp_c ?_ | with_reducible refine wp_op ?_ | with_reducible refine wp_un ?_ | with_reducible refine wp_cb ?_ | with_reducible refine wp_cons ?_ | with_reducible refine wp_nil ?_
  | with_reducible refine wp_bl ?_ | with_reducible refine wp_tru ?_ | with_reducible refine wp_not ?_ | with_reducible refine wp_and ?_ | with_reducible refine wp_or ?_ | with_reducible refine wp_andV ?_ | with_reducible refine wp_orV ?_ | with_reducible refine wp_notV ?_
  | with_reducible refine wp_chain ?_ | with_reducible refine wp_sz ?_ | with_reducible refine wp_lst ?_ | with_reducible refine wp_tup ?_ | with_reducible refine wp_is ?_ | with_reducible refine wp_onone ?_ | with_reducible refine wp_osome ?_ | with_reducible refine wp_sl ?_ | with_reducible refine wp_m1 ?_
  | with_reducible refine wp_all ?_ | with_reducible refine wp_repr ?_ | with_reducible refine wp_peek ?_ | with_reducible refine wp_peekT ?_ | with_reducible refine wp_addF ?_ | with_reducible refine wp_ilist ?_ | with_reducible refine wp_itup ?_ | with_reducible refine wp_istr ?_ | with_reducible refine wp_irng ?_ | with_reducible refine wp_list ?_ | with_reducible refine wp_listS ?_
  | with_reducible refine wp_for ?_ | with_reducible refine wp_call ?_ | with_reducible refine wp_callK ?_ | with_reducible refine wp_lnil ?_ | with_reducible refine wp_ldat ?_ | with_reducible refine wp_callL ?_ | with_reducible refine wp_flast ?_ | with_reducible refine wp_fdat ?_ | with_reducible refine wp_callF ?_
  | with_reducible refine ⟨_, (by assumption : _ = some _), ?_⟩
  | ((with_reducible refine' call_and ?_ ?_ ?_); rotate_left 2; (· rfl); (· assumption)) | ((with_reducible refine' callk_and ?_ ?_ ?_); rotate_left 2; (· exact ⟨rfl, rfl⟩); (· assumption))
  | refine ite_t ?_ | refine ite_f ?_ | refine ite_nt ?_ | refine ite_nf ?_
  | with_reducible refine ⟨_, add_int, ?_⟩ | with_reducible refine ⟨_, iadd_int, ?_⟩ | with_reducible refine ⟨_, sub_int, ?_⟩ | with_reducible refine ⟨_, lt_int, ?_⟩ | with_reducible refine ⟨_, le_int, ?_⟩ | with_reducible refine ⟨_, gt_int, ?_⟩ | with_reducible refine ⟨_, ge_int, ?_⟩ | with_reducible refine ⟨_, eq_int, ?_⟩
  | with_reducible refine ⟨_, len_lst, ?_⟩ | with_reducible refine ⟨_, len_tup, ?_⟩ | with_reducible refine ⟨_, tru_bl, ?_⟩ | with_reducible refine ⟨_, int_int _, ?_⟩ | with_reducible refine ⟨_, int_bl _, ?_⟩
  | with_reducible refine ⟨_, rfl, ?_⟩ | ((with_reducible refine free_and ?_ ?_); (· first | rfl | assumption); walk_at "n") | ((with_reducible refine kind_and ?_ ?_); (· first | rfl | assumption)) | ((with_reducible refine size_and ?_ ?_); (· simp only [List.length_cons, List.length_nil, sizeLine_eq]; omega))
  | with_reducible refine ite_y (by assumption) ?_ | with_reducible refine ite_n (by assumption) ?_ | with_reducible refine ite_ny (by assumption) ?_ | with_reducible refine ite_nn (by assumption) ?_ | with_reducible refine ite_bt (by assumption) ?_ | with_reducible refine ite_bf (by assumption) ?_ | with_reducible refine ite_nbt (by assumption) ?_ | with_reducible refine ite_nbf (by assumption) ?_)
local macro_rules | `(tactic| walk_at "r") => `(tactic| repeat walk_at "s")
local macro_rules | `(tactic| walk_at "f") => `(tactic| (refine ⟨rfl, ?_⟩; walk_at "n"))
local macro_rules | `(tactic| walk_at "d") => `(tactic| (with_reducible refine wp_draw' (by assumption) (by omega) (by decide) ?_; intro _ _ _ _ _))
/-! ShD6: the things that are looked at. -/
theorem headOk2 {w : D} {r : List D} (h : headOk false (w :: r) = true) : dotD 2 w = true := by
  unfold headOk at h
  simpa using h
theorem okT_tre (L : Nat) : ∀ (n m : Nat) (d : D), okT false n d = true → okB d = true → shB L d = true → d.py.depth ≤ m → Tre L m d
  | 0, _, _, h, _, _, _ => by cases h
  | n + 1, m, d, h, ho, hs, hd => by
    have h : (pieceD false d && (kidsD d).all (okT false n)) = true := h
    rw [Bool.and_eq_true] at h
    obtain ⟨hp, hk⟩ := h
    cases d with
    | str s =>
      have hv : (varS s || false) = true := hp
      rw [Bool.or_false] at hv
      unfold varS at hv
      simp only [Bool.and_eq_true, decide_eq_true_eq] at hv
      exact .leaf ⟨s, rfl, ho, by omega⟩
    | tup xs =>
      have hp : (false || (decide (1 ≤ xs.length) && decide (xs.length ≤ 4) && headOk false xs)) = true := hp
      rw [Bool.false_or, Bool.and_eq_true, Bool.and_eq_true, decide_eq_true_eq, decide_eq_true_eq] at hp
      obtain ⟨⟨h1, h4⟩, hh⟩ := hp
      cases xs with
      | nil => exact absurd h1 (by decide)
      | cons w r =>
        have hw := headOk2 hh
        have ok := okAll_iff.mp (show okAll (w :: r) = true from ho)
        have sh := shAll_iff.mp (show shAll L (w :: r) = true from hs)
        have hd : PyData.depthAll (pyAll (w :: r)) + 1 ≤ m := hd
        obtain ⟨m, rfl⟩ : ∃ k, m = k + 1 := ⟨m - 1, by omega⟩
        have hk : r.all (okT false n) = true := hk
        rw [List.all_eq_true] at hk
        have hws : Shs L w := by
          have a := ok w List.mem_cons_self
          have b := sh w List.mem_cons_self
          cases w with
          | str s => exact ⟨s, rfl, a, of_decide_eq_true b⟩
          | _ => cases hw
        refine .node hws (by rw [List.length_cons] at h4; omega) fun x hx => ?_
        have := depth_mem (List.mem_cons_of_mem w hx)
        exact okT_tre L n m x (hk x hx) (ok x (List.mem_cons_of_mem _ hx)) (sh x (List.mem_cons_of_mem _ hx)) (by omega)
    | _ => cases hp
/-- an entry that may be looked at -/
structure Ent (d : D) : Prop where
  ok : okB d = true
  rok : rokB d = true
  dp : d.py.depth < 20
theorem tw7 : tw 7 = 543263 := by decide
theorem tw9 : tw 9 = 4891019 := by decide
theorem Odd.ent {L n w : Nat} {d : D} (h : Odd L n w d) (hn : n < 20) (hw : w ≤ 16000000) : Ent d := ⟨h.ok, h.rok (by omega) hw, Nat.lt_of_le_of_lt h.dp hn⟩
theorem cnt_no (n : Nat) (d : D) : noD (resD (cntF n d)) .non = some (.bl (okT false n d)) := by
  unfold cntF
  cases q : okT false n d <;> rfl
theorem ix_app {a b : List D} {i : Int} (h0 : 0 ≤ i) (h1 : i < a.length) : ∃ d, ixD (.lst (a ++ b)) (.int i) = some d ∧ d ∈ a := by
  refine ⟨a[i.toNat]'(by omega), ?_, List.getElem_mem _⟩
  show L2.atI (a ++ b) i = _
  unfold L2.atI ixN
  rw [if_pos h0, if_pos (by rw [List.length_append]; omega)]
  show (a ++ b)[i.toNat]? = _
  rw [List.getElem?_append_left (by omega), List.getElem?_eq_getElem (by omega)]
def thBody (c : Nat → Fm) : MS := (mSeq (mSet 6 (mCallP 2 0 (c 12) (mCons (mLGet 3 (mCallP 2 0 (c 8) (mCons (mC (.int 9)) mNil))) mNil)))
    (mSeq (mApp 3 (mVar 6))
    (mIf (mAnd (mTru (mIs isTupD (mVar 6))) (mBl (mOp noD (mCall 1 (c 14) (mCons (mVar 6) mNil)) (mC .non)))) (mApp 3 (mCallP 2 0 (c 12) (mCons (mVar 6) mNil))) mNext)))
theorem lgetA {xs : List D} {Q : D → Prop} {e : Env} {i : Nat} {j : Int} {x : Sl} {v : D} (hi : e[i]? = some x) (hx : x.list = some xs) (hv : ixD (.lst xs) (.int j) = some v) (h : Q v) : ∃ s xs k v, e[i]? = some s ∧ s.list = some xs ∧ D.int j = D.int k ∧ L2.atI xs k = some v ∧ Q v := ⟨_, _, j, _, hi, hx, rfl, hv, h⟩
theorem th_turn (k : Nat) {xs : List Int} {N : Int} {K : List (Key × D)} {x1 x2 x4 x5 x6 : Sl} {base more : List D} {P : Env → Prop} {R : Out → Env → Prop} (hp : PenAt xs N K) (hN : N + 100 ≤ 4000000) (h6 : Plain x6)
    (hb : base.length = 9) (hT : ∀ x ∈ base, Tre 19 7 x) (hl : more.length ≤ 1000)
    (q : ∀ K' more' x6', PenAt xs (N + 100) K' → more'.length ≤ more.length + 2 → (∀ x ∈ more', x ∈ more ∨ Ent x) → Plain x6' → P [.pd K', x1, x2, .ol (base ++ more'), x4, x5, x6']) :
    Wp (thBody (cs (k + 21))) [.pd K, x1, x2, .ol (base ++ more), x4, x5, x6] (turnK P R) := by
  have f6 : ∀ K', freeB [.pd K', x1, x2, .ol (base ++ more), x4, x5, x6] 6 = true := by rcases h6 with rfl | ⟨y, rfl⟩ <;> (intro _; rfl)
  have hbl : (base ++ more).length = 9 + more.length := by rw [List.length_append, hb]
  unfold thBody
  walk_at "r"
  with_reducible refine wp_pen ?_
  walk_at "r"
  refine wp_draw' (k := k + 20) hp (by omega) (by decide) fun i K1 i0 i1 p1 => ?_
  obtain ⟨t, et, ht⟩ := ix_app (a := base) (b := more) (i := i) i0 (by omega)
  refine lgetA rfl rfl et ?_
  walk_at "r"
  have bt := e_bent (L := 19) (by decide) 7 (k + 11) (hT t ht)
  have b7 : bc 7 = 24 := rfl
  have b9 : bc 9 = 30 := rfl
  refine ⟨rfl, _, _, _, _, _, _, rfl, p1, by omega, bt, fun d K2 hd p2 => ?_⟩
  have hent : Ent d := hd.ent (by decide) (by decide)
  have hk : kindOk d = true := (fit_ok d hent.ok).one.k
  have ec := e_count 20 k d hent.ok hent.dp
  have cn := cnt_no 20 d
  have ff := f6 K2
  refine ⟨ff, ?_⟩
  walk_at "n"
  walk_at "r"
  refine ⟨by rw [sizeLine_eq]; omega, ?_⟩
  walk_at "n"
  walk_at "r"
  rw [show k + 20 + 1 = k + 21 from rfl] at ec
  have fin : ∀ K', PenAt xs (N + 100) K' → P [.pd K', x1, x2, .ol (base ++ more ++ [d]), x4, x5, .d d] := fun K' hp' => by
    rw [List.append_assoc]
    exact q K' (more ++ [d]) _ hp' (by rw [List.length_append]; simp) (fun x hx => by
      rcases List.mem_append.mp hx with z | z
      · exact .inl z
      · rw [List.mem_singleton.mp z]; exact .inr hent) (.d _)
  refine ite_b (fun z => ?_) fun z => ?_
  · walk_at "r"
    refine ite_b (fun z2 => ?_) fun z2 => ?_
    · walk_at "r"
      with_reducible refine wp_pen ?_
      walk_at "r"
      have tr := okT_tre 20 20 9 d z2 hent.ok hd.sh hd.dp
      have b2 := e_bent (L := 20) (by decide) 9 (k + 9) tr
      refine ⟨rfl, _, _, _, _, _, _, rfl, p2, by omega, b2, fun d2 K3 hd2 p3 => ?_⟩
      have hent2 : Ent d2 := hd2.ent (by decide) (by decide)
      refine ⟨base ++ more ++ [d], rfl, by rw [List.length_append, sizeLine_eq]; simp; omega, ?_⟩
      walk_at "n"
      walk_at "r"
      rw [List.append_assoc, List.append_assoc]
      refine q K3 (more ++ ([d] ++ [d2])) _ (p3.up (by omega)) (by rw [List.length_append]; simp) (fun x hx => ?_) (.d _)
      rcases List.mem_append.mp hx with z | z
      · exact .inl z
      · simp only [List.cons_append, List.nil_append, List.mem_cons, List.not_mem_nil, or_false] at z
        rcases z with rfl | rfl
        · exact .inr hent
        · exact .inr hent2
    · walk_at "r"
      exact fin K2 (p2.up (by omega))
  · refine ite_f ?_
    walk_at "r"
    exact fin K2 (p2.up (by omega))

end Nv

set_option Elab.async false
set_option linter.all false
set_option maxRecDepth 100000
set_option maxHeartbeats 1000000
namespace Nv
open PySem L2 PyProof.Rows PySem.Spec
local macro_rules | `(tactic| walk_at "n") => `(tactic| try simp only [List.set_cons_zero, List.set_cons_succ, List.map_cons, List.map_nil, List.cons_append, List.nil_append, List.replicate, Nat.reduceSub])
local macro_rules | `(tactic| walk_at "s") => `(tactic| first
  | with_reducible refine wp_seq ?_ | with_reducible refine wk_nx ?_ | with_reducible refine wk_rt ?_ | with_reducible refine wt_nx ?_ | with_reducible refine wt_rt ?_ | with_reducible refine wt_bk ?_ | with_reducible refine wt_ct ?_ | with_reducible refine wk_bk ?_ | with_reducible refine wk_ct ?_
  | with_reducible refine wp_if ?_ | with_reducible refine wp_ret ?_ | with_reducible refine wp_next ?_ | with_reducible refine wp_retN ?_ | with_reducible refine wp_set ?_ | with_reducible refine wp_own ?_ | with_reducible refine wp_drop ?_
  | ((with_reducible refine' wp_var ?_ ?_); rotate_left; rfl) | ((with_reducible refine' wp_varL ?_ ?_); rotate_left; rfl) | ((with_reducible refine' wp_app ?_ ?_); rotate_left; rfl) | ((with_reducible refine' wp_lget ?_ ?_ ?_); rotate_left 2; (· rfl); (· rfl)) | with_reducible refine wp_lput ?_ | ((with_reducible refine' wp_lown ?_ ?_ ?_); rotate_left; (· rfl); (· rfl)) | ((with_reducible refine' wp_fown ?_ ?_ ?_); rotate_left; (· rfl); (· rfl)) | with_reducible refine wp_c ?_ | with_reducible refine wp_op ?_ | with_reducible refine wp_un ?_ | with_reducible refine wp_cb ?_ | with_reducible refine wp_cons ?_ | with_reducible refine wp_nil ?_
  | with_reducible refine wp_bl ?_ | with_reducible refine wp_tru ?_ | with_reducible refine wp_not ?_ | with_reducible refine wp_and ?_ | with_reducible refine wp_or ?_ | with_reducible refine wp_andV ?_ | with_reducible refine wp_orV ?_ | with_reducible refine wp_notV ?_
  | with_reducible refine wp_chain ?_ | with_reducible refine wp_sz ?_ | with_reducible refine wp_lst ?_ | with_reducible refine wp_tup ?_ | with_reducible refine wp_is ?_ | with_reducible refine wp_onone ?_ | with_reducible refine wp_osome ?_ | with_reducible refine wp_sl ?_ | with_reducible refine wp_m1 ?_
  | with_reducible refine wp_all ?_ | with_reducible refine wp_repr ?_ | with_reducible refine wp_peek ?_ | with_reducible refine wp_peekT ?_ | with_reducible refine wp_addF ?_ | with_reducible refine wp_ilist ?_ | with_reducible refine wp_itup ?_ | with_reducible refine wp_istr ?_ | with_reducible refine wp_irng ?_ | with_reducible refine wp_list ?_ | with_reducible refine wp_listS ?_
  | with_reducible refine wp_for ?_ | with_reducible refine wp_call ?_ | with_reducible refine wp_callK ?_ | with_reducible refine wp_lnil ?_ | with_reducible refine wp_ldat ?_ | with_reducible refine wp_callL ?_ | with_reducible refine wp_flast ?_ | with_reducible refine wp_fdat ?_ | with_reducible refine wp_callF ?_
  | with_reducible refine ⟨_, (by assumption : _ = some _), ?_⟩
  | ((with_reducible refine' call_and ?_ ?_ ?_); rotate_left 2; (· rfl); (· assumption)) | ((with_reducible refine' callk_and ?_ ?_ ?_); rotate_left 2; (· exact ⟨rfl, rfl⟩); (· assumption))
  | refine ite_t ?_ | refine ite_f ?_ | refine ite_nt ?_ | refine ite_nf ?_
  | with_reducible refine ⟨_, add_int, ?_⟩ | with_reducible refine ⟨_, iadd_int, ?_⟩ | with_reducible refine ⟨_, sub_int, ?_⟩ | with_reducible refine ⟨_, lt_int, ?_⟩ | with_reducible refine ⟨_, le_int, ?_⟩ | with_reducible refine ⟨_, gt_int, ?_⟩ | with_reducible refine ⟨_, ge_int, ?_⟩ | with_reducible refine ⟨_, eq_int, ?_⟩
  | with_reducible refine ⟨_, len_lst, ?_⟩ | with_reducible refine ⟨_, len_tup, ?_⟩ | with_reducible refine ⟨_, tru_bl, ?_⟩ | with_reducible refine ⟨_, int_int _, ?_⟩ | with_reducible refine ⟨_, int_bl _, ?_⟩
  | with_reducible refine ⟨_, rfl, ?_⟩ | ((with_reducible refine free_and ?_ ?_); (· first | rfl | assumption); walk_at "n") | ((with_reducible refine kind_and ?_ ?_); (· first | rfl | assumption)) | ((with_reducible refine size_and ?_ ?_); (· simp only [List.length_cons, List.length_nil, sizeLine_eq]; omega))
  | with_reducible refine ite_y (by assumption) ?_ | with_reducible refine ite_n (by assumption) ?_ | with_reducible refine ite_ny (by assumption) ?_ | with_reducible refine ite_nn (by assumption) ?_ | with_reducible refine ite_bt (by assumption) ?_ | with_reducible refine ite_bf (by assumption) ?_ | with_reducible refine ite_nbt (by assumption) ?_ | with_reducible refine ite_nbf (by assumption) ?_)
local macro_rules | `(tactic| walk_at "r") => `(tactic| repeat walk_at "s")
local macro_rules | `(tactic| walk_at "f") => `(tactic| (refine ⟨rfl, ?_⟩; walk_at "n"))
local macro_rules | `(tactic| walk_at "d") => `(tactic| (with_reducible refine wp_draw' (by assumption) (by omega) (by decide) ?_; intro _ _ _ _ _))
/-! ShD7: all things. -/
def ThingsD (d : D) : Prop := ∃ ds, d = .lst ds ∧ ds.length ≤ 100 ∧ ∀ x ∈ ds, Ent x
theorem LetD.lets {ls : List D} (h1 : ls.length = 5) (h2 : ∀ x ∈ ls, Shs 4 x) : lets ls := ⟨by omega, h2⟩
theorem Tre.ent {n : Nat} {d : D} (h : Tre 19 n d) (hn : n ≤ 7) : Ent d := ((h.up hn).odd' (by decide)).ent (by decide) (by decide)
/-- a call of term -/
theorem wp_term {k : Nat} {ws ls : List D} (hws : lex ws) (hls : lets ls) {xs : List Int} {N : Int} {K : List (Key × D)} {e : Env} {i j : Nat} {Q : D → Env → Prop} (hp : PenAt xs N K) (hN : N + 728 ≤ 4000000)
    (hi : (Sl.pd K :: e)[i]? = some (.d (.lst ws))) (hj : (Sl.pd K :: e)[j]? = some (.d (.lst ls)))
    (q : ∀ d K', Tre 19 6 d → PenAt xs (N + 728) K' → Q d (.pd K' :: e)) :
    Wp (mCallF 5 (cs (k + 7) 11) (mFOwn 0 (mFDat (mVar i) (mFDat (mVar j) (mFDat (mC (.int 6)) (mFLast (mSz (mCons (mC (.int 40)) mNil)))))))) (.pd K :: e) Q := by
  have ht := e_term_d ws ls hws hls 5 k xs N K 40 hp hN
  refine wp_callF (wp_fown (s0 := .pd K) rfl rfl (wp_fdat (wp_var hi (wp_fdat (wp_var hj (wp_fdat (wp_c (wp_flast (wp_sz (wp_cons (wp_c (wp_nil ⟨by decide, ?_⟩))))))))))))
  refine ⟨⟨rfl, rfl⟩, _, rfl, ht.mono ?_⟩
  rintro d as' ⟨hd, K', p', rfl, hp'⟩
  exact q d K' hd hp'
theorem e_things (k : Nat) : Draws (cs (k + 22) 24) 6000 [] ThingsD := fun xs N K hp hN => by
  refine (show Wc (defM 1 7 (m__law_things (cs (k + 21)))) _ _ from ?_)
  refine wc_def rfl rfl ?_; walk_at "n"
  unfold m__law_things
  walk_at "r"
  with_reducible refine wp_pen ?_
  walk_at "r"
  refine ⟨rfl, _, _, _, _, _, _, rfl, hp, by omega, e_words (k + 18), ?_⟩
  rintro d K1 ⟨ws, rfl, l1, l2, hw⟩ p1
  have hws : lex ws := ⟨by omega, by omega, hw⟩
  walk_at "f"
  walk_at "r"
  with_reducible refine wp_pen ?_
  walk_at "r"
  refine ⟨rfl, _, _, _, _, _, _, rfl, p1, by omega, e_letters (k + 19), ?_⟩
  rintro d K2 ⟨ls, rfl, l3, hl⟩ p2
  have hls : lets ls := ⟨by omega, hl⟩
  walk_at "f"
  walk_at "r"
  with_reducible refine wp_lcpen (T := Tre 19 6) (xs := xs) (c := 728) (e1 := [.d (.lst ws), .d (.lst ls), .no, .no, .no, .no]) rfl (fun N K x hp hN => ?_) ?_
  · refine wp_term (k := k + 14) hws hls hp (by omega) rfl rfl fun d K' hd hp' => ⟨hd, K', rfl, hp'⟩
  walk_at "r"
  refine ⟨by decide, _, K2, rfl, p2, by rw [upto_length]; show _ + ((5 : Nat) : Int) * _ ≤ _; omega, by rw [upto_length]; decide, fun ts K3 lt hT p3 => ?_⟩
  rw [upto_length] at lt p3
  have lt : ts.length = 5 := lt
  have p3 : PenAt xs (N + 60 + 2 + ((5 : Nat) : Int) * ((728 : Nat) : Int)) K3 := p3
  walk_at "f"
  walk_at "r"
  with_reducible refine wp_pen ?_
  walk_at "r"
  refine ⟨rfl, _, _, _, _, _, _, rfl, p3, by show _ + ((fc 3 : Nat) : Int) ≤ _; rw [show fc 3 = 40 from rfl]; omega, e_full ws ls hws hls 3 (k + 16), ?_⟩
  rintro d K4 ⟨tf, sf⟩ p4
  obtain ⟨w, rs, rfl, gw, lr, gr⟩ := sf (by decide)
  obtain ⟨a, b, c, rfl⟩ : ∃ a b c, rs = [a, b, c] := by
    match rs, lr with
    | [a, b, c], _ => exact ⟨a, b, c, rfl⟩
  obtain ⟨w0, ew, hw0⟩ := ix_at (xs := ws) (i := 0) (by decide) (by omega)
  have s1 : slD (.tup [w, a, b, c]) none (some 3) = some (.tup [w, a, b]) := sl_take [w, a, b, c] 3
  have s2 : ixD (.tup [w, a, b, c]) (.int 3) = some c := ix_tup' (xs := [w, a, b, c]) (a := 3) (show 3 < 4 by decide)
  have s3 : addD (.tup [w, a, b]) (.tup [.tup [w0, c]]) = some (.tup [w, a, b, .tup [w0, c]]) := add_tup (show 4 ≤ 1000 by decide)
  walk_at "f"
  walk_at "r"
  refine ⟨by rw [sizeLine_eq, lt]; show 7 ≤ 16777216; decide, rfl, ?_⟩
  walk_at "n"
  walk_at "r"
  have p4 : PenAt xs (N + 3742) K4 := p4.up (by show _ + ((fc 3 : Nat) : Int) ≤ _; rw [show fc 3 = 40 from rfl]; omega)
  walk_at "n"
  with_reducible refine wp_pen ?_
  walk_at "r"
  refine ⟨rfl, _, _, _, _, _, _, rfl, p4, by omega, e_tower ws hws 5 (k + 19) (by decide), fun t6 K5 h6 p5 => ?_⟩
  walk_at "r"
  with_reducible refine wp_pen ?_
  walk_at "r"
  refine ⟨rfl, _, _, _, _, _, _, rfl, p5, by omega, e_tower ws hws 6 (k + 19) (by decide), fun t7 K6 h7 p6 => ?_⟩
  walk_at "r"
  walk_at "n"
  generalize hbs : ts ++ [D.tup [w, a, b, c], D.tup [w, a, b, D.tup [w0, c]]] ++ [t6, t7] = base
  have hbl : base.length = 9 := by subst hbs; rw [List.length_append, List.length_append, lt]; rfl
  have hba : ∀ x ∈ base, Tre 19 7 x := by
    subst hbs
    intro x hx
    rcases List.mem_append.mp hx with z | z
    · rcases List.mem_append.mp z with z | z
      · exact (hT x z).up (by decide)
      · simp only [List.mem_cons, List.not_mem_nil, or_false] at z
        have ha := gr a (by simp)
        have hb := gr b (by simp)
        have hc := gr c (by simp)
        rcases z with rfl | rfl
        · exact tf.up (by decide)
        · refine .node (n := 6) gw (show 3 ≤ 3 by decide) fun y hy => ?_
          simp only [List.mem_cons, List.not_mem_nil, or_false] at hy
          rcases hy with rfl | rfl | rfl
          · exact ha.up (by decide)
          · exact hb.up (by decide)
          · exact (Tre.node (n := 3) (w := w0) (r := [_]) (hw _ hw0) (show 1 ≤ 3 by decide) fun y hy => by rw [List.mem_singleton.mp hy]; exact hc).up (by decide)
    · simp only [List.mem_cons, List.not_mem_nil, or_false] at z
      rcases z with rfl | rfl
      · exact h6.up (by decide)
      · exact h7.up (by decide)
  refine ⟨by rw [sizeLine_eq]; rw [List.length_append, lt]; show 9 ≤ 16777216; decide, rfl, ?_⟩
  walk_at "n"
  walk_at "r"
  refine ⟨by decide, ?_⟩
  have p6 : PenAt xs (N + 3760) K6 := p6.up (by omega)
  refine for_inv (fun i e => ∃ K' more x5 x6, e = [.pd K', .d (.lst ws), .d (.lst ls), .ol (base ++ more), .d (.tup [w, a, b, c]), x5, x6] ∧ PenAt xs (N + 3760 + 100 * i) K' ∧ more.length ≤ 2 * i ∧ (∀ x ∈ more, Ent x) ∧ Plain x5 ∧ Plain x6) (upto 12) 0 _ ⟨K6, [], .no, .no, by rw [List.append_nil], p6.up (by omega), Nat.le_refl _, (fun _ z => by cases z), .no, .no⟩ ?_ ?_
  · rintro i y e hy ⟨K', more, x5, x6, rfl, hp', hm, hE, h5, h6'⟩
    obtain ⟨rfl, hi⟩ := upto_get hy
    rw [Nat.zero_add] at hp' hm ⊢
    have f5 : freeB [.pd K', .d (.lst ws), .d (.lst ls), .ol (base ++ more), .d (.tup [w, a, b, c]), x5, x6] 5 = true := by rcases h5 with rfl | ⟨y, rfl⟩ <;> rfl
    refine ⟨f5, th_turn k hp' (by omega) h6' hbl hba (by omega) fun K3 more' x6' hp3 hl3 hE3 h63 => ?_⟩
    exact ⟨K3, more', _, _, rfl, hp3.up (by omega), by omega, (fun x hx => (hE3 x hx).elim (fun z => hE x z) id), .d _, h63⟩
  · rintro e ⟨K', more, x5, x6, rfl, hp', hm, hE, h5, h6'⟩
    rw [Nat.zero_add, upto_length] at hp' hm
    walk_at "r"
    refine ⟨⟨base ++ more, rfl, by rw [List.length_append]; omega, fun x hx => ?_⟩, K', rfl, hp'.up (by omega)⟩
    rcases List.mem_append.mp hx with z | z
    · exact (hba x z).ent (by decide)
    · exact hE x z

end Nv

set_option Elab.async false
set_option linter.all false
set_option maxRecDepth 100000
set_option maxHeartbeats 1000000
namespace Nv
open PySem L2 PyProof.Rows PySem.Spec
local macro_rules | `(tactic| walk_at "n") => `(tactic| try simp only [List.set_cons_zero, List.set_cons_succ, List.map_cons, List.map_nil, List.cons_append, List.nil_append, List.replicate, Nat.reduceSub])
local macro_rules | `(tactic| walk_at "s") => `(tactic| first
  | with_reducible refine wp_seq ?_ | with_reducible refine wk_nx ?_ | with_reducible refine wk_rt ?_ | with_reducible refine wt_nx ?_ | with_reducible refine wt_rt ?_ | with_reducible refine wt_bk ?_ | with_reducible refine wt_ct ?_ | with_reducible refine wk_bk ?_ | with_reducible refine wk_ct ?_
  | with_reducible refine wp_if ?_ | with_reducible refine wp_ret ?_ | with_reducible refine wp_next ?_ | with_reducible refine wp_retN ?_ | with_reducible refine wp_set ?_ | with_reducible refine wp_own ?_ | with_reducible refine wp_drop ?_
  | ((with_reducible refine' wp_var ?_ ?_); rotate_left; rfl) | ((with_reducible refine' wp_varL ?_ ?_); rotate_left; rfl) | ((with_reducible refine' wp_app ?_ ?_); rotate_left; rfl) | ((with_reducible refine' wp_lget ?_ ?_ ?_); rotate_left 2; (· rfl); (· rfl)) | with_reducible refine wp_lput ?_ | ((with_reducible refine' wp_lown ?_ ?_ ?_); rotate_left; (· rfl); (· rfl)) | ((with_reducible refine' wp_fown ?_ ?_ ?_); rotate_left; (· rfl); (· rfl)) | with_reducible refine wp_c ?_ | with_reducible refine wp_op ?_ | with_reducible refine wp_un ?_ | with_reducible refine wp_cb ?_ | with_reducible refine wp_cons ?_ | with_reducible refine wp_nil ?_
  | with_reducible refine wp_bl ?_ | with_reducible refine wp_tru ?_ | with_reducible refine wp_not ?_ | with_reducible refine wp_and ?_ | with_reducible refine wp_or ?_ | with_reducible refine wp_andV ?_ | with_reducible refine wp_orV ?_ | with_reducible refine wp_notV ?_
  | with_reducible refine wp_chain ?_ | with_reducible refine wp_sz ?_ | with_reducible refine wp_lst ?_ | with_reducible refine wp_tup ?_ | with_reducible refine wp_is ?_ | with_reducible refine wp_onone ?_ | with_reducible refine wp_osome ?_ | with_reducible refine wp_sl ?_ | with_reducible refine wp_m1 ?_
  | with_reducible refine wp_all ?_ | with_reducible refine wp_repr ?_ | with_reducible refine wp_peek ?_ | with_reducible refine wp_peekT ?_ | with_reducible refine wp_addF ?_ | with_reducible refine wp_ilist ?_ | with_reducible refine wp_itup ?_ | with_reducible refine wp_istr ?_ | with_reducible refine wp_irng ?_ | with_reducible refine wp_list ?_ | with_reducible refine wp_listS ?_
  | with_reducible refine wp_for ?_ | with_reducible refine wp_call ?_ | with_reducible refine wp_callK ?_ | with_reducible refine wp_lnil ?_ | with_reducible refine wp_ldat ?_ | with_reducible refine wp_callL ?_ | with_reducible refine wp_flast ?_ | with_reducible refine wp_fdat ?_ | with_reducible refine wp_callF ?_
  | with_reducible refine ⟨_, (by assumption : _ = some _), ?_⟩
  | ((with_reducible refine' call_and ?_ ?_ ?_); rotate_left 2; (· rfl); (· assumption)) | ((with_reducible refine' callk_and ?_ ?_ ?_); rotate_left 2; (· exact ⟨rfl, rfl⟩); (· assumption))
  | refine ite_t ?_ | refine ite_f ?_ | refine ite_nt ?_ | refine ite_nf ?_
  | with_reducible refine ⟨_, add_int, ?_⟩ | with_reducible refine ⟨_, iadd_int, ?_⟩ | with_reducible refine ⟨_, sub_int, ?_⟩ | with_reducible refine ⟨_, lt_int, ?_⟩ | with_reducible refine ⟨_, le_int, ?_⟩ | with_reducible refine ⟨_, gt_int, ?_⟩ | with_reducible refine ⟨_, ge_int, ?_⟩ | with_reducible refine ⟨_, eq_int, ?_⟩
  | with_reducible refine ⟨_, len_lst, ?_⟩ | with_reducible refine ⟨_, len_tup, ?_⟩ | with_reducible refine ⟨_, tru_bl, ?_⟩ | with_reducible refine ⟨_, int_int _, ?_⟩ | with_reducible refine ⟨_, int_bl _, ?_⟩
  | with_reducible refine ⟨_, rfl, ?_⟩ | ((with_reducible refine free_and ?_ ?_); (· first | rfl | assumption); walk_at "n") | ((with_reducible refine kind_and ?_ ?_); (· first | rfl | assumption)) | ((with_reducible refine size_and ?_ ?_); (· simp only [List.length_cons, List.length_nil, sizeLine_eq]; omega))
  | with_reducible refine ite_y (by assumption) ?_ | with_reducible refine ite_n (by assumption) ?_ | with_reducible refine ite_ny (by assumption) ?_ | with_reducible refine ite_nn (by assumption) ?_ | with_reducible refine ite_bt (by assumption) ?_ | with_reducible refine ite_bf (by assumption) ?_ | with_reducible refine ite_nbt (by assumption) ?_ | with_reducible refine ite_nbf (by assumption) ?_)
local macro_rules | `(tactic| walk_at "r") => `(tactic| repeat walk_at "s")
local macro_rules | `(tactic| walk_at "f") => `(tactic| (refine ⟨rfl, ?_⟩; walk_at "n"))
local macro_rules | `(tactic| walk_at "d") => `(tactic| (with_reducible refine wp_draw' (by assumption) (by omega) (by decide) ?_; intro _ _ _ _ _))
/-! ShD8: questions as they are drawn. -/
def AskD (d : D) : Prop := ∃ w ps, d = .tup (w :: ps) ∧ Shs 19 w ∧ 1 ≤ ps.length ∧ ps.length ≤ 3 ∧ ∀ x ∈ ps, Tre 19 6 x
theorem e_asked (k : Nat) {ws ls : List D} (hws : lex ws) (hls : lets ls) : Draws (cs (k + 8) 21) 2300 [.d (.lst ws), .d (.lst ls)] AskD := fun xs N K hp hN => by
  refine (show Wc (defM 3 5 (m__law_asked (cs (k + 7)))) _ _ from ?_)
  refine wc_def rfl rfl ?_; walk_at "n"
  unfold m__law_asked
  walk_at "r"
  with_reducible refine wp_lcpen (T := Tre 19 6) (xs := xs) (c := 728) (e1 := [.d (.lst ws), .d (.lst ls), .no, .no]) rfl (fun N K x hp hN => ?_) ?_
  · refine wp_term (k := k) hws hls hp (by omega) rfl rfl fun d K' hd hp' => ⟨hd, K', rfl, hp'⟩
  walk_at "r"
  refine wp_draw' (k := k + 6) hp (by omega) (by decide) fun m K1 m0 m1 p1 => ?_
  have em : ((m : Int) + 1).toNat ≤ 3 := by omega
  walk_at "r"
  have eu : (upto (1 + m).toNat).length = (1 + m).toNat := upto_length _
  have hm : ((1 + m).toNat : Int) * ((728 : Nat) : Int) ≤ 3 * 728 := by omega
  refine ⟨by omega, _, K1, rfl, p1, by rw [eu]; omega, by rw [eu]; omega, fun ps K2 lp hT p2 => ?_⟩
  rw [eu] at lp p2
  have p2 : PenAt xs (N + 2185) K2 := p2.up (by omega)
  walk_at "f"
  walk_at "r"
  refine wp_draw' (k := k + 6) p2 (by omega) (by decide) fun i K3 i0 i1 p3 => ?_
  have tail : ∀ K4 ps', PenAt xs (N + 2250) K4 → ps'.length = ps.length → (∀ x ∈ ps', Tre 19 6 x) → Wp (mRet (mOp addD (mTup (mCons (mOp ixD (mVar 1) (mCallP 2 0 (cs (k + 7) 8) (mCons (mCb lenD (mCons (mVar 1) mNil)) mNil))) mNil)) (mCb tupOfD (mCons (mVar 3) mNil))))
      [.pd K4, .d (.lst ws), .d (.lst ls), .ol ps', .no] (defK [.pd K, .d (.lst ws), .d (.lst ls)] fun d as' => AskD d ∧ ∃ K', as' = [.pd K', .d (.lst ws), .d (.lst ls)] ∧ PenAt xs (N + 2300) K') := fun K4 ps' p4 l4 h4 => by
    walk_at "r"
    refine wp_pick (k + 6) rfl ⟨hws.1, hws.2.1⟩ hws.2.2 p4 (by omega) fun w K5 hw p5 => ?_
    have ta := tup_lst ps'
    have ha : addD (.tup [w]) (.tup ps') = some (.tup (w :: ps')) := add_tup (by rw [List.length_cons, List.length_nil]; omega)
    walk_at "r"
    exact ⟨⟨w, ps', rfl, hw, by omega, by omega, h4⟩, K5, rfl, p5.up (by omega)⟩
  walk_at "r"
  refine ite_dec (fun z => ?_) fun z => ?_
  · with_reducible refine wp_lput ?_
    with_reducible refine wp_pen ?_
    walk_at "r"
    refine ⟨rfl, _, _, _, _, _, _, rfl, p3, by show _ + ((fc 3 : Nat) : Int) ≤ _; rw [show fc 3 = 40 from rfl]; omega, e_full ws ls hws hls 3 (k + 2), ?_⟩
    rintro d K4 ⟨hd, _⟩ p4
    have p4 : PenAt xs (N + 2250) K4 := p4.up (by show _ + ((fc 3 : Nat) : Int) ≤ _; rw [show fc 3 = 40 from rfl]; omega)
    refine ⟨.ol ps, ps, 0, rfl, rfl, ?_, ?_⟩
    · unfold ixN
      rw [if_pos (by decide), if_pos (by omega)]
      rfl
    · refine tail K4 (ps.set 0 d) p4 (by rw [List.length_set]) fun x hx => ?_
      rcases List.mem_or_eq_of_mem_set hx with z | z
      · exact hT x z
      · rw [z]; exact hd.up (by decide)
  · with_reducible refine wp_next ?_
    exact tail K3 ps (p3.up (by omega)) rfl hT
/-! what is put otherwise -/
abbrev Sm (d : D) : Prop := Ok 8 600000 d
theorem sm_shs {n : Nat} {d : D} (h : Shs n d) (hn : n ≤ 100) : Sm d := (ok_shs h).up (by decide) (by omega)
theorem Tre.sm {n : Nat} {d : D} (h : Tre 19 n d) (hn : n ≤ 7) : Sm d := ((h.up hn).ok (by decide)).up (by decide) (by rw [tw7]; decide)
theorem sm_odd {d : D} (h : Sm d) : Ent d := ⟨h.ok, rok_of h.ok (Nat.le_trans h.wt (by decide)) (Nat.le_trans h.dp (by decide)) (tells_nd h.nd), Nat.lt_of_le_of_lt h.dp (by decide)⟩
theorem sm_tup {xs : List D} (h : ∀ x ∈ xs, Sm x) (hl : xs.length ≤ 8) : Ok 9 5000000 (.tup xs) := ok_tup (fun d hd => ⟨(h d hd).ok, (h d hd).dp, (h d hd).nd, (h d hd).nl⟩) (by
  have h1 := wtAll_le (ds := xs) (n := 600000) fun d hd => (h d hd).wt
  have h2 : xs.length * (600000 + 2) ≤ 8 * (600000 + 2) := Nat.mul_le_mul_right _ hl
  omega)
theorem ok_ent {d : D} (h : Ok 9 5000000 d) : Ent d := ⟨h.ok, rok_of h.ok (Nat.le_trans h.wt (by decide)) (Nat.le_trans h.dp (by decide)) (tells_nd h.nd), Nat.lt_of_le_of_lt h.dp (by decide)⟩
theorem ent_tup {xs : List D} (h : ∀ x ∈ xs, Sm x) (hl : xs.length ≤ 8) : Ent (.tup xs) := ok_ent (sm_tup h hl)
theorem ent_lst {xs : List D} (h : ∀ x ∈ xs, Sm x) (hl : xs.length ≤ 8) : Ent (.lst xs) := by
  have o := sm_tup h hl
  have nd : noDct (.lst xs) := o.nd
  exact ⟨o.ok, rok_of o.ok (Nat.le_trans o.wt (by decide)) (Nat.le_trans o.dp (by decide)) (tells_nd nd), Nat.lt_of_le_of_lt o.dp (by decide)⟩
theorem ent_mix {l1 l2 : List D} {y : D} (h1 : ∀ x ∈ l1, Sm x) (hy : Odd 19 8 700000 y) (h2 : ∀ x ∈ l2, Sm x) (hl : l1.length + l2.length ≤ 8) : Ent (.tup ((l1 ++ [y]) ++ l2)) := by
  have mem : ∀ x ∈ (l1 ++ [y]) ++ l2, x = y ∨ Sm x := fun x hx => by
    rcases List.mem_append.mp hx with z | z
    · rcases List.mem_append.mp z with z | z
      · exact .inr (h1 x z)
      · exact .inl (List.mem_singleton.mp z)
    · exact .inr (h2 x z)
  have ok : okB (.tup ((l1 ++ [y]) ++ l2)) = true := okAll_iff.mpr fun d hd => (mem d hd).elim (fun z => by rw [z]; exact hy.ok) fun z => z.ok
  have hw : wt (.tup ((l1 ++ [y]) ++ l2)) ≤ 16000000 := by
    have w1 := wtAll_le (ds := (l1 ++ [y]) ++ l2) (n := 700000) fun d hd => (mem d hd).elim (fun z => by rw [z]; exact hy.wt) fun z => Nat.le_trans z.wt (by decide)
    have w2 : ((l1 ++ [y]) ++ l2).length * (700000 + 2) ≤ 9 * (700000 + 2) := Nat.mul_le_mul_right _ (by rw [List.length_append, List.length_append, List.length_cons, List.length_nil]; omega)
    show wtAll ((l1 ++ [y]) ++ l2) + 3 ≤ _
    omega
  have dp : (D.tup ((l1 ++ [y]) ++ l2)).py.depth ≤ 9 := Nat.add_le_add_right (depthAll_le (n := 8) fun d hd => (mem d hd).elim (fun z => by rw [z]; exact hy.dp) fun z => z.dp) 1
  have te : tells (D.tup ((l1 ++ [y]) ++ l2)).py = true := by
    rcases hy.te with t | t
    · exact tells_nd (nd_tup fun d hd => (mem d hd).elim (fun z => by rw [z]; exact t) fun z => z.nd)
    · exact tells_nl (nl_tup fun d hd => (mem d hd).elim (fun z => by rw [z]; exact t) fun z => z.nl)
  exact ⟨ok, rok_of ok hw (Nat.le_trans dp (by decide)) te, Nat.lt_of_le_of_lt dp (by decide)⟩
theorem rep_lst {x : D} : repD (.lst [x]) (.int 8) = some (.lst [x, x, x, x, x, x, x, x]) := rfl
theorem e_changed (k : Nat) {ws : List D} (hws : lex ws) {q : D} (hq : AskD q) : Draws (cs (k + 12) 22) 100 [.d (.lst ws), .d q] Ent := fun xs N K hp hN => by
  obtain ⟨w, ps, rfl, hw, l1, l3, hps⟩ := hq
  refine (show Wc (defM 3 7 (m__law_changed (cs (k + 11)))) _ _ from ?_)
  refine wc_def rfl rfl ?_; walk_at "n"
  have hls : lets [.str "T"] := ⟨show 1 ≤ 50 by decide, fun x hx => by rw [List.mem_singleton.mp hx]; exact shs_c _ _ (by decide) (by decide)⟩
  obtain ⟨w0, ew, hw0⟩ := ix_at (xs := ws) (i := 0) (by decide) (by have := hws.1; omega)
  have f3 : fc 3 = 40 := rfl
  unfold m__law_changed
  walk_at "r"
  refine wp_draw (k := k + 10) hp (by omega) ?_
  walk_at "r"
  refine ⟨by rw [List.length_cons]; omega, fun i K1 i0 i1 p1 => ?_⟩
  obtain ⟨a, rfl⟩ : ∃ a : Nat, i = (a : Int) := ⟨i.toNat, by omega⟩
  have ha : a < (w :: ps).length := by omega
  walk_at "r"
  with_reducible refine wp_pen ?_
  walk_at "r"
  refine ⟨rfl, _, _, _, _, _, _, rfl, p1, by omega, e_full ws [.str "T"] hws hls 3 (k + 6), ?_⟩
  rintro tf K2 ⟨htf, _⟩ p2
  have p2 : PenAt xs (N + 41) K2 := p2.up (by omega)
  generalize hqs : w :: ps = qs at *
  have hql : qs.length ≤ 4 := by rw [← hqs, List.length_cons]; omega
  have sq : ∀ x ∈ qs, Sm x := fun x hx => by
    rw [← hqs] at hx
    rcases List.mem_cons.mp hx with z | z
    · rw [z]; exact sm_shs hw (by decide)
    · exact (hps x z).sm (by decide)
  have sT : Sm (.str "T") := sm_shs (shs_c "T" 1 (by decide) (by decide)) (by decide)
  have e1 : (a : Int) + 1 = ((a + 1 : Nat) : Int) := by omega
  have t1 := sl_take qs a
  have t2 : slD (.tup qs) (some ((a : Int) + 1)) none = some (.tup (qs.drop (a + 1))) := by rw [e1, sl_drop]
  have t4 : slD (.tup qs) none (some ((a : Int) + 1)) = some (.tup (qs.take (a + 1))) := by rw [e1, sl_take]
  have t5 := sl_drop qs a
  have t7 : slD (.tup qs) none (some 1) = some (.tup (qs.take 1)) := sl_take qs 1
  have t10 : slD (.tup qs) (some 1) none = some (.tup (qs.drop 1)) := sl_drop qs 1
  have k1 : ∀ j, (qs.take j).length ≤ 4 := fun j => by rw [List.length_take]; omega
  have k2 : ∀ j, (qs.drop j).length ≤ 4 := fun j => by rw [List.length_drop]; omega
  have m1 : ∀ j, ∀ x ∈ qs.take j, Sm x := fun j x hx => sq x (List.mem_of_mem_take hx)
  have m2 : ∀ j, ∀ x ∈ qs.drop j, Sm x := fun j x hx => sq x (List.mem_of_mem_drop hx)
  have t3 : addD (.tup (qs.take a)) (.tup (qs.drop (a + 1))) = some (.tup (qs.take a ++ qs.drop (a + 1))) := add_tup (by have := k1 a; have := k2 (a + 1); omega)
  have t6 : addD (.tup (qs.take (a + 1))) (.tup (qs.drop a)) = some (.tup (qs.take (a + 1) ++ qs.drop a)) := add_tup (by have := k1 (a + 1); have := k2 a; omega)
  have t8 : addD (.tup qs) (.tup [.str "T"]) = some (.tup (qs ++ [.str "T"])) := add_tup (by rw [List.length_cons, List.length_nil]; omega)
  have t9 : addD (.tup qs) (.tup [.str "T", .str "T"]) = some (.tup (qs ++ [.str "T", .str "T"])) := add_tup (by rw [List.length_cons, List.length_cons, List.length_nil]; omega)
  have x0 : ixD (.tup qs) (.int 0) = some w := by rw [← hqs]; exact tup_ix0 w ps
  have sw0 : Sm w0 := sm_shs (hws.2.2 _ hw0) (by decide)
  have sx : ∀ {y}, Tre 19 7 y → ∀ z ∈ qs.take 1 ++ [y], Sm z := fun {y} hy z hz => by
    rcases List.mem_append.mp hz with u | u
    · exact m1 1 z u
    · rw [List.mem_singleton.mp u]; exact hy.sm (by decide)
  have tt : Tre 19 7 (.tup [w0, tf]) := (Tre.node (n := 4) (r := [tf]) (hws.2.2 _ hw0) (show 1 ≤ 3 by decide) fun y hy => by rw [List.mem_singleton.mp hy]; exact htf).up (by decide)
  have t11 : addD (.tup (qs.take 1)) (.tup [.tup [w0, tf]]) = some (.tup (qs.take 1 ++ [.tup [w0, tf]])) := add_tup (by have := k1 1; rw [List.length_cons, List.length_nil]; omega)
  walk_at "f"
  walk_at "r"
  with_reducible refine wp_pen ?_
  walk_at "r"
  refine ⟨rfl, _, _, _, _, _, _, rfl, p2, by omega, e_tower ws hws 6 (k + 9) (by decide), fun t7' K3 h7 p3 => ?_⟩
  have t12 : addD (.tup (qs.take 1)) (.tup [t7']) = some (.tup (qs.take 1 ++ [t7'])) := add_tup (by have := k1 1; rw [List.length_cons, List.length_nil]; omega)
  walk_at "r"
  have all : ∀ x ∈ [D.tup (qs.take a ++ qs.drop (a + 1)), D.tup (qs.take (a + 1) ++ qs.drop a), D.lst qs, D.tup (qs.take 1), D.tup (qs ++ [D.str "T"]), D.tup (qs ++ [D.str "T", D.str "T"]), D.tup [D.tup qs], D.tup (qs.drop 1), w, D.tup (qs.take 1 ++ [.tup [w0, tf]]), D.tup (qs.take 1 ++ [t7'])], Ent x := by
    intro x hx
    have app : ∀ {l1 l2 : List D}, (∀ z ∈ l1, Sm z) → (∀ z ∈ l2, Sm z) → ∀ z ∈ l1 ++ l2, Sm z := fun h1 h2 z hz => (List.mem_append.mp hz).elim (h1 z) (h2 z)
    have oT : ∀ z ∈ [D.str "T"], Sm z := fun z hz => by rw [List.mem_singleton.mp hz]; exact sT
    have oTT : ∀ z ∈ [D.str "T", D.str "T"], Sm z := fun z hz => by
      simp only [List.mem_cons, List.not_mem_nil, or_false] at hz
      rcases hz with rfl | rfl <;> exact sT
    have sqq : Sm (.tup qs) := by
      rw [← hqs]
      exact (Tre.node (n := 6) hw l3 hps).sm (by decide)
    simp only [List.mem_cons, List.not_mem_nil, or_false] at hx
    rcases hx with rfl | rfl | rfl | rfl | rfl | rfl | rfl | rfl | rfl | rfl | rfl
    · exact ent_tup (app (m1 _) (m2 _)) (by rw [List.length_append]; have := k1 a; have := k2 (a + 1); omega)
    · exact ent_tup (app (m1 _) (m2 _)) (by rw [List.length_append]; have := k1 (a + 1); have := k2 a; omega)
    · exact ent_lst sq (by omega)
    · exact ent_tup (m1 _) (by have := k1 1; omega)
    · exact ent_tup (app sq oT) (by rw [List.length_append, List.length_cons, List.length_nil]; omega)
    · exact ent_tup (app sq oTT) (by rw [List.length_append, List.length_cons, List.length_cons, List.length_nil]; omega)
    · exact ent_tup (fun z hz => by rw [List.mem_singleton.mp hz]; exact sqq) (show 1 ≤ 8 by decide)
    · exact ent_tup (m2 _) (by have := k2 1; omega)
    · exact sm_odd (sm_shs hw (by decide))
    · exact ent_tup (sx tt) (by rw [List.length_append, List.length_cons, List.length_nil]; have := k1 1; omega)
    · exact ent_tup (sx h7) (by rw [List.length_append, List.length_cons, List.length_nil]; have := k1 1; omega)
  have hl : [D.tup (qs.take a ++ qs.drop (a + 1)), D.tup (qs.take (a + 1) ++ qs.drop a), D.lst qs, D.tup (qs.take 1), D.tup (qs ++ [D.str "T"]), D.tup (qs ++ [D.str "T", D.str "T"]), D.tup [D.tup qs], D.tup (qs.drop 1), w, D.tup (qs.take 1 ++ [.tup [w0, tf]]), D.tup (qs.take 1 ++ [t7'])].length = 11 := rfl
  generalize [D.tup (qs.take a ++ qs.drop (a + 1)), D.tup (qs.take (a + 1) ++ qs.drop a), D.lst qs, D.tup (qs.take 1), D.tup (qs ++ [D.str "T"]), D.tup (qs ++ [D.str "T", D.str "T"]), D.tup [D.tup qs], D.tup (qs.drop 1), w, D.tup (qs.take 1 ++ [.tup [w0, tf]]), D.tup (qs.take 1 ++ [t7'])] = L at all hl ⊢
  have p3 : PenAt xs (N + 47) K3 := p3.up (by omega)
  with_reducible refine wp_lcsame (T := Ent) (e1 := [.pd K3, .d (.lst ws), .d (.tup qs), .d (.int (a : Int)), .d tf, .d (.lst L), .no]) rfl ?_
  walk_at "r"
  refine ⟨rfl, by rw [sizeLine_eq]; show 5 ≤ 16777216; decide, fun i x hx => ?_, fun rs hrl hT => ?_⟩
  · walk_at "n"
    have ax : addD (.tup [x]) (.tup (qs.drop 1)) = some (.tup (x :: qs.drop 1)) := add_tup (by have := k2 1; rw [List.length_cons, List.length_nil]; omega)
    walk_at "r"
    refine ⟨ent_tup (fun z hz => ?_) (by rw [List.length_cons]; have := k2 1; omega), rfl⟩
    rcases List.mem_cons.mp hz with u | u
    · rw [u]
      have hm := List.mem_of_getElem? hx
      simp only [List.mem_cons, List.not_mem_nil, or_false] at hm
      rcases hm with rfl | rfl | rfl | rfl | rfl
      · exact sT
      · exact sm_shs (shs_c "a" 1 (by decide) (by decide)) (by decide)
      · exact sm_shs (shs_c "a.b.c" 5 (by decide) (by decide)) (by decide)
      · exact ⟨rfl, by show 4 ≤ 600000; decide, Nat.zero_le _, rfl, rfl⟩
      · exact ((Tre.node (n := 0) (r := []) (hws.2.2 _ hw0) (show 0 ≤ 3 by decide) fun y hy => by cases hy) : Tre 19 1 (.tup [w0])).sm (by decide)
    · exact m2 1 z u
  · have hrl : rs.length = 5 := hrl
    have a2 : addD (.lst L) (.lst rs) = some (.lst (L ++ rs)) := add_lst (by omega)
    have all2 : ∀ x ∈ L ++ rs, Ent x := fun x hx => (List.mem_append.mp hx).elim (all x) (hT x)
    have hl2 : (L ++ rs).length = 16 := by rw [List.length_append]; omega
    walk_at "r"
    generalize L ++ rs = M at all2 hl2
    have last : ∀ M' K4, PenAt xs (N + 90) K4 → 0 < M'.length → M'.length ≤ 100 → (∀ x ∈ M', Ent x) → Wp (mRet (mOp ixD (mVar 5) (mCallP 2 0 (cs (k + 11) 8) (mCons (mCb lenD (mCons (mVar 5) mNil)) mNil)))) [.pd K4, .d (.lst ws), .d (.tup qs), .d (.int (a : Int)), .d tf, .d (.lst M'), .no]
        (defK [.pd K, .d (.lst ws), .d (.tup qs)] fun d as' => Ent d ∧ ∃ K', as' = [.pd K', .d (.lst ws), .d (.tup qs)] ∧ PenAt xs (N + 100) K') := fun M' K4 p4 lm lM hM => by
      walk_at "r"
      refine wp_pick (k + 10) rfl ⟨lm, lM⟩ hM p4 (by omega) fun d K5 hd p5 => ?_
      exact ⟨hd, K5, rfl, p5.up (by omega)⟩
    refine ite_dec (fun z => ?_) fun z => ?_
    · have hq1 : ∃ x, ixD (.tup qs) (.int (a : Int)) = some x ∧ Tre 19 6 x := by
        rw [← hqs]
        obtain ⟨j, rfl⟩ : ∃ j, a = j + 1 := ⟨a - 1, by omega⟩
        refine ⟨(w :: ps)[j + 1]'(by rw [hqs]; exact ha), ix_tup' (by rw [hqs]; exact ha), ?_⟩
        rw [List.getElem_cons_succ]
        exact hps _ (List.getElem_mem _)
      obtain ⟨x, ex, hx⟩ := hq1
      have bx := e_bent (L := 19) (by decide) 6 (k + 2) hx
      have b6 : bc 6 = 21 := rfl
      walk_at "r"
      with_reducible refine wp_pen ?_
      walk_at "r"
      refine ⟨rfl, _, _, _, _, _, _, rfl, p3, by omega, bx, fun y K4 hy p4 => ?_⟩
      have c1 : addD (.tup (qs.take a)) (.tup [y]) = some (.tup (qs.take a ++ [y])) := add_tup (by have := k1 a; rw [List.length_cons, List.length_nil]; omega)
      have c2 : addD (.tup (qs.take a ++ [y])) (.tup (qs.drop (a + 1))) = some (.tup ((qs.take a ++ [y]) ++ qs.drop (a + 1))) := add_tup (by have := k1 a; have := k2 (a + 1); rw [List.length_append, List.length_cons, List.length_nil]; omega)
      have em : Ent (.tup ((qs.take a ++ [y]) ++ qs.drop (a + 1))) := ent_mix (m1 _) (hy.up (by decide) (by decide)) (m2 _) (by have := k1 a; have := k2 (a + 1); omega)
      have c3 := rep_lst (x := .tup ((qs.take a ++ [y]) ++ qs.drop (a + 1)))
      generalize D.tup ((qs.take a ++ [y]) ++ qs.drop (a + 1)) = u at c2 em c3
      have c4 : addD (.lst M) (.lst [u, u, u, u, u, u, u, u]) = some (.lst (M ++ [u, u, u, u, u, u, u, u])) := add_lst (by rw [hl2]; show 24 ≤ 1000; decide)
      have allM : ∀ x ∈ M ++ [u, u, u, u, u, u, u, u], Ent x := fun x hx => (List.mem_append.mp hx).elim (all2 x) fun z => by
        simp only [List.mem_cons, List.not_mem_nil, or_false, or_self] at z
        rw [z]; exact em
      have lM : (M ++ [u, u, u, u, u, u, u, u]).length = 24 := by rw [List.length_append, hl2]; rfl
      generalize M ++ [u, u, u, u, u, u, u, u] = M' at c4 allM lM
      walk_at "r"
      refine wp_pick (k + 10) rfl ⟨by omega, by omega⟩ allM p4 (by omega) fun d K5 hd p5 => ?_
      exact ⟨hd, K5, rfl, p5.up (by omega)⟩
    · with_reducible refine wp_next ?_
      exact last M K3 (p3.up (by omega)) (by omega) (by omega) all2

end Nv

set_option Elab.async false
set_option linter.all false
set_option maxRecDepth 100000
set_option maxHeartbeats 1000000
namespace Nv
open PySem L2 PyProof.Rows PySem.Spec
local macro_rules | `(tactic| walk_at "n") => `(tactic| try simp only [List.set_cons_zero, List.set_cons_succ, List.map_cons, List.map_nil, List.cons_append, List.nil_append, List.replicate, Nat.reduceSub])
local macro_rules | `(tactic| walk_at "s") => `(tactic| first
  | with_reducible refine wp_seq ?_ | with_reducible refine wk_nx ?_ | with_reducible refine wk_rt ?_ | with_reducible refine wt_nx ?_ | with_reducible refine wt_rt ?_ | with_reducible refine wt_bk ?_ | with_reducible refine wt_ct ?_ | with_reducible refine wk_bk ?_ | with_reducible refine wk_ct ?_
  | with_reducible refine wp_if ?_ | with_reducible refine wp_ret ?_ | with_reducible refine wp_next ?_ | with_reducible refine wp_retN ?_ | with_reducible refine wp_set ?_ | with_reducible refine wp_own ?_ | with_reducible refine wp_drop ?_
  | ((with_reducible refine' wp_var ?_ ?_); rotate_left; rfl) | ((with_reducible refine' wp_varL ?_ ?_); rotate_left; rfl) | ((with_reducible refine' wp_app ?_ ?_); rotate_left; rfl) | ((with_reducible refine' wp_lget ?_ ?_ ?_); rotate_left 2; (· rfl); (· rfl)) | with_reducible refine wp_lput ?_ | ((with_reducible refine' wp_lown ?_ ?_ ?_); rotate_left; (· rfl); (· rfl)) | ((with_reducible refine' wp_fown ?_ ?_ ?_); rotate_left; (· rfl); (· rfl)) | with_reducible refine wp_c ?_ | with_reducible refine wp_op ?_ | with_reducible refine wp_un ?_ | with_reducible refine wp_cb ?_ | with_reducible refine wp_cons ?_ | with_reducible refine wp_nil ?_
  | with_reducible refine wp_bl ?_ | with_reducible refine wp_tru ?_ | with_reducible refine wp_not ?_ | with_reducible refine wp_and ?_ | with_reducible refine wp_or ?_ | with_reducible refine wp_andV ?_ | with_reducible refine wp_orV ?_ | with_reducible refine wp_notV ?_
  | with_reducible refine wp_chain ?_ | with_reducible refine wp_sz ?_ | with_reducible refine wp_lst ?_ | with_reducible refine wp_tup ?_ | with_reducible refine wp_is ?_ | with_reducible refine wp_onone ?_ | with_reducible refine wp_osome ?_ | with_reducible refine wp_sl ?_ | with_reducible refine wp_m1 ?_
  | with_reducible refine wp_all ?_ | with_reducible refine wp_repr ?_ | with_reducible refine wp_peek ?_ | with_reducible refine wp_peekT ?_ | with_reducible refine wp_addF ?_ | with_reducible refine wp_ilist ?_ | with_reducible refine wp_itup ?_ | with_reducible refine wp_istr ?_ | with_reducible refine wp_irng ?_ | with_reducible refine wp_list ?_ | with_reducible refine wp_listS ?_
  | with_reducible refine wp_for ?_ | with_reducible refine wp_call ?_ | with_reducible refine wp_callK ?_ | with_reducible refine wp_lnil ?_ | with_reducible refine wp_ldat ?_ | with_reducible refine wp_callL ?_ | with_reducible refine wp_flast ?_ | with_reducible refine wp_fdat ?_ | with_reducible refine wp_callF ?_
  | with_reducible refine ⟨_, (by assumption : _ = some _), ?_⟩
  | ((with_reducible refine' call_and ?_ ?_ ?_); rotate_left 2; (· rfl); (· assumption)) | ((with_reducible refine' callk_and ?_ ?_ ?_); rotate_left 2; (· exact ⟨rfl, rfl⟩); (· assumption))
  | refine ite_t ?_ | refine ite_f ?_ | refine ite_nt ?_ | refine ite_nf ?_
  | with_reducible refine ⟨_, add_int, ?_⟩ | with_reducible refine ⟨_, iadd_int, ?_⟩ | with_reducible refine ⟨_, sub_int, ?_⟩ | with_reducible refine ⟨_, lt_int, ?_⟩ | with_reducible refine ⟨_, le_int, ?_⟩ | with_reducible refine ⟨_, gt_int, ?_⟩ | with_reducible refine ⟨_, ge_int, ?_⟩ | with_reducible refine ⟨_, eq_int, ?_⟩
  | with_reducible refine ⟨_, len_lst, ?_⟩ | with_reducible refine ⟨_, len_tup, ?_⟩ | with_reducible refine ⟨_, tru_bl, ?_⟩ | with_reducible refine ⟨_, int_int _, ?_⟩ | with_reducible refine ⟨_, int_bl _, ?_⟩
  | with_reducible refine ⟨_, rfl, ?_⟩ | ((with_reducible refine free_and ?_ ?_); (· first | rfl | assumption); walk_at "n") | with_reducible refine rok_and (by assumption) ?_ | ((with_reducible refine kind_and ?_ ?_); (· first | rfl | assumption)) | ((with_reducible refine size_and ?_ ?_); (· simp only [List.length_cons, List.length_nil, sizeLine_eq]; omega))
  | with_reducible refine ite_y (by assumption) ?_ | with_reducible refine ite_n (by assumption) ?_ | with_reducible refine ite_ny (by assumption) ?_ | with_reducible refine ite_nn (by assumption) ?_ | with_reducible refine ite_bt (by assumption) ?_ | with_reducible refine ite_bf (by assumption) ?_ | with_reducible refine ite_nbt (by assumption) ?_ | with_reducible refine ite_nbf (by assumption) ?_)
local macro_rules | `(tactic| walk_at "r") => `(tactic| repeat walk_at "s")
local macro_rules | `(tactic| walk_at "f") => `(tactic| (refine ⟨rfl, ?_⟩; walk_at "n"))
local macro_rules | `(tactic| walk_at "d") => `(tactic| (with_reducible refine wp_draw' (by assumption) (by omega) (by decide) ?_; intro _ _ _ _ _))
/-! ShDa: one step more. -/
theorem rok_and {d : D} {P : Prop} (h : rokB d = true) (k : P) : rokB d = true ∧ P := ⟨h, k⟩

end Nv

set_option Elab.async false
set_option linter.all false
set_option maxRecDepth 100000
set_option maxHeartbeats 1000000
namespace Nv
open PySem L2 PyProof.Rows PySem.Spec
local macro_rules | `(tactic| walk_at "n") => `(tactic| try simp only [List.set_cons_zero, List.set_cons_succ, List.map_cons, List.map_nil, List.cons_append, List.nil_append, List.replicate, Nat.reduceSub])
local macro_rules | `(tactic| walk_at "s") => `(tactic| first
  | with_reducible refine wp_seq ?_ | with_reducible refine wk_nx ?_ | with_reducible refine wk_rt ?_ | with_reducible refine wt_nx ?_ | with_reducible refine wt_rt ?_ | with_reducible refine wt_bk ?_ | with_reducible refine wt_ct ?_ | with_reducible refine wk_bk ?_ | with_reducible refine wk_ct ?_
  | with_reducible refine wp_if ?_ | with_reducible refine wp_ret ?_ | with_reducible refine wp_next ?_ | with_reducible refine wp_retN ?_ | with_reducible refine wp_set ?_ | with_reducible refine wp_own ?_ | with_reducible refine wp_drop ?_
  | ((with_reducible refine' wp_var ?_ ?_); rotate_left; rfl) | ((with_reducible refine' wp_varL ?_ ?_); rotate_left; rfl) | ((with_reducible refine' wp_app ?_ ?_); rotate_left; rfl) | ((with_reducible refine' wp_lget ?_ ?_ ?_); rotate_left 2; (· rfl); (· rfl)) | with_reducible refine wp_lput ?_ | ((with_reducible refine' wp_lown ?_ ?_ ?_); rotate_left; (· rfl); (· rfl)) | ((with_reducible refine' wp_fown ?_ ?_ ?_); rotate_left; (· rfl); (· rfl)) | with_reducible refine wp_c ?_ | with_reducible refine wp_op ?_ | with_reducible refine wp_un ?_ | with_reducible refine wp_cb ?_ | with_reducible refine wp_cons ?_ | with_reducible refine wp_nil ?_
  | with_reducible refine wp_bl ?_ | with_reducible refine wp_tru ?_ | with_reducible refine wp_not ?_ | with_reducible refine wp_and ?_ | with_reducible refine wp_or ?_ | with_reducible refine wp_andV ?_ | with_reducible refine wp_orV ?_ | with_reducible refine wp_notV ?_
  | with_reducible refine wp_chain ?_ | with_reducible refine wp_sz ?_ | with_reducible refine wp_lst ?_ | with_reducible refine wp_tup ?_ | with_reducible refine wp_is ?_ | with_reducible refine wp_onone ?_ | with_reducible refine wp_osome ?_ | with_reducible refine wp_sl ?_ | with_reducible refine wp_m1 ?_
  | with_reducible refine wp_all ?_ | with_reducible refine wp_repr ?_ | with_reducible refine wp_peek ?_ | with_reducible refine wp_peekT ?_ | with_reducible refine wp_addF ?_ | with_reducible refine wp_ilist ?_ | with_reducible refine wp_itup ?_ | with_reducible refine wp_istr ?_ | with_reducible refine wp_irng ?_ | with_reducible refine wp_list ?_ | with_reducible refine wp_listS ?_
  | with_reducible refine wp_for ?_ | with_reducible refine wp_call ?_ | with_reducible refine wp_callK ?_ | with_reducible refine wp_lnil ?_ | with_reducible refine wp_ldat ?_ | with_reducible refine wp_callL ?_ | with_reducible refine wp_flast ?_ | with_reducible refine wp_fdat ?_ | with_reducible refine wp_callF ?_
  | with_reducible refine ⟨_, (by assumption : _ = some _), ?_⟩
  | ((with_reducible refine' call_and ?_ ?_ ?_); rotate_left 2; (· rfl); (· assumption)) | ((with_reducible refine' callk_and ?_ ?_ ?_); rotate_left 2; (· exact ⟨rfl, rfl⟩); (· assumption))
  | refine ite_t ?_ | refine ite_f ?_ | refine ite_nt ?_ | refine ite_nf ?_
  | with_reducible refine ⟨_, add_int, ?_⟩ | with_reducible refine ⟨_, iadd_int, ?_⟩ | with_reducible refine ⟨_, sub_int, ?_⟩ | with_reducible refine ⟨_, lt_int, ?_⟩ | with_reducible refine ⟨_, le_int, ?_⟩ | with_reducible refine ⟨_, gt_int, ?_⟩ | with_reducible refine ⟨_, ge_int, ?_⟩ | with_reducible refine ⟨_, eq_int, ?_⟩
  | with_reducible refine ⟨_, len_lst, ?_⟩ | with_reducible refine ⟨_, len_tup, ?_⟩ | with_reducible refine ⟨_, tru_bl, ?_⟩ | with_reducible refine ⟨_, int_int _, ?_⟩ | with_reducible refine ⟨_, int_bl _, ?_⟩
  | with_reducible refine ⟨_, rfl, ?_⟩ | ((with_reducible refine free_and ?_ ?_); (· first | rfl | assumption); walk_at "n") | with_reducible refine rok_and (by assumption) ?_ | ((with_reducible refine kind_and ?_ ?_); (· first | rfl | assumption)) | ((with_reducible refine size_and ?_ ?_); (· simp only [List.length_cons, List.length_nil, sizeLine_eq]; omega))
  | with_reducible refine ite_y (by assumption) ?_ | with_reducible refine ite_n (by assumption) ?_ | with_reducible refine ite_ny (by assumption) ?_ | with_reducible refine ite_nn (by assumption) ?_ | with_reducible refine ite_bt (by assumption) ?_ | with_reducible refine ite_bf (by assumption) ?_ | with_reducible refine ite_nbt (by assumption) ?_ | with_reducible refine ite_nbf (by assumption) ?_)
local macro_rules | `(tactic| walk_at "r") => `(tactic| repeat walk_at "s")
local macro_rules | `(tactic| walk_at "f") => `(tactic| (refine ⟨rfl, ?_⟩; walk_at "n"))
local macro_rules | `(tactic| walk_at "d") => `(tactic| (with_reducible refine wp_draw' (by assumption) (by omega) (by decide) ?_; intro _ _ _ _ _))
/-! ShD9: the law's two loops. -/
theorem rok_two (a b : Bool) : rokB (.lst [.bl a, .bl b]) = true := by cases a <;> cases b <;> decide +kernel
theorem ne_str (a : Str) : neXD (.str a) (.str a) = some (.bl false) := by
  show some (D.bl (!decide (a = a))) = _
  rw [decide_eq_true rfl]
  rfl
theorem rep_two {x : D} : repD (.lst [x]) (.int 2) = some (.lst [x, x]) := rfl
def trBody (c : Nat → Fm) : MS := (mSeq (mSet 3 (mRepr (mCons (mVar 2) mNil)))
    (mSeq (mSet 4 (mRepr (mCons (mOp repD (mLst (mSz (mCons (mCall 1 (c 23) (mCons (mVar 2) mNil)) mNil))) (mC (.int 2))) mNil)))
    (mIf (mOr (mBl (mOp neXD (mRepr (mCons (mLst (mSz (mCons (mCall 1 (c 9) (mCons (mVar 2) mNil)) (mCons (mCallK 1 1 [0] (c 9) (mCons (mVar 2) mNil)) mNil)))) mNil)) (mVar 4))) (mBl (mOp neXD (mRepr (mCons (mVar 2) mNil)) (mVar 3)))) (mRet (mC (.bl false))) mNext)))
theorem tr_turn (k : Nat) {d : D} (h : Ent d) {x0 x1 x3 x4 : Sl} (h3 : Plain x3) (h4 : Plain x4) {P : Env → Prop} {R : Out → Env → Prop} (q : ∀ y3 y4, Plain y3 → Plain y4 → P [x0, x1, .d d, y3, y4]) :
    Wp (trBody (cs (k + 22))) [x0, x1, .d d, x3, x4] (turnK P R) := by
  have f3 : freeB [x0, x1, .d d, x3, x4] 3 = true := by rcases h3 with rfl | ⟨y, rfl⟩ <;> rfl
  have f4 : ∀ y, freeB [x0, x1, .d d, .d y, x4] 4 = true := by rcases h4 with rfl | ⟨y, rfl⟩ <;> (intro _; rfl)
  have l1 := e_lterm k d h.ok h.dp
  have l2 : cs (k + 22) 9 [.d d] = some (.bl (termB d), [.d d]) := e_term (k + 16) d h.ok
  have r1 := h.rok
  have r2 := rok_two (termB d) (termB d)
  have r3 := rep_two (x := .bl (termB d))
  have n1 := ne_str (D.lst [.bl (termB d), .bl (termB d)]).py.shown
  have n2 := ne_str d.py.shown
  generalize cs (k + 22) = c at l1 l2 ⊢
  unfold trBody
  walk_at "r"
  have f4' := f4 (.str d.py.shown)
  walk_at "r"
  exact q _ _ (.d _) (.d _)
def entB (d : D) : Bool := okB d && rokB d && decide (d.py.depth < 20)
theorem ent_of {d : D} (h : entB d = true) : Ent d := by
  unfold entB at h
  rw [Bool.and_eq_true, Bool.and_eq_true, decide_eq_true_eq] at h
  exact ⟨h.1.1, h.1.2, h.2⟩
def hereT : List D := [.non, .bl true, .bl false, .int 0, .int 1, .str "", .tup [], .lst [], .dct [], .str "base.int", .lst [.str "base.int"], .tup [.str "base.int", .tup []], .tup [.tup [.str "base.int"]], .tup [.str "base.int\n"], .str "T\n", .tup [.str "base.list", .str "T\n"], .tup [.str "base.list\n", .str "T"]]
theorem hereT_ok : hereT.all entB = true := by decide +kernel
theorem is_bl (a b : Bool) : isD (.bl a) (.bl b) = some (.bl (decide (a = b))) := rfl
theorem tb1 : termB (.tup [.str "base.int"]) = true := by decide +kernel
theorem tb2 : termB (.str "T") = true := by decide +kernel
theorem tb3 : termB (.str "base.int") = false := by decide +kernel
theorem e_terms_right (k : Nat) : Draws (cs (k + 23) 20) 6000 [] (fun d => d = .bl true) := fun xs N K hp hN => by
  refine (show Wc (defM 1 5 (m__law_terms_right (cs (k + 22)))) _ _ from ?_)
  refine wc_def rfl rfl ?_; walk_at "n"
  unfold m__law_terms_right
  have hT : (hereT.length = 17) := rfl
  have hA := List.all_eq_true.mp hereT_ok
  have a1 : addD (.lst [.non, .bl true, .bl false, .int 0, .int 1, .str "", .tup [], .lst [], .dct [], .str "base.int", .lst [.str "base.int"], .tup [.str "base.int", .tup []], .tup [.tup [.str "base.int"]]]) (.lst [.tup [.str "base.int\n"], .str "T\n", .tup [.str "base.list", .str "T\n"], .tup [.str "base.list\n", .str "T"]]) = some (.lst hereT) := add_lst (show 17 ≤ 1000 by decide)
  generalize hereT = L at hT hA a1
  walk_at "r"
  with_reducible refine wp_pen ?_
  walk_at "r"
  refine ⟨rfl, _, _, _, _, _, _, rfl, hp, by omega, e_things k, ?_⟩
  rintro d K1 ⟨ts, rfl, tl, hE⟩ p1
  have a2 : addD (.lst ts) (.lst L) = some (.lst (ts ++ L)) := add_lst (by omega)
  have all : ∀ x ∈ ts ++ L, Ent x := fun x hx => (List.mem_append.mp hx).elim (hE x) fun z => ent_of (hA x z)
  generalize ts ++ L = M at a2 all
  walk_at "r"
  refine for_inv (fun i e => ∃ x2 x3 x4, e = [.pd K1, .d (.lst L), x2, x3, x4] ∧ Plain x2 ∧ Plain x3 ∧ Plain x4) M 0 _ ⟨.no, .no, .no, rfl, .no, .no, .no⟩ ?_ ?_
  · rintro i y e hy ⟨x2, x3, x4, rfl, h2, h3, h4⟩
    have f2 : freeB [.pd K1, .d (.lst L), x2, x3, x4] 2 = true := by rcases h2 with rfl | ⟨y, rfl⟩ <;> rfl
    exact ⟨f2, tr_turn k (all y (List.mem_of_getElem? hy)) h3 h4 fun y3 y4 g3 g4 => ⟨_, _, _, rfl, .d _, g3, g4⟩⟩
  · rintro e ⟨x2, x3, x4, rfl, h2, h3, h4⟩
    have c1 : cs (k + 22) 9 [.d (.tup [.str "base.int"])] = some (.bl true, [.d (.tup [.str "base.int"])]) := by rw [← tb1]; exact e_term (k + 16) _ (by decide)
    have c2 : cs (k + 22) 9 [.d (.str "T")] = some (.bl true, [.d (.str "T")]) := by rw [← tb2]; exact e_term (k + 16) _ (by decide)
    have c3 : cs (k + 22) 9 [.d (.str "base.int")] = some (.bl false, [.d (.str "base.int")]) := by rw [← tb3]; exact e_term (k + 16) _ (by decide)
    have i1 := is_bl true true
    have i2 := is_bl false false
    generalize cs (k + 22) = c at c1 c2 c3 ⊢
    walk_at "r"
    exact ⟨by rw [decide_eq_true rfl], K1, rfl, p1⟩

end Nv

set_option Elab.async false
set_option linter.all false
set_option maxRecDepth 100000
set_option maxHeartbeats 1000000
namespace Nv
open PySem L2 PyProof.Rows PySem.Spec
local macro_rules | `(tactic| walk_at "n") => `(tactic| try simp only [List.set_cons_zero, List.set_cons_succ, List.map_cons, List.map_nil, List.cons_append, List.nil_append, List.replicate, Nat.reduceSub])
local macro_rules | `(tactic| walk_at "s") => `(tactic| first
  | with_reducible refine wp_seq ?_ | with_reducible refine wk_nx ?_ | with_reducible refine wk_rt ?_ | with_reducible refine wt_nx ?_ | with_reducible refine wt_rt ?_ | with_reducible refine wt_bk ?_ | with_reducible refine wt_ct ?_ | with_reducible refine wk_bk ?_ | with_reducible refine wk_ct ?_
  | with_reducible refine wp_if ?_ | with_reducible refine wp_ret ?_ | with_reducible refine wp_next ?_ | with_reducible refine wp_retN ?_ | with_reducible refine wp_set ?_ | with_reducible refine wp_own ?_ | with_reducible refine wp_drop ?_
  | ((with_reducible refine' wp_var ?_ ?_); rotate_left; rfl) | ((with_reducible refine' wp_varL ?_ ?_); rotate_left; rfl) | ((with_reducible refine' wp_app ?_ ?_); rotate_left; rfl) | ((with_reducible refine' wp_lget ?_ ?_ ?_); rotate_left 2; (· rfl); (· rfl)) | with_reducible refine wp_lput ?_ | ((with_reducible refine' wp_lown ?_ ?_ ?_); rotate_left; (· rfl); (· rfl)) | ((with_reducible refine' wp_fown ?_ ?_ ?_); rotate_left; (· rfl); (· rfl)) | with_reducible refine wp_c ?_ | with_reducible refine wp_op ?_ | with_reducible refine wp_un ?_ | with_reducible refine wp_cb ?_ | with_reducible refine wp_cons ?_ | with_reducible refine wp_nil ?_
  | with_reducible refine wp_bl ?_ | with_reducible refine wp_tru ?_ | with_reducible refine wp_not ?_ | with_reducible refine wp_and ?_ | with_reducible refine wp_or ?_ | with_reducible refine wp_andV ?_ | with_reducible refine wp_orV ?_ | with_reducible refine wp_notV ?_
  | with_reducible refine wp_chain ?_ | with_reducible refine wp_sz ?_ | with_reducible refine wp_lst ?_ | with_reducible refine wp_tup ?_ | with_reducible refine wp_is ?_ | with_reducible refine wp_onone ?_ | with_reducible refine wp_osome ?_ | with_reducible refine wp_sl ?_ | with_reducible refine wp_m1 ?_
  | with_reducible refine wp_all ?_ | with_reducible refine wp_repr ?_ | with_reducible refine wp_peek ?_ | with_reducible refine wp_peekT ?_ | with_reducible refine wp_addF ?_ | with_reducible refine wp_ilist ?_ | with_reducible refine wp_itup ?_ | with_reducible refine wp_istr ?_ | with_reducible refine wp_irng ?_ | with_reducible refine wp_list ?_ | with_reducible refine wp_listS ?_
  | with_reducible refine wp_for ?_ | with_reducible refine wp_call ?_ | with_reducible refine wp_callK ?_ | with_reducible refine wp_lnil ?_ | with_reducible refine wp_ldat ?_ | with_reducible refine wp_callL ?_ | with_reducible refine wp_flast ?_ | with_reducible refine wp_fdat ?_ | with_reducible refine wp_callF ?_
  | with_reducible refine ⟨_, (by assumption : _ = some _), ?_⟩
  | ((with_reducible refine' call_and ?_ ?_ ?_); rotate_left 2; (· rfl); (· assumption)) | ((with_reducible refine' callk_and ?_ ?_ ?_); rotate_left 2; (· exact ⟨rfl, rfl⟩); (· assumption))
  | refine ite_t ?_ | refine ite_f ?_ | refine ite_nt ?_ | refine ite_nf ?_
  | with_reducible refine ⟨_, add_int, ?_⟩ | with_reducible refine ⟨_, iadd_int, ?_⟩ | with_reducible refine ⟨_, sub_int, ?_⟩ | with_reducible refine ⟨_, lt_int, ?_⟩ | with_reducible refine ⟨_, le_int, ?_⟩ | with_reducible refine ⟨_, gt_int, ?_⟩ | with_reducible refine ⟨_, ge_int, ?_⟩ | with_reducible refine ⟨_, eq_int, ?_⟩
  | with_reducible refine ⟨_, len_lst, ?_⟩ | with_reducible refine ⟨_, len_tup, ?_⟩ | with_reducible refine ⟨_, tru_bl, ?_⟩ | with_reducible refine ⟨_, int_int _, ?_⟩ | with_reducible refine ⟨_, int_bl _, ?_⟩
  | with_reducible refine ⟨_, rfl, ?_⟩ | ((with_reducible refine free_and ?_ ?_); (· first | rfl | assumption); walk_at "n") | with_reducible refine rok_and (by assumption) ?_ | ((with_reducible refine kind_and ?_ ?_); (· first | rfl | assumption)) | ((with_reducible refine size_and ?_ ?_); (· simp only [List.length_cons, List.length_nil, sizeLine_eq]; omega))
  | with_reducible refine ite_y (by assumption) ?_ | with_reducible refine ite_n (by assumption) ?_ | with_reducible refine ite_ny (by assumption) ?_ | with_reducible refine ite_nn (by assumption) ?_ | with_reducible refine ite_bt (by assumption) ?_ | with_reducible refine ite_bf (by assumption) ?_ | with_reducible refine ite_nbt (by assumption) ?_ | with_reducible refine ite_nbf (by assumption) ?_)
local macro_rules | `(tactic| walk_at "r") => `(tactic| repeat walk_at "s")
local macro_rules | `(tactic| walk_at "f") => `(tactic| (refine ⟨rfl, ?_⟩; walk_at "n"))
local macro_rules | `(tactic| walk_at "d") => `(tactic| (with_reducible refine wp_draw' (by assumption) (by omega) (by decide) ?_; intro _ _ _ _ _))
/-! ShDb: the whole law. -/
theorem wp_pen1 {f : Fm} {n : Nat} {r : M (List D)} {x0 : Sl} {K : List (Key × D)} {e : Env} {Q : D → Env → Prop}
    (h : Wp r (x0 :: .od K :: e) fun ds e1 => ds.length + 1 = n ∧ ∃ (xs : List Int) (N : Int) (c : Nat) (G : D → Prop) (K1 : List (Key × D)) (e' : Env), e1 = x0 :: .od K1 :: e' ∧ PenAt xs N K1 ∧ N + c ≤ 4000000 ∧ Draws f c (ds.map .d) G ∧ ∀ d K', G d → PenAt xs (N + c) K' → Q d (x0 :: .od K' :: e')) : Wp (mCallP n 1 f r) (x0 :: .od K :: e) Q := by
  refine wp_callP (s0 := .od K) rfl rfl (h.mono ?_)
  rintro ds e1 ⟨hl, xs, N, c, G, K1, e', rfl, hp, hN, hd, k⟩
  refine ⟨.od K1, rfl, rfl, hl, (hd xs N K1 hp hN).mono ?_⟩
  rintro d as' ⟨hG, K', rfl, hp'⟩
  exact ⟨.pd K', rfl, k d K' hG hp'⟩
def qtBody (c : Nat → Fm) : MS := (mSeq (mSet 8 (mRepr (mCons (mVar 7) mNil)))
    (mSeq (mSet 9 (mRepr (mCons (mOp repD (mLst (mSz (mCons (mCall 1 (c 25) (mCons (mVar 7) mNil)) mNil))) (mC (.int 2))) mNil)))
    (mIf (mOr (mBl (mOp neXD (mRepr (mCons (mLst (mSz (mCons (mCall 1 (c 26) (mCons (mVar 7) mNil)) (mCons (mCallK 1 1 [0] (c 26) (mCons (mVar 7) mNil)) mNil)))) mNil)) (mVar 9))) (mBl (mOp neXD (mRepr (mCons (mVar 7) mNil)) (mVar 8)))) (mRet (mC (.bl false))) mNext)))
theorem qt_turn (k : Nat) {d : D} (h : Ent d) {x0 x1 x2 x3 x4 x5 x6 x8 x9 : Sl} (h8 : Plain x8) (h9 : Plain x9) {P : Env → Prop} {R : Out → Env → Prop} (q : ∀ y8 y9, Plain y8 → Plain y9 → P [x0, x1, x2, x3, x4, x5, x6, .d d, y8, y9]) :
    Wp (qtBody (cs (k + 23))) [x0, x1, x2, x3, x4, x5, x6, .d d, x8, x9] (turnK P R) := by
  have f8 : freeB [x0, x1, x2, x3, x4, x5, x6, .d d, x8, x9] 8 = true := by rcases h8 with rfl | ⟨y, rfl⟩ <;> rfl
  have f9 : ∀ y, freeB [x0, x1, x2, x3, x4, x5, x6, .d d, .d y, x9] 9 = true := by rcases h9 with rfl | ⟨y, rfl⟩ <;> (intro _; rfl)
  have l1 := e_lquestion k d h.ok h.dp
  have l2 : cs (k + 23) 26 [.d d] = some (.bl (questB d), [.d d]) := e_question (k + 15) d h.ok
  have r1 := h.rok
  have r2 := rok_two (questB d) (questB d)
  have r3 := rep_two (x := .bl (questB d))
  have n1 := ne_str (D.lst [.bl (questB d), .bl (questB d)]).py.shown
  have n2 := ne_str d.py.shown
  have f9' := f9 (.str d.py.shown)
  generalize cs (k + 23) = c at l1 l2 ⊢
  unfold qtBody
  walk_at "r"
  exact q _ _ (.d _) (.d _)
def bgBody (c : Nat → Fm) : MS := (mSeq (mSet 6 (mCallP 3 1 (c 21) (mCons (mVar 2) (mCons (mVar 3) mNil))))
    (mSeq (mApp 4 (mVar 6))
    (mSeq (mApp 4 (mCallP 3 1 (c 22) (mCons (mVar 2) (mCons (mVar 6) mNil))))
    (mApp 4 (mCallP 3 1 (c 22) (mCons (mVar 2) (mCons (mVar 6) mNil)))))))
theorem ask_ent {d : D} (h : AskD d) : Ent d := by
  obtain ⟨w, ps, rfl, hw, l1, l3, hps⟩ := h
  exact (Tre.node (n := 6) hw l3 hps).ent (by decide)
theorem bg_turn (k : Nat) {ws ls acc : List D} (hws : lex ws) (hls : lets ls) {xs : List Int} {N : Int} {K : List (Key × D)} {x0 x5 x6 x7 x8 x9 : Sl} (hp : PenAt xs N K) (hN : N + 2500 ≤ 4000000) (hl : acc.length ≤ 900) (h6 : Plain x6)
    {P : Env → Prop} {R : Out → Env → Prop} (q : ∀ K' more y6, PenAt xs (N + 2500) K' → more.length = 3 → (∀ x ∈ more, Ent x) → Plain y6 → P [x0, .od K', .d (.lst ws), .d (.lst ls), .ol (acc ++ more), x5, y6, x7, x8, x9]) :
    Wp (bgBody (cs (k + 23))) [x0, .od K, .d (.lst ws), .d (.lst ls), .ol acc, x5, x6, x7, x8, x9] (turnK P R) := by
  have f6 : ∀ K', freeB [x0, .od K', .d (.lst ws), .d (.lst ls), .ol acc, x5, x6, x7, x8, x9] 6 = true := by rcases h6 with rfl | ⟨y, rfl⟩ <;> (intro _; rfl)
  unfold bgBody
  walk_at "r"
  with_reducible refine wp_pen1 ?_
  walk_at "r"
  refine ⟨rfl, _, _, _, _, _, _, rfl, hp, by omega, e_asked (k + 15) hws hls, fun d K1 hd p1 => ?_⟩
  have f := f6 K1
  refine ⟨f, ?_⟩
  walk_at "n"
  walk_at "r"
  refine ⟨by rw [sizeLine_eq]; omega, ?_⟩
  walk_at "n"
  walk_at "r"
  with_reducible refine wp_pen1 ?_
  walk_at "r"
  refine ⟨rfl, _, _, _, _, _, _, rfl, p1, by omega, e_changed (k + 11) hws hd, fun d2 K2 h2 p2 => ?_⟩
  refine ⟨acc ++ [d], rfl, by rw [List.length_append, sizeLine_eq]; simp; omega, ?_⟩
  walk_at "n"
  walk_at "r"
  with_reducible refine wp_pen1 ?_
  walk_at "r"
  refine ⟨rfl, _, _, _, _, _, _, rfl, p2, by omega, e_changed (k + 11) hws hd, fun d3 K3 h3 p3 => ?_⟩
  refine ⟨acc ++ [d] ++ [d2], rfl, by rw [List.length_append, List.length_append, sizeLine_eq]; simp; omega, ?_⟩
  walk_at "n"
  walk_at "r"
  rw [List.append_assoc, List.append_assoc]
  refine q K3 ([d] ++ ([d2] ++ [d3])) _ (p3.up (by omega)) rfl (fun x hx => ?_) (.d _)
  simp only [List.cons_append, List.nil_append, List.mem_cons, List.not_mem_nil, or_false] at hx
  rcases hx with rfl | rfl | rfl
  · exact ask_ent hd
  · exact h2
  · exact h3
def hereQ : List D := [.non, .bl true, .int 0, .str "", .str "a.b", .tup [], .lst [], .dct [], .tup [.str "a.b"], .tup [.str "a.b", .str "T"], .lst [.str "a.b", .str "T"], .tup [.str "a.b", .str "t"]] ++ [.tup [.str "a.b\n", .str "T"], .tup [.str "a.b", .str "T\n"], .tup [.str "a.b", .tup [.str "a.b\n"]]]
theorem hereQ_ok : hereQ.all entB = true := by decide +kernel
theorem qb1 : questB (.tup [.str "base.show", .tup [.str "base.list", .str "T"]]) = true := by decide +kernel
theorem pen0_pk (ns : List Int) : pen0 (ns.map D.int) = pk (ns.take 63) 0 0 := by
  unfold pen0 pk
  rw [List.map_take]
theorem law_c (c : Nat → Fm) : m_law c = (mSeq (mPen 0 1)
    (mSeq (mIf (mNot (mTru (mCallP 1 1 (c 20) mNil))) (mRet (mC (.bl false))) mNext)
    (mSeq (mSet 2 (mCallP 1 1 (c 16) mNil))
    (mSeq (mSet 3 (mCallP 1 1 (c 17) mNil))
    (mSeq (mOwn 4 (mSz (mCons (mC .non) (mCons (mC (.bl true)) (mCons (mC (.int 0)) (mCons (mC (.str "")) (mCons (mC (.str "a.b")) (mCons (mTup mNil) (mCons (mLst (mSz mNil)) (mCons (mC (.dct [])) (mCons (mTup (mCons (mC (.str "a.b")) mNil)) (mCons (mTup (mCons (mC (.str "a.b")) (mCons (mC (.str "T")) mNil))) (mCons (mLst (mSz (mCons (mC (.str "a.b")) (mCons (mC (.str "T")) mNil)))) (mCons (mTup (mCons (mC (.str "a.b")) (mCons (mC (.str "t")) mNil))) mNil))))))))))))))
    (mSeq (mOwn 4 (mAddF (mVar 4) (mLst (mSz (mCons (mTup (mCons (mC (.str "a.b\n")) (mCons (mC (.str "T")) mNil))) (mCons (mTup (mCons (mC (.str "a.b")) (mCons (mC (.str "T\n")) mNil))) (mCons (mTup (mCons (mC (.str "a.b")) (mCons (mTup (mCons (mC (.str "a.b\n")) mNil)) mNil))) mNil)))))))
    (mSeq (mFor (mIRng (mCons (mC (.int 6)) mNil)) 5 (bgBody c))
    (mSeq (mFor (mIList (mVar 4)) 7 (qtBody c))
    (mRet (mOp isD (mCall 1 (c 26) (mCons (mTup (mCons (mC (.str "base.show")) (mCons (mTup (mCons (mC (.str "base.list")) (mCons (mC (.str "T")) mNil))) mNil))) mNil)) (mC (.bl true)))))))))))) := rfl
theorem law_true (ns : List Int) (h : ns.length ≤ 63) : ∃ as, lawF [.d (.frl (ns.map .int))] = some (.bl true, as) := by
  have hp : PenAt (ns.take 63) 0 (pk (ns.take 63) 0 0) := ⟨0, 0, rfl, by decide, by decide, by decide⟩
  have hq := hereQ_ok
  suffices hh : Wc lawF [.d (.frl (ns.map .int))] fun d _ => d = .bl true by
    obtain ⟨d, as, a, rfl⟩ := hh
    exact ⟨as, a⟩
  refine wc_def rfl rfl ?_; walk_at "n"
  have hb := @bg_turn 7
  have ht := @qt_turn 7
  have g1 := e_terms_right 7
  have g2 := e_words 27
  have g3 := e_letters 28
  have g4 : cs (7 + 23) 26 [.d (.tup [.str "base.show", .tup [.str "base.list", .str "T"]])] = some (.bl true, [.d (.tup [.str "base.show", .tup [.str "base.list", .str "T"]])]) := by rw [← qb1]; exact e_question 22 _ (by decide)
  rw [law_c]
  have eb : bgBody (cs 30) = bgBody (cs (7 + 23)) := rfl
  have et : qtBody (cs 30) = qtBody (cs (7 + 23)) := rfl
  rw [eb, et]
  generalize bgBody (cs (7 + 23)) = B at hb ⊢
  generalize qtBody (cs (7 + 23)) = T at ht ⊢
  rw [show cs (7 + 23) = cs 30 from rfl] at g1 g4
  rw [show cs (27 + 3) = cs 30 from rfl] at g2
  rw [show cs (28 + 2) = cs 30 from rfl] at g3
  generalize cs 30 = c at g1 g2 g3 g4 ⊢
  with_reducible refine wp_seq ?_
  refine ⟨.nx, [.d (.frl (ns.map .int)), .od (pk (ns.take 63) 0 0), .no, .no, .no, .no, .no, .no, .no, .no], ?_, ?_⟩
  · show some (Out.nx, [Sl.d (.frl (ns.map .int)), Sl.od (pen0 (ns.map D.int)), .no, .no, .no, .no, .no, .no, .no, .no]) = _
    rw [pen0_pk]
  generalize pk (ns.take 63) 0 0 = K at hp ⊢
  generalize D.frl (ns.map .int) = fr
  walk_at "r"
  with_reducible refine wp_pen1 ?_
  walk_at "r"
  refine ⟨rfl, _, _, _, _, _, _, rfl, hp, by decide, g1, ?_⟩
  rintro d K1 rfl p1
  walk_at "r"
  with_reducible refine wp_pen1 ?_
  walk_at "r"
  refine ⟨rfl, _, _, _, _, _, _, rfl, p1, by decide, g2, ?_⟩
  rintro d K2 ⟨ws, rfl, l1, l2, hw⟩ p2
  have hws : lex ws := ⟨by omega, by omega, hw⟩
  walk_at "f"
  walk_at "r"
  with_reducible refine wp_pen1 ?_
  walk_at "r"
  refine ⟨rfl, _, _, _, _, _, _, rfl, p2, by decide, g3, ?_⟩
  rintro d K3 ⟨ls, rfl, l3, hl⟩ p3
  have hls : lets ls := ⟨by omega, hl⟩
  walk_at "f"
  walk_at "r"
  refine ⟨by show 15 ≤ sizeLine; decide, rfl, ?_⟩
  walk_at "n"
  have hA := List.all_eq_true.mp hq
  have hl15 : hereQ.length = 15 := rfl
  rw [show [D.non, D.bl true, D.int 0, D.str "", D.str "a.b", D.tup [], D.lst [], D.dct [], D.tup [D.str "a.b"], D.tup [D.str "a.b", D.str "T"], D.lst [D.str "a.b", D.str "T"], D.tup [D.str "a.b", D.str "t"], D.tup [D.str "a.b\n", D.str "T"], D.tup [D.str "a.b", D.str "T\n"], D.tup [D.str "a.b", D.tup [D.str "a.b\n"]]] = hereQ from rfl]
  generalize hereQ = L at hA hl15 ⊢
  walk_at "r"
  refine ⟨by decide, ?_⟩
  refine for_inv (fun i e => ∃ K' more x5 x6, e = [.d fr, .od K', .d (.lst ws), .d (.lst ls), .ol (L ++ more), x5, x6, .no, .no, .no] ∧ PenAt (ns.take 63) (6100 + 2500 * (i : Int)) K' ∧ more.length = 3 * i ∧ (∀ x ∈ more, Ent x) ∧ Plain x5 ∧ Plain x6) (upto 6) 0 _ ⟨K3, [], .no, .no, by rw [List.append_nil], p3.up (by decide), rfl, (fun _ z => by cases z), .no, .no⟩ ?_ ?_
  · rintro i y e hy ⟨K', more, x5, x6, rfl, hp', hm, hE, h5, h6⟩
    obtain ⟨rfl, hi⟩ := upto_get hy
    rw [Nat.zero_add] at hp' hm ⊢
    have f5 : freeB [.d fr, .od K', .d (.lst ws), .d (.lst ls), .ol (L ++ more), x5, x6, .no, .no, .no] 5 = true := by rcases h5 with rfl | ⟨y, rfl⟩ <;> rfl
    refine ⟨f5, hb hws hls hp' (by omega) (by rw [List.length_append]; omega) h6 fun K4 more' y6 hp4 hm4 hE4 g6 => ?_⟩
    refine ⟨K4, more ++ more', _, _, by rw [List.append_assoc], hp4.up (by omega), by rw [List.length_append]; omega, (fun x hx => ?_), .d _, g6⟩
    rcases List.mem_append.mp hx with z | z
    · exact hE x z
    · exact hE4 x z
  · rintro e ⟨K', more, x5, x6, rfl, hp', hm, hE, h5, h6⟩
    have all : ∀ x ∈ L ++ more, Ent x := fun x hx => (List.mem_append.mp hx).elim (fun z => ent_of (hA x z)) (hE x)
    generalize L ++ more = M at all ⊢
    walk_at "r"
    walk_at "n"
    refine for_inv (fun i e => ∃ x7 x8 x9, e = [.d fr, .od K', .d (.lst ws), .d (.lst ls), .d (.lst M), x5, x6, x7, x8, x9] ∧ Plain x7 ∧ Plain x8 ∧ Plain x9) M 0 _ ⟨.no, .no, .no, rfl, .no, .no, .no⟩ ?_ ?_
    · rintro i y e hy ⟨x7, x8, x9, rfl, h7, h8, h9⟩
      have f7 : freeB [.d fr, .od K', .d (.lst ws), .d (.lst ls), .d (.lst M), x5, x6, x7, x8, x9] 7 = true := by rcases h7 with rfl | ⟨y, rfl⟩ <;> rfl
      exact ⟨f7, ht (all y (List.mem_of_getElem? hy)) h8 h9 fun y8 y9 g8 g9 => ⟨_, _, _, rfl, .d _, g8, g9⟩⟩
    · rintro e ⟨x7, x8, x9, rfl, h7, h8, h9⟩
      have i1 := is_bl true true
      walk_at "r"
      show D.bl (decide (true = true)) = .bl true
      rw [decide_eq_true rfl]

end Nv

set_option Elab.async false
set_option linter.all false
set_option maxRecDepth 100000
set_option maxHeartbeats 4000000
namespace Nv
open PySem L2 PyProof.Rows PySem.Spec
theorem sp_law (K : PySem.W.Frag) (H : Hp) (a : Addr) (ns : List Int) (hl : ns.length ≤ 63) (hS : SqL K H a (ns.map V.int)) : SpD ⟨K, fun _ => 0⟩ 1 (PhiF lawF) [.ref a] H (fun v _ => v = .bl true) E0 := by
  obtain ⟨as, ha⟩ := law_true ns hl
  refine ⟨H, [.d (.frl (ns.map .int))], fun d _ => d = .bl true, rfl, ?_, args_ok (ds := [.frl (ns.map .int)]), ⟨_, _, ha, rfl⟩, fun v d G' H' as' S T r e => ?_⟩
  · exact St.data (vs := [.ref a]) (ds := [.frl (ns.map .int)]) (Same.refl H) (.cons (.frl hS (RpAll.ints ns)) .nil)
  · subst e
    exact r.bl_inv
end Nv
open PySem PySem.W PyProof.Rows
set_option maxHeartbeats 0 in
theorem PySem.Challenge.cw_nevermet_k02_what_terms_and_questions_ar_holds : PySem.Challenge.rw_nevermet_k02_what_terms_and_questions_ar.Holds := by
  w_on; o_law; k_head; (case hw => w_witness2)
  k_fill
  refine Nv.walk_g (l := PySem.Challenge.rw_nevermet_k02_what_terms_and_questions_ar) (n := 63) (k := 31) (x := "_law_script") (sp := fun K => Nv.SpD ⟨K, fun _ => 0⟩ 1 (Nv.PhiF Nv.lawF)) rfl (by decide) rfl ⟨rfl, by decide, by decide⟩ (fun w h Y => PySem.W.kIn_of Y) ?F (fun K H a ns hl hS => Nv.sp_law K H a ns hl hS)
  case F =>
    intro w mg fa h KX G hmg
    refine' Nv.facts KX G hmg ?a_is_name ?l_is_name ?c_is_name ?k_is_name ?a_is_dotted ?l_is_dotted ?c_is_dotted ?k_is_dotted ?a_is_word ?l_is_word ?c_is_word ?k_is_word ?a_is_member_word ?l_is_member_word ?c_is_member_word ?k_is_member_word ?a_is_variable ?l_is_variable ?c_is_variable ?k_is_variable ?a_is_piece ?l_is_piece ?c_is_piece ?k_is_piece ?a_is_within ?l_is_within ?c_is_within ?k_is_within ?a_is_term ?l_is_term ?c_is_term ?k_is_term ?a_is_question ?l_is_question ?c_is_question ?k_is_question ?a__law_pen ?l__law_pen ?c__law_pen ?k__law_pen ?a__law_draw ?l__law_draw ?c__law_draw ?k__law_draw ?a__law_names ?l__law_names ?c__law_names ?k__law_names ?a__law_words ?l__law_words ?c__law_words ?k__law_words ?a__law_letters ?l__law_letters ?c__law_letters ?k__law_letters ?a__law_term ?l__law_term ?c__law_term ?k__law_term ?a__law_odd ?l__law_odd ?c__law_odd ?k__law_odd ?a__law_bent ?l__law_bent ?c__law_bent ?k__law_bent ?a__law_is_word ?l__law_is_word ?c__law_is_word ?k__law_is_word ?a__law_count ?l__law_count ?c__law_count ?k__law_count ?a__law_is_term ?l__law_is_term ?c__law_is_term ?k__law_is_term ?a__law_full ?l__law_full ?c__law_full ?k__law_full ?a__law_tower ?l__law_tower ?c__law_tower ?k__law_tower ?a__law_things ?l__law_things ?c__law_things ?k__law_things ?a__law_is_question ?l__law_is_question ?c__law_is_question ?k__law_is_question ?a__law_asked ?l__law_asked ?c__law_asked ?k__law_asked ?a__law_changed ?l__law_changed ?c__law_changed ?k__law_changed ?a__law_terms_right ?l__law_terms_right ?c__law_terms_right ?k__law_terms_right ?a_law ?l_law ?c_law ?k_law ?z_range ?z_isinstance ?z_str ?z_tuple ?z_all ?z_len ?z_list ?z_int ?z_max ?z_repr ?z_abs ?a_LONGEST_NAME ?a_LONGEST_VARIABLE ?a_SMALL ?a_LARGE ?a_DIGITS ?a_TAKEN ?l_TAKEN ?a_MOST_SYMBOLS ?a_MOST_DEEP ?a_MOST_PARTS ?a_MOST_PLACES
    (case a_is_name => k_is); (case l_is_name => k_is); (case c_is_name => k_is); (case k_is_name => k_is); (case a_is_dotted => k_is); (case l_is_dotted => k_is); (case c_is_dotted => k_is); (case k_is_dotted => k_is); (case a_is_word => k_is); (case l_is_word => k_is); (case c_is_word => k_is); (case k_is_word => k_is); (case a_is_member_word => k_is); (case l_is_member_word => k_is); (case c_is_member_word => k_is); (case k_is_member_word => k_is); (case a_is_variable => k_is); (case l_is_variable => k_is); (case c_is_variable => k_is); (case k_is_variable => k_is); (case a_is_piece => k_is); (case l_is_piece => k_is); (case c_is_piece => k_is); (case k_is_piece => k_is); (case a_is_within => k_is); (case l_is_within => k_is); (case c_is_within => k_is); (case k_is_within => k_is); (case a_is_term => k_is); (case l_is_term => k_is); (case c_is_term => k_is); (case k_is_term => k_is); (case a_is_question => k_is); (case l_is_question => k_is); (case c_is_question => k_is); (case k_is_question => k_is); (case a__law_pen => k_is); (case l__law_pen => k_is); (case c__law_pen => k_is); (case k__law_pen => k_is); (case a__law_draw => k_is); (case l__law_draw => k_is); (case c__law_draw => k_is); (case k__law_draw => k_is); (case a__law_names => k_is); (case l__law_names => k_is); (case c__law_names => k_is); (case k__law_names => k_is); (case a__law_words => k_is); (case l__law_words => k_is); (case c__law_words => k_is); (case k__law_words => k_is); (case a__law_letters => k_is); (case l__law_letters => k_is); (case c__law_letters => k_is); (case k__law_letters => k_is); (case a__law_term => k_is); (case l__law_term => k_is); (case c__law_term => k_is); (case k__law_term => k_is); (case a__law_odd => k_is); (case l__law_odd => k_is); (case c__law_odd => k_is); (case k__law_odd => k_is); (case a__law_bent => k_is); (case l__law_bent => k_is); (case c__law_bent => k_is); (case k__law_bent => k_is); (case a__law_is_word => k_is); (case l__law_is_word => k_is); (case c__law_is_word => k_is); (case k__law_is_word => k_is); (case a__law_count => k_is); (case l__law_count => k_is); (case c__law_count => k_is); (case k__law_count => k_is); (case a__law_is_term => k_is); (case l__law_is_term => k_is); (case c__law_is_term => k_is); (case k__law_is_term => k_is); (case a__law_full => k_is); (case l__law_full => k_is); (case c__law_full => k_is); (case k__law_full => k_is); (case a__law_tower => k_is); (case l__law_tower => k_is); (case c__law_tower => k_is); (case k__law_tower => k_is); (case a__law_things => k_is); (case l__law_things => k_is); (case c__law_things => k_is); (case k__law_things => k_is); (case a__law_is_question => k_is); (case l__law_is_question => k_is); (case c__law_is_question => k_is); (case k__law_is_question => k_is); (case a__law_asked => k_is); (case l__law_asked => k_is); (case c__law_asked => k_is); (case k__law_asked => k_is); (case a__law_changed => k_is); (case l__law_changed => k_is); (case c__law_changed => k_is); (case k__law_changed => k_is); (case a__law_terms_right => k_is); (case l__law_terms_right => k_is); (case c__law_terms_right => k_is); (case k__law_terms_right => k_is); (case a_law => k_is); (case l_law => k_is); (case c_law => k_is); (case k_law => k_is); (case z_range => k_is); (case z_isinstance => k_is); (case z_str => k_is); (case z_tuple => k_is); (case z_all => k_is); (case z_len => k_is); (case z_list => k_is); (case z_int => k_is); (case z_max => k_is); (case z_repr => k_is); (case z_abs => k_is); (case a_LONGEST_NAME => k_is); (case a_LONGEST_VARIABLE => k_is); (case a_SMALL => k_is); (case a_LARGE => k_is); (case a_DIGITS => k_is); (case a_TAKEN => k_is); (case l_TAKEN => k_is); (case a_MOST_SYMBOLS => k_is); (case a_MOST_DEEP => k_is); (case a_MOST_PARTS => k_is); (case a_MOST_PLACES => k_is);

