import PyProof.Rows.All
import Wide.All
import OpenK.AllK
import Wide.FinOn
import HandS.ForMost
import PyProof.ReprRoads
import HandS.IsInst
import HandS.TupAny
import HandS.Style
import HandS.Steps
import HandS.Zip
import HandS.FStr
import HandS.RaiseMore
import HandS.More
import HandS.Dict
import HandS.Star
import HandS.Flow
import KE.GoesMore
import HandS.DictComp
import HandS.Iter
import PyProof.ReprLen
import PyProof.StrLawsRepr
import PyProof.FitsInt
import PySem.Challenge.RW_nevermet_k05_filled_and_renamed
set_option Elab.async false
set_option linter.all false
set_option maxRecDepth 100000
set_option maxHeartbeats 4000000
/-! NvG: defs that are called where no repr is under way (the stack's guards are none), so that repr of data can be told. -/
namespace Nv
open PySem L2 PyProof.Rows PySem.Spec

/-- a def's promise, given that no repr is under way where it is called -/
structure FnG (P : Program) (w : World) (K : PySem.W.Frag) (mg : Str → Option Value) (base : Heap) (k : Nat) (f : Addr) (fd : FuncData) (ps : List Str) (sp : Sp) : Prop where
  len : ∀ vs H Q E, sp vs H Q E → vs.length = ps.length
  run : ∀ (A : Around) (outer : List Env) (s : Shared) (H : Hp) (args : Args) (us : List Value) (vs : List V) (Q : VK) (E : XK), A.guards = some [] → Room k A →
    Env0 P w K mg base A outer s H → BindsTo s fd args (ps.zip us) → Vals vs us → sp vs H Q E → codeAny (model P w) A (.call (.ref f) args) (CR CX0 outer P w H s Q E) s

section
variable {P : Program} {w : World} {K : PySem.W.Frag} {mg : Str → Option Value} {base : Heap} {k : Nat} {f : Addr} {fd : FuncData} {ps : List Str} {sp sp' : Sp}

theorem FnG.mono {j : Nat} (F : FnG P w K mg base j f fd ps sp) (h : j ≤ k) : FnG P w K mg base k f fd ps sp :=
  ⟨F.len, fun A outer s H args us vs Q E hg hr => F.run A outer s H args us vs Q E hg (hr.mono h)⟩
theorem FnG.imp (F : FnG P w K mg base k f fd ps sp) (h : ∀ vs H Q E, sp' vs H Q E → sp vs H Q E) : FnG P w K mg base k f fd ps sp' :=
  ⟨fun vs H Q E q => F.len vs H Q E (h _ _ _ _ q), fun A outer s H args us vs Q E hg hr he hb hv hs => F.run A outer s H args us vs Q E hg hr he hb hv (h _ _ _ _ hs)⟩

/-- a def by its body -/
theorem fn_g {x qual : Str} {st : Stmt} {N : List Str} (F : Fun K x qual st f fd) (S : FnScope N ps (defScope st)) (len : ∀ vs H Q E, sp vs H Q E → vs.length = ps.length)
    (hbody : ∀ (cdv : Value) (A : Around) (outer : List Env) (s : Shared) (H : Hp) (vs : List V) (Q : VK) (E : XK), A.guards = some [] →
      Room k (A.deeper (envOfC qual (defScope st) s.heap.objs.size f cdv)) → sp vs H Q E →
      ∃ t, PSs (cxOf CX0 P w K mg base N qual (defScope st) f cdv A outer s H E) (defBody st) t ∧ t { nx := fun _ H' => Q .non H', rt := Q } (start N vs) H) :
    FnG P w K mg base (k + 1) f fd ps sp := by
  obtain ⟨oc, od, kV, doc, pm, an, cdv, ct, osl, rfl, lk, hcd⟩ := F.ex
  refine ⟨len, fun A outer s H args us vs Q E hg hr e0 hb r hsp => ?_⟩
  have up : ∀ b o, base.get? b = some o → s.heap.get? b = some o := fun b o e => (e0.bs b o e).1
  have kx := e0.mod.kin.keeps up
  have limit := e0.mod.nolimit.keeps up
  have kinds : ∀ y ∈ ps.zip us, (defScope st).names.lookup y.1 = some .local ∨ ((defScope st).names.lookup y.1 = some .cell ∧ ((cellsFrom (s.heap.objs.size + 1) (defScope st).names []).lookup y.1).isSome = true) := by
    rintro ⟨n, v⟩ hy
    rcases S.par n (List.of_mem_zip hy).1 with q | q
    · exact Or.inl q
    · exact Or.inr ⟨q, PySem.W.cellsFrom_some _ _ _ (.inl q)⟩
  refine codeAny_call_function hr.depth (kx _ _ lk) rfl S.co S.gen rfl (PySem.W.codeRec_of kx hcd) (hb _ _ _ _ ?_)
  refine wpAny_newFunctionEnv_cells S.kind kinds fun env he s1 x => ?_
  subst he
  refine ⟨limit.keeps x.toInCall.keep, codeAny_func ?_⟩
  obtain ⟨t, ht, hq⟩ := hbody cdv A outer s H vs Q E hg (hr.deeper _) hsp
  have I : Inv (cxOf CX0 P w K mg base N qual (defScope st) f cdv A outer s H E) [] (start N vs) H s1 := inv_start S hr.hd e0 (len _ _ _ _ hsp) r x
  refine wpAny_mono (ht.run [] s1 (start N vs) H _ I hq) (fun fl s' hs => ?_) fun e s' hs => hs
  cases fl with
  | brk => obtain ⟨_, _, _, q⟩ := hs; exact q.elim
  | cont => obtain ⟨_, _, _, q⟩ := hs; exact q.elim
  | next =>
    obtain ⟨σ', H', J, q⟩ := hs
    exact ⟨V.non, H', J.os, J.bare, J.base, J.hok, rfl, q⟩
  | ret u =>
    obtain ⟨v, σ', H', J, rv, q⟩ := hs
    exact ⟨v, H', J.os, J.bare, J.base, J.hok, rv, q⟩
end

section
variable {X : Cx} {k : Nat} {f : Addr} {fd : FuncData} {ps : List Str} {sp : Sp} {x : Str} {p pos : Pos} {e : Expr} {es : List Expr} {t : TA}

/-- the callee runs; E0: nothing is wanted of an exception, since none comes -/
theorem run_g {pins : List (Addr × Obj)} {σ : L2.St} {H : Hp} {s : Shared} {Q : VK} {args : Args} {us : List Value} {vs : List V} (F : FnG X.prog X.w X.K X.mg X.base k f fd ps sp) (hg : X.A.guards = some []) (hr : Room k X.A)
    (I : Inv X pins σ H s) (hb : BindsTo s fd args (ps.zip us)) (r : Vals vs us) (h : sp vs H Q E0) : codeAny (model X.prog X.w) X.A (.call (.ref f) args) (fun r s' => match r with | .ok (.ret u) => EP X pins σ Q u s' | _ => False) s := by
  refine codeAny_mono (F.run X.A X.stack s H args us vs Q E0 hg hr I.env0 hb r h) fun r s' hq => ?_
  cases r with
  | error e => exact hq
  | ok fl =>
    cases fl with
    | ret u => exact I.after hq
    | next => exact hq
    | brk => exact hq
    | cont => exact hq
theorem call_g {pins : List (Addr × Obj)} {σ : L2.St} {H : Hp} {s : Shared} {Q : VK} {kw : List (Str × Value)} {us0 us : List Value} {vs : List V} (F : FnG X.prog X.w X.K X.mg X.base k f fd ps sp) (hg : X.A.guards = some []) (hr : Room k X.A)
    (I : Inv X pins σ H s) (hb : BindsTo s fd ⟨us0, kw⟩ (ps.zip us)) (r : Vals vs us) (h : sp vs H Q E0) : wpAny (model X.prog X.w) X.A (call (.ref f) us0 kw) (EP X pins σ Q) X.xe s := by
  refine wpAny_call (codeAny_mono (run_g F hg hr I hb r h) fun r s' hq => ?_)
  cases r with
  | error e => exact hq.elim
  | ok fl =>
    cases fl with
    | ret u => exact hq
    | next => exact hq.elim
    | brk => exact hq.elim
    | cont => exact hq.elim
/-- f(e, ..) -/
def tG (sp : Sp) (t : TA) : TE := fun σ H Q => t σ H fun vs H1 => sp vs H1 Q E0
theorem pe_g (F : FnG X.prog X.w X.K X.mg X.base k f fd ps sp) (hg : X.A.guards = some []) (hr : Room k X.A) (hx : Gl X x) (hm : X.mg x = some (.ref f)) (hk : PySem.W.keepIn X.K (.ref f) = true) (hb : Binds X.K fd ps [])
    (ha : PA X (e :: es) t) (hdb : (x == ("__debug__" : Str)) = false := by decide) (he : starEach (e :: es) X.env = (false, eval e X.env) :: starEach es X.env := by rfl)
    (hpl : (backTo pos (starEach es X.env)).any (·.1) = false := by rfl) : PE X (.Call (.Name x p) (e :: es) [] pos) (tG sp t) := by
  refine ⟨fun pins s σ H Q I h => ?_⟩
  refine wpAny_Call_Name_kw (ld_glob I hx hm ?_ hdb)
  refine PySem.W.callWith_K (h₀ := X.base) I.ok.mod.kin hk (thn (ha.run pos pins s σ H _ I h) fun us s1 ⟨vs, H1, I1, r, q⟩ => ⟨I1.kIn, ?_⟩) he hpl
  have hl : us.length = ps.length := by rw [← r.length]; exact F.len _ _ _ _ q
  have b := hb s1 us I1.kIn (by rw [List.append_nil]; exact hl)
  rw [List.append_nil] at b
  exact call_g F hg hr I1 b r q
/-- f() -/
theorem pe_g0 (F : FnG X.prog X.w X.K X.mg X.base k f fd ps sp) (hg : X.A.guards = some []) (hr : Room k X.A) (hx : Gl X x) (hm : X.mg x = some (.ref f)) (hk : PySem.W.keepIn X.K (.ref f) = true) (hb : Binds X.K fd ps [])
    (hdb : (x == ("__debug__" : Str)) = false := by decide) : PE X (.Call (.Name x p) [] [] pos) (tG sp tNil) := by
  refine ⟨fun pins s σ H Q I h => ?_⟩
  refine wpAny_Call_Name_kw (ld_glob I hx hm ?_ hdb)
  have hl : ([] : List Value).length = ps.length := F.len _ _ _ _ h
  have b := hb s [] I.kIn hl
  exact PySem.W.callWith_K0 I.kIn hk (call_g (us0 := []) F hg hr I b .nil h)
/-- how keywords alone bind: pm puts their values (in the order in which they stand) in the parameters' order -/
structure KwB (K : PySem.W.Frag) (fd : FuncData) (ps ks : List Str) (pm : List Nat) : Prop where
  to : ∀ (s : Shared) (ws : List Value), K.In s.heap → ws.length = ks.length → BindsTo s fd ⟨[], ks.zip ws⟩ (ps.zip (pm.filterMap (ws[·]?)))
def permV (pm : List Nat) (zs : List V) : List V := pm.filterMap (zs[·]?)
theorem Vals.perm {zs : List V} {ws : List Value} (r : Vals zs ws) : ∀ pm : List Nat, Vals (permV pm zs) (pm.filterMap (ws[·]?))
  | [] => .nil
  | i :: pm => by
    have ih := Vals.perm r pm
    unfold permV at ih ⊢
    rw [List.filterMap_cons, List.filterMap_cons]
    cases e : zs[i]? with
    | none => rw [r.none_of e]; exact ih
    | some x =>
      obtain ⟨u, h1, h2⟩ := r.get e
      rw [h1]
      exact .cons h2 ih
/-- f(k = e, ..), keywords alone -/
def tGK (n : Nat) (pm : List Nat) (sp : Sp) (tk : TA) : TE := fun σ H Q => tk σ H fun zs H1 => zs.length = n ∧ sp (permV pm zs) H1 Q E0
theorem pe_gK {ks : List Str} {pm : List Nat} {kws : List Keyword} {tk : TA} (F : FnG X.prog X.w X.K X.mg X.base k f fd ps sp) (hg : X.A.guards = some []) (hr : Room k X.A) (hx : Gl X x) (hm : X.mg x = some (.ref f)) (hk : PySem.W.keepIn X.K (.ref f) = true) (hb : KwB X.K fd ps ks pm)
    (hkw : PK X kws tk) (hall : (backToKw pos (keywordEach kws X.env)).all (·.1.isSome) = true := by rfl) (hks : (backToKw pos (keywordEach kws X.env)).filterMap (·.1) = ks := by rfl)
    (hdb : (x == ("__debug__" : Str)) = false := by decide) (hpl : ((backTo pos (starEach [] X.env)).any (·.1) || (backToKw pos (keywordEach kws X.env)).any (·.1.isNone)) = false := by rfl) :
    PE X (.Call (.Name x p) [] kws pos) (tGK ks.length pm sp tk) := by
  refine ⟨fun pins s σ H Q I h => ?_⟩
  refine wpAny_Call_Name_kw (ld_glob I hx hm ?_ hdb)
  refine PySem.W.callWith_KW0 (h₀ := X.base) I.ok.mod.kin hk hall (thn (hkw.run pos pins s σ H _ I h) fun ws s1 ⟨zs, H1, I1, r, hz, q⟩ => ⟨I1.kIn, ?_⟩) hpl
  rw [hks]
  exact call_g (us0 := [] ++ []) F hg hr I1 (hb.to s1 ws I1.kIn (by rw [← r.length]; exact hz)) (Vals.perm r pm) q
end

/-! ### data of any depth, dicts too -/
mutual
inductive Dt (K : PySem.W.Frag) (H : Hp) : V → PyData → Prop
  | non : Dt K H .non .none
  | bl (b : Bool) : Dt K H (.bl b) (.bool b)
  | int (i : Int) : Dt K H (.int i) (.int i)
  | str (x : Str) : Dt K H (.str x) (.str x)
  | lst {a : Addr} {xs : List V} {ds : List PyData} : SqL K H a xs → DtAll K H xs ds → Dt K H (.ref a) (.list ds)
  | tup {a : Addr} {xs : List V} {ds : List PyData} : SqT K H a xs → DtAll K H xs ds → Dt K H (.ref a) (.tuple ds)
  | dct {a : Addr} {kvs : List (Key × V)} {ds : List (PyData × PyData)} : Rd H a (.dK kvs) → DtKv K H kvs ds → Dt K H (.ref a) (.dict ds)
inductive DtAll (K : PySem.W.Frag) (H : Hp) : List V → List PyData → Prop
  | nil : DtAll K H [] []
  | cons {v : V} {vs : List V} {d : PyData} {ds : List PyData} : Dt K H v d → DtAll K H vs ds → DtAll K H (v :: vs) (d :: ds)
inductive DtKv (K : PySem.W.Frag) (H : Hp) : List (Key × V) → List (PyData × PyData) → Prop
  | nil : DtKv K H [] []
  | int {i : Int} {v : V} {vs : List (Key × V)} {d : PyData} {ds : List (PyData × PyData)} : Dt K H v d → DtKv K H vs ds → DtKv K H ((.inl i, v) :: vs) ((.int i, d) :: ds)
  | str {x : Str} {v : V} {vs : List (Key × V)} {d : PyData} {ds : List (PyData × PyData)} : Dt K H v d → DtKv K H vs ds → DtKv K H ((.inr x, v) :: vs) ((.str x, d) :: ds)
end
end Nv

set_option Elab.async false
set_option linter.all false
set_option maxRecDepth 100000
set_option maxHeartbeats 4000000
/-! NvR: repr of data; the law's end. -/
namespace Nv
open PySem L2 PyProof.Rows PySem.Spec

/-! ### data stay when the heap grows -/
section
variable {K : PySem.W.Frag} {H H' : Hp}
theorem Same.rd {a : Addr} {u : HO} (e : Same H H') (h : Rd H a u) : Rd H' a u := by
  rcases h with h | ⟨o, h⟩
  · exact .inl (e _ _ h)
  · exact .inr ⟨o, e _ _ h⟩
theorem Same.tup {a : Addr} {xs : List V} (e : Same H H') (h : SqT K H a xs) : SqT K H' a xs := by
  rcases h with h | h
  · exact .inl (Same.rd e h)
  · exact .inr h
theorem Same.lst {a : Addr} {xs : List V} (e : Same H H') (h : SqL K H a xs) : SqL K H' a xs := L2.Same.seq e h
mutual
theorem Dt.up (e : Same H H') : ∀ (d : PyData) (v : V), Dt K H v d → Dt K H' v d
  | .none, _, h => by cases h; exact .non
  | .bool b, _, h => by cases h; exact .bl b
  | .int i, _, h => by cases h; exact .int i
  | .str x, _, h => by cases h; exact .str x
  | .list ds, _, h => by
    cases h with
    | lst hs ha => exact .lst (Same.lst e hs) (DtAll.up e ds _ ha)
  | .tuple ds, _, h => by
    cases h with
    | tup hs ha => exact .tup (Same.tup e hs) (DtAll.up e ds _ ha)
  | .dict ds, _, h => by
    cases h with
    | dct hs ha => exact .dct (Same.rd e hs) (DtKv.up e ds _ ha)
theorem DtAll.up (e : Same H H') : ∀ (ds : List PyData) (vs : List V), DtAll K H vs ds → DtAll K H' vs ds
  | [], _, h => by cases h; exact .nil
  | d :: ds, _, h => by
    cases h with
    | cons h1 h2 => exact .cons (Dt.up e d _ h1) (DtAll.up e ds _ h2)
theorem DtKv.up (e : Same H H') : ∀ (ds : List (PyData × PyData)) (vs : List (Key × V)), DtKv K H vs ds → DtKv K H' vs ds
  | [], _, h => by cases h; exact .nil
  | (_, d) :: ds, _, h => by
    cases h with
    | int h1 h2 => exact .int (Dt.up e d _ h1) (DtKv.up e ds _ h2)
    | str h1 h2 => exact .str (Dt.up e d _ h1) (DtKv.up e ds _ h2)
end
end

/-! ### a dict within a list wants to know that the list is not the table of modules: where there is a dict, no list is told -/
mutual
def noList : PyData → Bool
  | .list _ => false
  | .tuple xs => noListAll xs
  | .dict kvs => noListKv kvs
  | _ => true
def noListAll : List PyData → Bool
  | [] => true
  | d :: ds => noList d && noListAll ds
def noListKv : List (PyData × PyData) → Bool
  | [] => true
  | (_, d) :: ds => noList d && noListKv ds
end
def tells (d : PyData) : Bool := !d.hasDict || noList d

def plain1 : PyData → Bool
  | .none | .bool _ | .int _ | .str _ => true
  | _ => false
theorem reads_plain {h : Heap} {v : Value} {as : List Addr} : ∀ {d : PyData}, plain1 d = true → Reads h v d as → as = []
  | .none, _, r => by cases r; rfl
  | .bool _, _, r => by cases r; rfl
  | .int _, _, r => by cases r; rfl
  | .str _, _, r => by cases r; rfl
theorem readsAll_plain {h : Heap} : ∀ {ds : List PyData} {vs : List Value} {as : List Addr}, ds.all plain1 = true → ReadsAll h vs ds as → as = []
  | [], _, _, _, r => by cases r; rfl
  | d :: ds, _, _, p, r => by
    rw [List.all_cons, Bool.and_eq_true] at p
    cases r with
    | cons r1 r2 => rw [reads_plain p.1 r1, readsAll_plain p.2 r2]; rfl
theorem keys_plain {K : PySem.W.Frag} {H : Hp} : ∀ {ds : List (PyData × PyData)} {kvs : List (Key × V)}, DtKv K H kvs ds → (ds.map (·.1)).all plain1 = true
  | _, _, .nil => rfl
  | _, _, .int _ h => by rw [List.map_cons, List.all_cons, keys_plain h]; rfl
  | _, _, .str _ h => by rw [List.map_cons, List.all_cons, keys_plain h]; rfl

section
variable {X : Cx} {pins : List (Addr × Obj)} {σ : L2.St} {H : Hp} {s : Shared}
mutual
theorem Dt.reads (I : Inv X pins σ H s) : ∀ (d : PyData) (v : V) (u : Value), Dt X.K H v d → RelV v u → ∃ as, Reads s.heap u d as
  | .none, _, _, h, r => by
    cases h; cases r
    exact ⟨_, .none⟩
  | .bool b, _, _, h, r => by
    cases h; cases r
    exact ⟨_, .bool b⟩
  | .int i, _, _, h, r => by
    cases h
    obtain ⟨t, rfl⟩ := r
    exact ⟨_, .int i t⟩
  | .str x, _, _, h, r => by
    cases h
    obtain ⟨t, rfl⟩ := r
    exact ⟨_, .str x t⟩
  | .list ds, _, _, h, r => by
    cases h with
    | lst hs ha =>
      cases r
      obtain ⟨its, rv, ⟨o, n, ho, hc, _, hd⟩, _⟩ := I.list hs
      obtain ⟨as, q⟩ := DtAll.reads I ds _ its ha rv
      exact ⟨_, .list ho hc hd q⟩
  | .tuple ds, _, _, h, r => by
    cases h with
    | tup hs ha =>
      cases r
      obtain ⟨its, rv, ⟨o, ho, hc, n, hd⟩, _⟩ := I.tuple hs
      obtain ⟨as, q⟩ := DtAll.reads I ds _ its ha rv
      exact ⟨_, .tuple ho hc hd q⟩
  | .dict ds, _, _, h, r => by
    cases h with
    | dct hs ha =>
      cases r
      obtain ⟨_, _, vs, rv, o, es, ep, ho, hx, hd, _, hp, _⟩ := dk_rd I.hok hs
      obtain ⟨as, bs, q1, q2⟩ := DtKv.reads I ds _ vs es.toList ha rv hp
      exact ⟨_, .dict ho hx.1 hd q1 q2⟩
theorem DtAll.reads (I : Inv X pins σ H s) : ∀ (ds : List PyData) (vs : List V) (us : List Value), DtAll X.K H vs ds → Vals vs us → ∃ as, ReadsAll s.heap us ds as
  | [], _, _, h, r => by
    cases h; cases r
    exact ⟨_, .nil⟩
  | d :: ds, _, _, h, r => by
    cases h with
    | cons h1 h2 =>
      cases r with
      | cons r1 r2 =>
        obtain ⟨as, q1⟩ := Dt.reads I d _ _ h1 r1
        obtain ⟨bs, q2⟩ := DtAll.reads I ds _ _ h2 r2
        exact ⟨_, .cons q1 q2⟩
theorem DtKv.reads (I : Inv X pins σ H s) : ∀ (ds : List (PyData × PyData)) (kvs : List (Key × V)) (vs : List (Key × Value)) (es : List DictEntry), DtKv X.K H kvs ds → KV kvs vs → Pairs (mixKind X.prog X.w) es vs →
    ∃ as bs, ReadsAll s.heap (es.map (·.key)) (ds.map (·.1)) as ∧ ReadsAll s.heap (es.map (·.val)) (ds.map (·.2)) bs
  | [], _, _, _, h, r, p => by
    cases h; cases r; cases p
    exact ⟨_, _, .nil, .nil⟩
  | (_, d) :: ds, _, _, _, h, r, p => by
    cases r with
    | nil => cases h
    | cons r1 r2 =>
      cases p with
      | cons p1 p2 p3 =>
        have p1' : keyIs _ _ = true := p1
        obtain ⟨e1, e2⟩ := r1
        rw [← p2] at e2
        rw [← e1] at p1'
        cases h with
        | int h1 h2 =>
          obtain ⟨as, q1⟩ := Dt.reads I d _ _ h1 e2
          obtain ⟨bs, cs, q2, q3⟩ := DtKv.reads I ds _ _ _ h2 r2 p3
          rcases keyIs_shape p1' with ⟨i, t, z1, z2⟩ | ⟨i, t, z1, z2⟩
          · cases z1
            exact ⟨_, _, .cons (d := .int _) (as := []) (by show Reads s.heap (DictEntry.key _) _ _; rw [z2]; exact .int _ t) q2, .cons q1 q3⟩
          · cases z1
        | str h1 h2 =>
          obtain ⟨as, q1⟩ := Dt.reads I d _ _ h1 e2
          obtain ⟨bs, cs, q2, q3⟩ := DtKv.reads I ds _ _ _ h2 r2 p3
          rcases keyIs_shape p1' with ⟨i, t, z1, z2⟩ | ⟨i, t, z1, z2⟩
          · cases z1
          · cases z1
            exact ⟨_, _, .cons (d := .str _) (as := []) (by show Reads s.heap (DictEntry.key _) _ _; rw [z2]; exact .str _ t) q2, .cons q1 q3⟩
end
mutual
theorem as_ok (I : Inv X pins σ H s) : ∀ (d : PyData) (v : V) (u : Value) (as : List Addr), Dt X.K H v d → RelV v u → Reads s.heap u d as → noList d = true → sysModules ∉ as
  | .none, _, _, _, _, _, r, _ => by cases r; simp
  | .bool b, _, _, _, _, _, r, _ => by cases r; simp
  | .int i, _, _, _, _, _, r, _ => by cases r; simp
  | .str x, _, _, _, _, _, r, _ => by cases r; simp
  | .list ds, _, _, _, _, _, _, t => by cases t
  | .tuple ds, _, _, _, h, ru, r, t => by
    cases h with
    | tup hs ha =>
      cases ru
      obtain ⟨its, rv, ⟨o, ho, hc, n, hd⟩, _⟩ := I.tuple hs
      cases r with
      | tuple h1 h2 h3 h4 =>
        rw [ho] at h1
        cases h1
        rw [hd] at h3
        cases h3
        exact as_okAll I ds _ _ _ ha rv (by simpa using h4) t
  | .dict ds, _, _, _, h, ru, r, t => by
    cases h with
    | dct hs ha =>
      cases ru
      obtain ⟨_, hx, vs, rv, o, es, ep, ho, _, hd, _, hp, _⟩ := dk_rd I.hok hs
      cases r with
      | dict h1 h2 h3 h4 h5 =>
        rw [ho] at h1
        cases h1
        rw [hd] at h3
        cases h3
        have e1 := readsAll_plain (keys_plain ha) h4
        subst e1
        have e2 := as_okKv I ds _ vs _ _ ha rv hp h5 t
        intro hm
        rcases List.mem_append.mp hm with hm | hm
        · have e3 := List.mem_singleton.mp hm
          rw [← e3] at hx
          simp at hx
        · exact e2 hm
theorem as_okAll (I : Inv X pins σ H s) : ∀ (ds : List PyData) (vs : List V) (us : List Value) (as : List Addr), DtAll X.K H vs ds → Vals vs us → ReadsAll s.heap us ds as → noListAll ds = true → sysModules ∉ as
  | [], _, _, _, _, _, r, _ => by cases r; simp
  | d :: ds, _, _, _, h, rv, r, t => by
    have t : (noList d && noListAll ds) = true := t
    rw [Bool.and_eq_true] at t
    cases h with
    | cons h1 h2 =>
      cases rv with
      | cons r1 r2 =>
        cases r with
        | cons q1 q2 =>
          intro hm
          rcases List.mem_append.mp hm with hm | hm
          · exact as_ok I d _ _ _ h1 r1 q1 t.1 hm
          · exact as_okAll I ds _ _ _ h2 r2 q2 t.2 hm
theorem as_okKv (I : Inv X pins σ H s) : ∀ (ds : List (PyData × PyData)) (kvs : List (Key × V)) (vs : List (Key × Value)) (es : List DictEntry) (bs : List Addr), DtKv X.K H kvs ds → KV kvs vs → Pairs (mixKind X.prog X.w) es vs →
    ReadsAll s.heap (es.map (·.val)) (ds.map (·.2)) bs → noListKv ds = true → sysModules ∉ bs
  | [], _, _, _, _, h, rv, p, r, _ => by cases h; cases rv; cases p; cases r; simp
  | (_, d) :: ds, _, _, _, _, h, rv, p, r, tt => by
    have t : (noList d && noListKv ds) = true := tt
    clear tt
    rw [Bool.and_eq_true] at t
    cases rv with
    | nil => cases h
    | cons r1 r2 =>
      cases p with
      | cons p1 p2 p3 =>
        obtain ⟨e1, e2⟩ := r1
        rw [← p2] at e2
        cases r with
        | cons q1 q2 =>
          cases h with
          | int h1 h2 =>
            intro hm
            rcases List.mem_append.mp hm with hm | hm
            · exact as_ok I d _ _ _ h1 e2 q1 t.1 hm
            · exact as_okKv I ds _ _ _ _ h2 r2 p3 q2 t.2 hm
          | str h1 h2 =>
            intro hm
            rcases List.mem_append.mp hm with hm | hm
            · exact as_ok I d _ _ _ h1 e2 q1 t.1 hm
            · exact as_okKv I ds _ _ _ _ h2 r2 p3 q2 t.2 hm
end
theorem sys_not {a : Addr} {d : PyData} {as : List Addr} (I : Inv X pins σ H s) (h : Dt X.K H (.ref a) d) (r : Reads s.heap (.ref a) d as) (t : tells d = true) : d.hasDict = true → sysModules ∉ as := by
  intro hd
  unfold tells at t
  rw [hd] at t
  exact as_ok I d _ _ _ h rfl r t
end

/-- repr(x), x any data -/
def rRepr (K : PySem.W.Frag) : List V → Hp → VK → Prop := fun xs H Q => ∃ v d, xs = [v] ∧ Dt K H v d ∧ tells d = true ∧ d.showable = true ∧ d.depth ≤ 60 ∧ d.shown.length ≤ sizeLine ∧ Q (.str d.shown) H
theorem cr_repr {X : Cx} (hg : X.A.guards = some []) (hu : X.A.units + 64 < cLine) : CallR X (.builtin "repr") (rRepr X.K) := by
  intro pins s σ H xs us Q I r h
  obtain ⟨v, d, rfl, hd, ht, hs, hz, hl, q⟩ := h
  obtain ⟨u, rfl, ru⟩ := vals1 r
  obtain ⟨as, rd⟩ := Dt.reads I d v u hd ru
  cases hd with
  | non =>
    cases ru
    exact PySem.P.repr_of_none ⟨.str (PyData.none).shown, H, I.tok _, ⟨_, rfl⟩, q⟩
  | bl b =>
    cases ru
    exact PySem.P.repr_of_bool ⟨.str (if b then "True" else "False"), H, I.tok _, ⟨_, by cases b <;> rfl⟩, q⟩
  | int i =>
    obtain ⟨t, rfl⟩ := ru
    exact PySem.P.repr_of_int (by simpa [PyData.showable] using hs) ⟨.str (PyData.int i).shown, H, I.tok _, ⟨_, rfl⟩, q⟩
  | str x =>
    obtain ⟨t, rfl⟩ := ru
    exact PySem.P.repr_of_str ⟨.str (PyData.str x).shown, H, I.tok _, ⟨_, rfl⟩, q⟩ hl
  | _ =>
    cases ru
    refine repr_of_reads' rd hs (sys_not I (by first | exact .lst (by assumption) (by assumption) | exact .tup (by assumption) (by assumption) | exact .dct (by assumption) (by assumption)) rd ht) hg (by omega) (fun _ _ e => e) (fun h' u tk hk => ?_) hl
    exact ⟨.str _, H, I.kept hk, ⟨u, rfl⟩, q⟩
end Nv

set_option Elab.async false
set_option linter.all false
set_option maxRecDepth 100000
set_option maxHeartbeats 4000000
/-! NvE: the end of a law whose def is promised by FnG. -/
namespace Nv
open PySem L2 PyProof.Rows PySem.Spec

/-- the script alone is tracked, and that as a thing that is known -/
def frozen (a : Addr) (vs : List Value) (ns : List Int) : Hp := fun b => if b = a then some (.frz { cls := .type "list", data := .seq vs.toArray } (.lst (ns.map V.int))) else none

section
variable {P : Program} {w : World} {K : PySem.W.Frag} {mg mb : Str → Option Value} {k : Nat} {fa a : Addr} {fd : FuncData} {x : Str} {sp : Sp} {s₁ : Shared} {vs : List Value} {ns : List Int}

/-- from a heap in which at most the script is tracked, and that frozen -/
theorem law_core {H : Hp} (KX : K.In s₁.heap) (hns : s₁.heap.Ns mainGlobals mg) (hb : s₁.heap.Ns builtinsNs mb) (hbb : ∀ x : Str, x ≠ "__name__" → mb x = bootBuiltins x) (hlim : s₁.heap.NoLimit) (hg : s₁.gens = #[])
    (ha : s₁.heap.get? a = some { cls := .type "list", data := .seq vs.toArray }) (hr : Room k callerA)
    (F : ∀ base : Heap, K.In base → base.Ns mainGlobals mg → FnG P w K mg base k fa fd [x] sp) (hbind : ∀ (s : Shared) (u : Value), BindsTo s fd ⟨[u], []⟩ [(x, u)])
    (hsp : sp [.ref a] H (fun v _ => v = .bl true) E0) (hok : HOk P w H s₁.heap) (hA : ∀ b o, H b = some o → b = a ∧ ∃ ob xs, o = .frz ob (.lst xs)) (hK : ∀ o, H a = some o → K.lookup a = none) :
    codeAny (model P w) callerA (.call (.ref fa) ⟨[.ref a], []⟩) (fun r s' => r = .ok (.ret (.bool true)) ∧ OldK s₁.heap s'.heap ∧ s'.os = s₁.os ∧ AllBare s'.gens) s₁ := by
  have offDict : ∀ {b : Addr} {o : Obj} {es : Array DictEntry} {ep : Nat}, s₁.heap.get? b = some o → o.data = .dict es ep → (hidT s₁.heap H).get? b = some o := by
    intro b o es ep e d
    refine hidT_get e ?_
    cases q : H b with
    | none => rfl
    | some u =>
      obtain ⟨rfl, _⟩ := hA b u q
      rw [ha] at e
      cases e
      cases d
  have ns' : ∀ {b : Addr} {m : Str → Option Value}, s₁.heap.Ns b m → (hidT s₁.heap H).Ns b m := by
    rintro b m ⟨o, es, ep, e, d, r⟩
    exact ⟨o, es, ep, offDict e d, d, r⟩
  have kin : K.In (hidT s₁.heap H) := by
    intro b o e
    refine hidT_get (KX b o e) ?_
    cases q : H b with
    | none => rfl
    | some u =>
      obtain ⟨rfl, _⟩ := hA b u q
      rw [hK u q] at e
      cases e
  have md : Mod K mg (hidT s₁.heap H) := by
    obtain ⟨mc, h1, h2⟩ := hlim
    exact ⟨kin, ns' hns, ⟨mb, ns' hb, hbb⟩, mc, ns' h1, h2⟩
  have e0 : Env0 P w K mg (hidT s₁.heap H) callerA [] s₁ H :=
    ⟨rfl, md, fun b o e => of_hidT e, Nat.le_of_eq (hidT_size _ _), trivial, fun b hb => absurd hb List.not_mem_nil, hok, .of_eq hg⟩
  refine codeAny_mono ((F _ kin (ns' hns)).run callerA [] s₁ H ⟨[.ref a], []⟩ [.ref a] [.ref a] _ _ rfl hr e0 (hbind s₁ (.ref a)) (.cons rfl .nil) hsp) fun r s' h => ?_
  cases r with
  | error e => exact h.elim
  | ok fl =>
    cases fl with
    | next => exact h.elim
    | brk => exact h.elim
    | cont => exact h.elim
    | ret u =>
      obtain ⟨v, H', os, bare, un, hok', r', q⟩ := h
      have qv : v = .bl true := q
      subst qv
      have qu : u = Value.bool true := r'
      subst qu
      refine ⟨rfl, OldK.of_keep ?_, os, bare⟩
      intro b o e
      cases z : H b with
      | none => exact un.keep b o e z List.not_mem_nil List.not_mem_nil
      | some u =>
        obtain ⟨_, ob, xs, rfl⟩ := hA b u z
        have e1 := (hok b _ z).1
        have e2 := (hok' b _ (un.frzs b ob _ z)).1
        rw [e] at e1
        cases e1
        exact e2

theorem law_g (KX : K.In s₁.heap) (hns : s₁.heap.Ns mainGlobals mg) (hb : s₁.heap.Ns builtinsNs mb) (hbb : ∀ x : Str, x ≠ "__name__" → mb x = bootBuiltins x) (hlim : s₁.heap.NoLimit) (hg : s₁.gens = #[])
    (ha : s₁.heap.get? a = some { cls := .type "list", data := .seq vs.toArray }) (hi : IntsAre vs ns) (hl : ns.length ≤ sizeLine) (hr : Room k callerA)
    (F : ∀ base : Heap, K.In base → base.Ns mainGlobals mg → FnG P w K mg base k fa fd [x] sp) (hbind : ∀ (s : Shared) (u : Value), BindsTo s fd ⟨[u], []⟩ [(x, u)])
    (hsp : ∀ H : Hp, SqL K H a (ns.map V.int) → sp [.ref a] H (fun v _ => v = .bl true) E0) :
    codeAny (model P w) callerA (.call (.ref fa) ⟨[.ref a], []⟩) (fun r s' => r = .ok (.ret (.bool true)) ∧ OldK s₁.heap s'.heap ∧ s'.os = s₁.os ∧ AllBare s'.gens) s₁ := by
  have rv := vals_ints hi
  have lv := hi.length
  cases hk : K.lookup a with
  | some o =>
    have e := KX a o hk
    rw [ha] at e
    cases e
    have sq : SqL K (fun _ => none) a (ns.map V.int) := .inr ⟨_, vs.toArray, _, hk, rfl, rfl, rfl, by rw [List.size_toArray, lv]; exact hl, by simpa using rv⟩
    exact law_core KX hns hb hbb hlim hg ha hr F hbind (hsp _ sq) (fun b o z => nomatch z) (fun b o z => nomatch z) fun o z => nomatch z
  | none =>
    have at_a : frozen a vs ns a = some (.frz { cls := .type "list", data := .seq vs.toArray } (.lst (ns.map V.int))) := if_pos rfl
    have off : ∀ b o, frozen a vs ns b = some o → b = a ∧ o = .frz { cls := .type "list", data := .seq vs.toArray } (.lst (ns.map V.int)) := by
      intro b o z
      by_cases hb : b = a
      · subst hb
        rw [at_a] at z
        exact ⟨rfl, (Option.some.inj z).symm⟩
      · rw [show frozen a vs ns b = none from if_neg hb] at z
        cases z
    refine law_core (H := frozen a vs ns) KX hns hb hbb hlim hg ha hr F hbind (hsp _ (.inl (.inr ⟨_, at_a⟩))) (fun b o z => ?_) (fun b o z => ?_) fun _ _ => hk
    · obtain ⟨rfl, rfl⟩ := off b o z
      exact ⟨ha, by rw [List.length_map]; exact hl, vs, _, rv, ha⟩
    · obtain ⟨rfl, rfl⟩ := off b o z
      exact ⟨rfl, _, _, rfl⟩
end

theorem walk_g {l : PySem.W.OpenLaw} {n k : Nat} {q : Program} {loose : List Str} {XP : (Str → Option Value) → Heap → Prop} {YP : World → Heap → Prop} {d : DefRec} {K : Params → PySem.W.Frag} {sp : PySem.W.Frag → Sp} {x : Str}
    (hn : l.most = some n) (hn2 : n ≤ sizeLine) (hdf : d.params.defaults = []) (hr : Room k callerA) (hY : ∀ (w : World) (h : Heap), YP w h → (K w.params).In h)
    (F : ∀ (w : World) (mg : Str → Option Value) (fa : Addr) (h : Heap), (K w.params).In h → h.Ns mainGlobals mg → mg d.name = some (.ref fa) →
      ∃ fd : FuncData, (∀ (s : Shared) (u : Value), BindsTo s fd ⟨[u], []⟩ [(x, u)]) ∧ ∀ base : Heap, (K w.params).In base → base.Ns mainGlobals mg → FnG l.prog w (K w.params) mg base k fa fd [x] (sp (K w.params)))
    (hsp : ∀ (K : PySem.W.Frag) (H : Hp) (a : Addr) (ns : List Int), ns.length ≤ n → SqL K H a (ns.map V.int) → sp K [.ref a] H (fun v _ => v = .bl true) E0) :
    PySem.W.WalkO q loose XP YP l.row.toRowW d [] (fun f vs => PySem.call f vs) := by
  refine Att.attach_call hn hdf ?_
  intro w s₀ s₁ mg mb fa o pm cd doc a vs ns G Y ho hd hcd hmg hobj hints hlen hg
  obtain ⟨fd, hb, hF⟩ := F w mg fa _ (hY w _ Y) G.T.g hmg
  exact law_g (hY w _ Y) G.T.g G.T.b G.T.builtins G.T.nolimit hg hobj hints (Nat.le_trans hlen hn2) hr hF hb fun H hS => hsp _ H a ns hlen hS
end Nv

set_option Elab.async false
set_option linter.all false
set_option maxRecDepth 100000
set_option maxHeartbeats 4000000
/-! NvD: defs told by data. D: what a value is worth; Sl: what a slot holds (data that stays; a list or a dict of one's own, that changes; the pen that draws).
Ev, EvT, EvA, EvI: expressions, tests, arguments, what is walked; Run: statements. Each is a weakest precondition over the slots' data: no heap is seen outside this file. -/
namespace Nv
open PySem L2 PyProof.Rows PySem.Spec

/-! ### data -/
inductive D where
  | non | bl (b : Bool) | int (i : Int) | str (x : Str) | lst (xs : List D) | tup (xs : List D) | dct (kvs : List (Key × D)) | ins (c : Nat) (fs : List (Str × D)) | ty (n : String)
  /-- a list that is known from without (the script) -/
  | frl (xs : List D)

structure Wd where
  K : PySem.W.Frag
  cl : Nat → Addr

mutual
/-- the value v is the data d, by what G tells -/
inductive Rp (W : Wd) (G : Hp) : V → D → Prop
  | non : Rp W G .non .non
  | bl (b : Bool) : Rp W G (.bl b) (.bl b)
  | int (i : Int) : Rp W G (.int i) (.int i)
  | str (x : Str) : Rp W G (.str x) (.str x)
  | ty (n : String) : Rp W G (.ty n) (.ty n)
  | lst {a : Addr} {xs : List V} {ds : List D} : G a = some (.lst xs) → RpAll W G xs ds → Rp W G (.ref a) (.lst ds)
  | tup {a : Addr} {xs : List V} {ds : List D} : SqT W.K G a xs → RpAll W G xs ds → Rp W G (.ref a) (.tup ds)
  | dct {a : Addr} {kvs : List (Key × V)} {ds : List (Key × D)} : Rd G a (.dK kvs) → kvs.map (·.1) = ds.map (·.1) → RpAll W G (kvs.map (·.2)) (ds.map (·.2)) → Rp W G (.ref a) (.dct ds)
  | ins {a dx : Addr} {c : Nat} {fs : List (Str × V)} {ds : List (Str × D)} : G a = some (.ins (W.cl c) dx fs) → fs.map (·.1) = ds.map (·.1) → RpAll W G (fs.map (·.2)) (ds.map (·.2)) → Rp W G (.ref a) (.ins c ds)
  | frl {a : Addr} {xs : List V} {ds : List D} : SqL W.K G a xs → RpAll W G xs ds → Rp W G (.ref a) (.frl ds)
inductive RpAll (W : Wd) (G : Hp) : List V → List D → Prop
  | nil : RpAll W G [] []
  | cons {v : V} {vs : List V} {d : D} {ds : List D} : Rp W G v d → RpAll W G vs ds → RpAll W G (v :: vs) (d :: ds)
end

section
variable {W : Wd} {G G' H : Hp}
mutual
theorem Rp.up (e : Same G G') : ∀ {v : V} {d : D}, Rp W G v d → Rp W G' v d
  | _, _, .non => .non
  | _, _, .bl b => .bl b
  | _, _, .int i => .int i
  | _, _, .str x => .str x
  | _, _, .ty n => .ty n
  | _, _, .lst h k => .lst (e _ _ h) (RpAll.up e k)
  | _, _, .tup h k => .tup (Same.tup e h) (RpAll.up e k)
  | _, _, .dct h q k => .dct (Same.rd e h) q (RpAll.up e k)
  | _, _, .ins h q k => .ins (e _ _ h) q (RpAll.up e k)
  | _, _, .frl h k => .frl (Same.lst e h) (RpAll.up e k)
theorem RpAll.up (e : Same G G') : ∀ {vs : List V} {ds : List D}, RpAll W G vs ds → RpAll W G' vs ds
  | _, _, .nil => .nil
  | _, _, .cons h k => .cons (Rp.up e h) (RpAll.up e k)
end
theorem RpAll.length : ∀ {vs : List V} {ds : List D}, RpAll W G vs ds → vs.length = ds.length
  | _, _, .nil => rfl
  | _, _, .cons _ k => congrArg Nat.succ k.length
theorem RpAll.append : ∀ {vs ws : List V} {ds es : List D}, RpAll W G vs ds → RpAll W G ws es → RpAll W G (vs ++ ws) (ds ++ es)
  | _, _, _, _, .nil, k => k
  | _, _, _, _, .cons h k, l => .cons h (k.append l)
theorem RpAll.get : ∀ {vs : List V} {ds : List D} {i : Nat} {d : D}, RpAll W G vs ds → ds[i]? = some d → ∃ v, vs[i]? = some v ∧ Rp W G v d
  | _, _, _, _, .nil, h => by simp at h
  | _, _, 0, _, .cons h k, e => by
    simp at e
    subst e
    exact ⟨_, rfl, h⟩
  | _, _, i + 1, _, .cons h k, e => by
    obtain ⟨v, q, r⟩ := k.get (i := i) (by simpa using e)
    exact ⟨v, by simpa using q, r⟩
theorem RpAll.take : ∀ {vs : List V} {ds : List D} (n : Nat), RpAll W G vs ds → RpAll W G (vs.take n) (ds.take n)
  | _, _, 0, _ => .nil
  | _, _, _ + 1, .nil => .nil
  | _, _, n + 1, .cons h k => .cons h (k.take n)
theorem RpAll.drop : ∀ {vs : List V} {ds : List D} (n : Nat), RpAll W G vs ds → RpAll W G (vs.drop n) (ds.drop n)
  | _, _, 0, h => h
  | _, _, _ + 1, .nil => .nil
  | _, _, n + 1, .cons h k => k.drop n
theorem RpAll.ints : ∀ (ns : List Int), RpAll W G (ns.map V.int) (ns.map D.int)
  | [] => .nil
  | n :: ns => .cons (.int n) (RpAll.ints ns)
theorem RpAll.reverse : ∀ {vs : List V} {ds : List D}, RpAll W G vs ds → RpAll W G vs.reverse ds.reverse
  | _, _, .nil => .nil
  | _, _, .cons h k => by
    rw [List.reverse_cons, List.reverse_cons]
    exact k.reverse.append (.cons h .nil)
theorem RpAll.set {x : V} {d : D} (r : Rp W G x d) : ∀ {vs : List V} {ds : List D} (i : Nat), RpAll W G vs ds → RpAll W G (vs.set i x) (ds.set i d)
  | _, _, _, .nil => .nil
  | _, _, 0, .cons _ k => .cons r k
  | _, _, i + 1, .cons h k => .cons h (RpAll.set r i k)

theorem Rp.non_inv {v : V} (h : Rp W G v .non) : v = .non := by cases h; rfl
theorem Rp.bl_inv {v : V} {b : Bool} (h : Rp W G v (.bl b)) : v = .bl b := by cases h; rfl
theorem Rp.int_inv {v : V} {i : Int} (h : Rp W G v (.int i)) : v = .int i := by cases h; rfl
theorem Rp.str_inv {v : V} {x : Str} (h : Rp W G v (.str x)) : v = .str x := by cases h; rfl
theorem Rp.lst_inv {v : V} {ds : List D} (h : Rp W G v (.lst ds)) : ∃ a xs, v = .ref a ∧ G a = some (.lst xs) ∧ RpAll W G xs ds := by
  cases h with
  | lst h k => exact ⟨_, _, rfl, h, k⟩
theorem Rp.frl_inv {v : V} {ds : List D} (h : Rp W G v (.frl ds)) : ∃ a xs, v = .ref a ∧ SqL W.K G a xs ∧ RpAll W G xs ds := by
  cases h with
  | frl h k => exact ⟨_, _, rfl, h, k⟩
theorem Rp.tup_inv {v : V} {ds : List D} (h : Rp W G v (.tup ds)) : ∃ a xs, v = .ref a ∧ SqT W.K G a xs ∧ RpAll W G xs ds := by
  cases h with
  | tup h k => exact ⟨_, _, rfl, h, k⟩
theorem Rp.dct_inv {v : V} {ds : List (Key × D)} (h : Rp W G v (.dct ds)) : ∃ a kvs, v = .ref a ∧ Rd G a (.dK kvs) ∧ kvs.map (·.1) = ds.map (·.1) ∧ RpAll W G (kvs.map (·.2)) (ds.map (·.2)) := by
  cases h with
  | dct h q k => exact ⟨_, _, rfl, h, q, k⟩
end

/-! ### slots -/
inductive Sl where
  | no
  | d (x : D)
  /-- a list of one's own, that changes; pl: one that the caller handed in -/
  | ol (xs : List D) | pl (xs : List D)
  /-- a dict of one's own -/
  | od (kvs : List (Key × D))
  | pd (kvs : List (Key × D))
def Sl.owned : Sl → Bool
  | .no => false
  | .d _ => false
  | _ => true
def Sl.pinned : Sl → Bool
  | .pl _ => true
  | .pd _ => true
  | _ => false
def OkS (W : Wd) (G H : Hp) (ov : Option (Option V)) : Sl → Prop
  | .no => True
  | .d x => ∃ v, ov = some (some v) ∧ Rp W G v x
  | .ol xs => ∃ l vs, ov = some (some (.ref l)) ∧ G l = none ∧ H l = some (.lst vs) ∧ RpAll W G vs xs
  | .pl xs => ∃ l vs, ov = some (some (.ref l)) ∧ G l = none ∧ H l = some (.lst vs) ∧ RpAll W G vs xs
  | .od kvs => ∃ l vs, ov = some (some (.ref l)) ∧ G l = none ∧ H l = some (.dK vs) ∧ vs.map (·.1) = kvs.map (·.1) ∧ RpAll W G (vs.map (·.2)) (kvs.map (·.2))
  | .pd kvs => ∃ l vs, ov = some (some (.ref l)) ∧ G l = none ∧ H l = some (.dK vs) ∧ vs.map (·.1) = kvs.map (·.1) ∧ RpAll W G (vs.map (·.2)) (kvs.map (·.2))
/-- the addresses of one's own -/
def own (σ : L2.St) (env : List Sl) (l : Addr) : Prop := ∃ (i : Nat) (s : Sl), env[i]? = some s ∧ s.owned = true ∧ σ[i]? = some (some (.ref l))

structure St (W : Wd) (G H : Hp) (σ : L2.St) (env : List Sl) : Prop where
  gh : Same G H
  len : σ.length = env.length
  ok : ∀ (i : Nat) (s : Sl), env[i]? = some s → OkS W G H σ[i]? s
  ds : ∀ (i j : Nat) (s t : Sl) (l : Addr), env[i]? = some s → s.owned = true → σ[i]? = some (some (.ref l)) → env[j]? = some t → t.owned = true → σ[j]? = some (some (.ref l)) → i = j
/-- what happens between two states -/
structure Tr (σ : L2.St) (env : List Sl) (G H : Hp) (σ' : L2.St) (env' : List Sl) (G' H' : Hp) : Prop where
  gg : Same G G'
  fr : ∀ b o, ¬ own σ env b → H b = some o → H' b = some o
  nw : ∀ b, ¬ own σ env b → H b ≠ none → G b = none → G' b = none
  ow : ∀ b, own σ' env' b → own σ env b ∨ H b = none
  kp : ∀ b, H b ≠ none → H' b ≠ none
  pn : ∀ (i : Nat) (s : Sl), env[i]? = some s → s.pinned = true → σ'[i]? = σ[i]? ∧ ∃ s', env'[i]? = some s' ∧ s'.pinned = true

theorem Sl.pinned_owned {s : Sl} (h : s.pinned = true) : s.owned = true := by
  cases s <;> first | rfl | cases h

section
variable {W : Wd} {G H G1 H1 G2 H2 : Hp} {σ σ1 σ2 : L2.St} {env env1 env2 : List Sl}
theorem OkS.there {ov : Option (Option V)} {s : Sl} {l : Addr} (h : OkS W G H ov s) (ho : s.owned = true) (e : ov = some (some (.ref l))) : G l = none ∧ ∃ o, H l = some o := by
  cases s with
  | no => cases ho
  | d x => cases ho
  | ol xs =>
    obtain ⟨m, vs, e1, g, h, _⟩ := h
    rw [e] at e1
    cases e1
    exact ⟨g, _, h⟩
  | pl xs =>
    obtain ⟨m, vs, e1, g, h, _⟩ := h
    rw [e] at e1
    cases e1
    exact ⟨g, _, h⟩
  | od kvs =>
    obtain ⟨m, vs, e1, g, h, _⟩ := h
    rw [e] at e1
    cases e1
    exact ⟨g, _, h⟩
  | pd kvs =>
    obtain ⟨m, vs, e1, g, h, _⟩ := h
    rw [e] at e1
    cases e1
    exact ⟨g, _, h⟩
theorem St.own_at (S : St W G H σ env) {l : Addr} (h : own σ env l) : G l = none ∧ ∃ o, H l = some o := by
  obtain ⟨i, s, e, ho, ev⟩ := h
  exact (S.ok i s e).there ho ev
theorem Tr.refl (S : St W G H σ env) : Tr σ env G H σ env G H :=
  ⟨Same.refl G, fun _ _ _ h => h, fun _ _ _ h => h, fun _ h => .inl h, fun _ h => h, fun i s e h => ⟨rfl, s, e, h⟩⟩
theorem Tr.trans (S : St W G H σ env) (a : Tr σ env G H σ1 env1 G1 H1) (b : Tr σ1 env1 G1 H1 σ2 env2 G2 H2) : Tr σ env G H σ2 env2 G2 H2 where
  gg := a.gg.trans b.gg
  fr := fun c o n h => b.fr c o (fun z => by
    rcases a.ow c z with z | z
    · exact n z
    · rw [h] at z
      cases z) (a.fr c o n h)
  nw := fun c m n h => b.nw c (fun z => (a.ow c z).elim m fun y => n y) (a.kp c n) (a.nw c m n h)
  ow := fun c h => by
    rcases b.ow c h with h | h
    · exact a.ow c h
    · refine .inr ?_
      cases q : H c with
      | none => rfl
      | some o => exact absurd h (a.kp c (by rw [q]; exact fun z => nomatch z))
  kp := fun c n => b.kp c (a.kp c n)
  pn := fun i s e h => by
    obtain ⟨e1, s1, f1, h1⟩ := a.pn i s e h
    obtain ⟨e2, s2, f2, h2⟩ := b.pn i s1 f1 h1
    exact ⟨e2.trans e1, s2, f2, h2⟩

/-- only new things come -/
structure Gr (G H G1 H1 : Hp) : Prop where
  gg : Same G G1
  gh : Same G1 H1
  hh : Same H H1
  nw : ∀ b, H b ≠ none → G b = none → G1 b = none
theorem Gr.refl (e : Same G H) : Gr G H G H := ⟨Same.refl G, e, Same.refl H, fun _ _ h => h⟩
theorem Gr.trans (a : Gr G H G1 H1) (b : Gr G1 H1 G2 H2) : Gr G H G2 H2 :=
  ⟨a.gg.trans b.gg, b.gh, a.hh.trans b.hh, fun c n h => b.nw c (fun z => n (a.hh.free z)) (a.nw c n h)⟩
theorem Gr.new {p : Addr} {o : HO} (e : Same G H) (hp : H p = none) : Gr G H (upd G p o) (upd H p o) where
  gg := fun b u h => by rw [upd_ne (ne_of_none h (e.free hp))]; exact h
  gh := fun b u h => by
    by_cases hb : b = p
    · subst hb
      rw [upd_same] at h ⊢
      exact h
    · rw [upd_ne hb] at h ⊢
      exact e b u h
  hh := fun b u h => by rw [upd_ne (ne_of_none h hp)]; exact h
  nw := fun b n h => by rw [upd_ne (fun z => n (by rw [z]; exact hp))]; exact h
theorem OkS.up {ov : Option (Option V)} {s : Sl} (g : Gr G H G1 H1) (h : OkS W G H ov s) : OkS W G1 H1 ov s := by
  cases s with
  | no => exact h
  | d x =>
    obtain ⟨v, e, r⟩ := h
    exact ⟨v, e, r.up g.gg⟩
  | ol xs =>
    obtain ⟨l, vs, e, a, b, r⟩ := h
    exact ⟨l, vs, e, g.nw l (by rw [b]; exact fun z => nomatch z) a, g.hh _ _ b, r.up g.gg⟩
  | pl xs =>
    obtain ⟨l, vs, e, a, b, r⟩ := h
    exact ⟨l, vs, e, g.nw l (by rw [b]; exact fun z => nomatch z) a, g.hh _ _ b, r.up g.gg⟩
  | od kvs =>
    obtain ⟨l, vs, e, a, b, q, r⟩ := h
    exact ⟨l, vs, e, g.nw l (by rw [b]; exact fun z => nomatch z) a, g.hh _ _ b, q, r.up g.gg⟩
  | pd kvs =>
    obtain ⟨l, vs, e, a, b, q, r⟩ := h
    exact ⟨l, vs, e, g.nw l (by rw [b]; exact fun z => nomatch z) a, g.hh _ _ b, q, r.up g.gg⟩
theorem St.up (S : St W G H σ env) (g : Gr G H G1 H1) : St W G1 H1 σ env := ⟨g.gh, S.len, fun i s e => (S.ok i s e).up g, S.ds⟩
theorem Tr.up (S : St W G H σ env) (g : Gr G H G1 H1) : Tr σ env G H σ env G1 H1 :=
  ⟨g.gg, fun b o _ h => g.hh b o h, fun b _ => g.nw b, fun _ h => .inl h, fun b n z => n (g.hh.free z), fun i s e h => ⟨rfl, s, e, h⟩⟩
/-- a slot takes data -/
theorem St.set (S : St W G H σ env) {j : Nat} {v : V} {d : D} (r : Rp W G v d) : St W G H (σ.set j (some v)) (env.set j (.d d)) where
  gh := S.gh
  len := by rw [List.length_set, List.length_set]; exact S.len
  ok := fun i s e => by
    by_cases h : j = i
    · subst h
      by_cases hl : j < env.length
      · rw [List.getElem?_set_self hl] at e
        cases e
        exact ⟨v, by rw [List.getElem?_set_self (by rw [S.len]; exact hl)], r⟩
      · rw [List.getElem?_eq_none (by rw [List.length_set]; omega)] at e
        cases e
    · rw [List.getElem?_set_ne h] at e
      rw [List.getElem?_set_ne h]
      exact S.ok i s e
  ds := fun i k s t l e1 o1 v1 e2 o2 v2 => by
    have off : ∀ {m : Nat} {u : Sl}, (env.set j (.d d))[m]? = some u → u.owned = true → j ≠ m := fun {m u} e o z => by
      subst z
      by_cases hl : j < env.length
      · rw [List.getElem?_set_self hl] at e
        cases e
        cases o
      · rw [List.getElem?_eq_none (by rw [List.length_set]; omega)] at e
        cases e
    have h1 := off e1 o1
    have h2 := off e2 o2
    rw [List.getElem?_set_ne h1] at e1 v1
    rw [List.getElem?_set_ne h2] at e2 v2
    exact S.ds i k s t l e1 o1 v1 e2 o2 v2
theorem own_set {j : Nat} {v : V} {d : D} {b : Addr} (h : own (σ.set j (some v)) (env.set j (.d d)) b) : own σ env b := by
  obtain ⟨i, s, e, o, ev⟩ := h
  have hj : j ≠ i := fun z => by
    subst z
    by_cases hl : j < env.length
    · rw [List.getElem?_set_self hl] at e
      cases e
      cases o
    · rw [List.getElem?_eq_none (by rw [List.length_set]; omega)] at e
      cases e
  rw [List.getElem?_set_ne hj] at e ev
  exact ⟨i, s, e, o, ev⟩
/-- the slot j may be stored over -/
def Free (env : List Sl) (j : Nat) : Prop := ∀ s, env[j]? = some s → s.pinned = false
theorem Tr.set (S : St W G H σ env) {j : Nat} {v : V} {d : D} (hf : Free env j) : Tr σ env G H (σ.set j (some v)) (env.set j (.d d)) G H where
  gg := Same.refl G
  fr := fun _ _ _ h => h
  nw := fun _ _ _ h => h
  ow := fun b h => .inl (own_set h)
  kp := fun _ h => h
  pn := fun i s e h => by
    have hj : j ≠ i := fun z => by
      subst z
      rw [hf s e] at h
      cases h
    rw [List.getElem?_set_ne hj, List.getElem?_set_ne hj]
    exact ⟨rfl, s, e, h⟩
/-- slots of which nothing is told may hold anything -/
theorem St.reslot (S : St W G H σ env) (hl : σ1.length = σ.length) (h : ∀ (i : Nat) (s : Sl), env[i]? = some s → (s = .no ∨ σ1[i]? = σ[i]?)) : St W G H σ1 env where
  gh := S.gh
  len := by rw [hl]; exact S.len
  ok := fun i s e => by
    rcases h i s e with q | q
    · subst q
      exact trivial
    · rw [q]
      exact S.ok i s e
  ds := fun i k s t l e1 o1 v1 e2 o2 v2 => by
    have q1 : σ1[i]? = σ[i]? := by
      rcases h i s e1 with q | q
      · subst q
        cases o1
      · exact q
    have q2 : σ1[k]? = σ[k]? := by
      rcases h k t e2 with q | q
      · subst q
        cases o2
      · exact q
    rw [q1] at v1
    rw [q2] at v2
    exact S.ds i k s t l e1 o1 v1 e2 o2 v2
theorem own_reslot (h : ∀ (i : Nat) (s : Sl), env[i]? = some s → (s = .no ∨ σ1[i]? = σ[i]?)) {b : Addr} (q : own σ1 env b) : own σ env b := by
  obtain ⟨i, s, e, o, ev⟩ := q
  rcases h i s e with z | z
  · subst z
    cases o
  · rw [z] at ev
    exact ⟨i, s, e, o, ev⟩
end

/-! ### what is told of expressions, tests, arguments, statements -/
def Ev (W : Wd) (te : TE) (env : List Sl) (R : D → List Sl → Prop) : Prop :=
  ∀ (G H : Hp) (σ : L2.St), St W G H σ env → ∀ Q : VK, (∀ v d G' H' env', St W G' H' σ env' → Tr σ env G H σ env' G' H' → Rp W G' v d → R d env' → Q v H') → te σ H Q
def EvT (W : Wd) (tt : TT) (env : List Sl) (R : Bool → List Sl → Prop) : Prop :=
  ∀ (G H : Hp) (σ : L2.St), St W G H σ env → ∀ Q : Bool → Hp → Prop, (∀ b G' H' env', St W G' H' σ env' → Tr σ env G H σ env' G' H' → R b env' → Q b H') → tt σ H Q
def EvA (W : Wd) (ta : TA) (env : List Sl) (R : List D → List Sl → Prop) : Prop :=
  ∀ (G H : Hp) (σ : L2.St), St W G H σ env → ∀ Q : List V → Hp → Prop, (∀ vs ds G' H' env', St W G' H' σ env' → Tr σ env G H σ env' G' H' → RpAll W G' vs ds → R ds env' → Q vs H') → ta σ H Q
/-- J goes through the data ds, whatever is new in the meantime -/
structure IsW (W : Wd) (J : It) (G : Hp) (ds : List D) : Prop where
  go : ∀ i G' H', Same G G' → Same G' H' → i < ds.length → J.go i H'
  stop : ∀ G' H', Same G G' → Same G' H' → J.stop ds.length H'
  yld : ∀ i G' H' x H'' d, Same G G' → Same G' H' → ds[i]? = some d → J.yld i H' x H'' → ∃ G'', Gr G' H' G'' H'' ∧ Rp W G'' x d
theorem IsW.up {W : Wd} {J : It} {G G1 : Hp} {ds : List D} (e : Same G G1) (h : IsW W J G ds) : IsW W J G1 ds :=
  ⟨fun i G' H' a b => h.go i G' H' (e.trans a) b, fun G' H' a b => h.stop G' H' (e.trans a) b, fun i G' H' x H'' d a b => h.yld i G' H' x H'' d (e.trans a) b⟩
def EvI (W : Wd) (wi : TI) (env : List Sl) (R : List D → List Sl → Prop) : Prop :=
  ∀ (G H : Hp) (σ : L2.St), St W G H σ env → ∀ Q : It → Hp → Prop, (∀ J ds G' H' env', St W G' H' σ env' → Tr σ env G H σ env' G' H' → IsW W J G' ds → R ds env' → Q J H') → wi σ H Q
structure Post where
  nx : List Sl → Prop
  rt : D → List Sl → Prop
  bk : List Sl → Prop := fun _ => False
  ct : List Sl → Prop := fun _ => False
def Run (W : Wd) (ts : TS) (env : List Sl) (P : Post) : Prop :=
  ∀ (G H : Hp) (σ : L2.St) (E : Ends), St W G H σ env →
    (∀ G' H' σ' env', St W G' H' σ' env' → Tr σ env G H σ' env' G' H' → P.nx env' → E.nx σ' H') →
    (∀ v d G' H' σ' env', St W G' H' σ' env' → Tr σ env G H σ' env' G' H' → Rp W G' v d → P.rt d env' → E.rt v H') →
    (∀ G' H' σ' env', St W G' H' σ' env' → Tr σ env G H σ' env' G' H' → P.bk env' → E.bk σ' H') →
    (∀ G' H' σ' env', St W G' H' σ' env' → Tr σ env G H σ' env' G' H' → P.ct env' → E.ct σ' H') → ts E σ H
/-- a target takes data -/
def Tg (W : Wd) (g : TG) (d : D) (env : List Sl) (R : List Sl → Prop) : Prop :=
  ∀ (G H : Hp) (σ : L2.St) (v : V), St W G H σ env → Rp W G v d → ∀ Q : L2.St → Hp → Prop,
    (∀ G' H' σ' env', St W G' H' σ' env' → Tr σ env G H σ' env' G' H' → R env' → Q σ' H') → g v σ H Q

section
variable {W : Wd} {env : List Sl} {ta tb te tx : TE} {t u : TT} {R : D → List Sl → Prop}

theorem Ev.mono {R' : D → List Sl → Prop} (h : Ev W te env R) (k : ∀ d e, R d e → R' d e) : Ev W te env R' := fun G H σ S Q q =>
  h G H σ S Q fun v d G' H' env' S' T r z => q v d G' H' env' S' T r (k d env' z)

/-! #### names, constants -/
theorem ev_var {i : Nat} {x : D} (h : env[i]? = some (.d x)) (k : R x env) : Ev W (tVar i) env R := fun G H σ S Q q => by
  obtain ⟨v, e, r⟩ := S.ok i _ h
  exact ⟨v, e, q v x G H env S (Tr.refl S) r k⟩
theorem ev_c {v : V} {x : D} (h : ∀ G, Rp W G v x) (k : R x env) : Ev W (tC v) env R := fun G H σ S Q q => q v x G H env S (Tr.refl S) (h G) k
theorem ev_int {i : Int} (k : R (.int i) env) : Ev W (tC (.int i)) env R := ev_c (fun _ => .int i) k
theorem ev_str {x : Str} (k : R (.str x) env) : Ev W (tC (.str x)) env R := ev_c (fun _ => .str x) k
theorem ev_bl {b : Bool} (k : R (.bl b) env) : Ev W (tC (.bl b)) env R := ev_c (fun _ => .bl b) k
theorem ev_non (k : R .non env) : Ev W (tC .non) env R := ev_c (fun _ => .non) k

/-! #### operators by data -/
/-- r does on values what o does on data -/
def OpD (W : Wd) (r : R2) (o : D → D → Option D) : Prop :=
  ∀ (G H : Hp) (x y : V) (dx dy dz : D), Same G H → Rp W G x dx → Rp W G y dy → o dx dy = some dz → ∀ Q : VK, (∀ v G' H', Gr G H G' H' → Rp W G' v dz → Q v H') → r x y H Q
theorem ev_op {r : R2} {o : D → D → Option D} (ho : OpD W r o) (h : Ev W ta env fun x e1 => Ev W tb e1 fun y e2 => ∃ z, o x y = some z ∧ R z e2) : Ev W (tOp r ta tb) env R := fun G H σ S Q q =>
  h G H σ S _ fun x dx G1 H1 e1 S1 T1 r1 h1 => h1 G1 H1 σ S1 _ fun y dy G2 H2 e2 S2 T2 r2 ⟨z, hz, k⟩ =>
    ho G2 H2 x y dx dy z S2.gh (r1.up T2.gg) r2 hz Q fun v G3 H3 g r3 => q v z G3 H3 e2 (S2.up g) ((T1.trans S T2).trans S (Tr.up S2 g)) r3 k
def UnD (W : Wd) (r : V → Hp → VK → Prop) (o : D → Option D) : Prop :=
  ∀ (G H : Hp) (x : V) (dx dz : D), Same G H → Rp W G x dx → o dx = some dz → ∀ Q : VK, (∀ v G' H', Gr G H G' H' → Rp W G' v dz → Q v H') → r x H Q
theorem ev_un {r : V → Hp → VK → Prop} {o : D → Option D} (ho : UnD W r o) (h : Ev W ta env fun x e1 => ∃ z, o x = some z ∧ R z e1) : Ev W (tUn r ta) env R := fun G H σ S Q q =>
  h G H σ S _ fun x dx G1 H1 e1 S1 T1 r1 ⟨z, hz, k⟩ => ho G1 H1 x dx z S1.gh r1 hz Q fun v G3 H3 g r3 => q v z G3 H3 e1 (S1.up g) (T1.trans S (Tr.up S1 g)) r3 k

/-! #### arguments, displays, built-ins -/
theorem ea_nil {R : List D → List Sl → Prop} (k : R [] env) : EvA W tNil env R := fun G H σ S Q q => q [] [] G H env S (Tr.refl S) .nil k
theorem ea_cons {tr : TA} {R : List D → List Sl → Prop} (h : Ev W ta env fun x e1 => EvA W tr e1 fun xs e2 => R (x :: xs) e2) : EvA W (tCons ta tr) env R := fun G H σ S Q q =>
  h G H σ S _ fun x dx G1 H1 e1 S1 T1 r1 h1 => h1 G1 H1 σ S1 _ fun ys dys G2 H2 e2 S2 T2 r2 k => q _ _ G2 H2 e2 S2 (T1.trans S T2) (.cons (r1.up T2.gg) r2) k
def CallD (W : Wd) (r : List V → Hp → VK → Prop) (o : List D → Option D) : Prop :=
  ∀ (G H : Hp) (xs : List V) (ds : List D) (dz : D), Same G H → RpAll W G xs ds → o ds = some dz → ∀ Q : VK, (∀ v G' H', Gr G H G' H' → Rp W G' v dz → Q v H') → r xs H Q
theorem ev_cb {r : List V → Hp → VK → Prop} {tr : TA} {o : List D → Option D} (ho : CallD W r o) (h : EvA W tr env fun xs e1 => ∃ z, o xs = some z ∧ R z e1) : Ev W (tCB r tr) env R := fun G H σ S Q q =>
  h G H σ S _ fun xs ds G1 H1 e1 S1 T1 r1 ⟨z, hz, k⟩ => ho G1 H1 xs ds z S1.gh r1 hz Q fun v G3 H3 g r3 => q v z G3 H3 e1 (S1.up g) (T1.trans S (Tr.up S1 g)) r3 k
theorem ev_tup {tr : TA} (h : EvA W tr env fun xs e1 => xs.length ≤ sizeLine ∧ R (.tup xs) e1) : Ev W (tTup tr) env R := fun G H σ S Q q =>
  h G H σ S _ fun xs ds G1 H1 e1 S1 T1 r1 ⟨hz, k⟩ => ⟨by rw [r1.length]; exact hz, fun p hp => by
    have g : Gr G1 H1 (upd G1 p (.tup xs)) (upd H1 p (.tup xs)) := Gr.new S1.gh hp
    exact q (.ref p) _ _ _ e1 (S1.up g) (T1.trans S (Tr.up S1 g)) (.tup (.inl (.inl upd_same)) (r1.up g.gg)) k⟩
theorem ev_lst {tr : TA} (h : EvA W tr env fun xs e1 => xs.length ≤ sizeLine ∧ R (.lst xs) e1) : Ev W (tLst tr) env R := fun G H σ S Q q =>
  h G H σ S _ fun xs ds G1 H1 e1 S1 T1 r1 ⟨hz, k⟩ => ⟨by rw [r1.length]; exact hz, fun p hp => by
    have g : Gr G1 H1 (upd G1 p (.lst xs)) (upd H1 p (.lst xs)) := Gr.new S1.gh hp
    exact q (.ref p) _ _ _ e1 (S1.up g) (T1.trans S (Tr.up S1 g)) (.lst upd_same (r1.up g.gg)) k⟩

/-! #### tests -/
theorem et_test {R : Bool → List Sl → Prop} (h : Ev W te env fun d e1 => ∃ b, d = .bl b ∧ R b e1) : EvT W (tTest te) env R := fun G H σ S Q q =>
  h G H σ S _ fun v d G1 H1 e1 S1 T1 r1 ⟨b, e, k⟩ => by
    subst e
    exact ⟨b, r1.bl_inv, q b G1 H1 e1 S1 T1 k⟩
theorem et_B {R : Bool → List Sl → Prop} (h : Ev W te env fun d e1 => ∃ b, d = .bl b ∧ R b e1) : EvT W (tB te) env R := fun G H σ S Q q =>
  h G H σ S _ fun v d G1 H1 e1 S1 T1 r1 ⟨b, e, k⟩ => by
    subst e
    exact ⟨b, r1.bl_inv, q b G1 H1 e1 S1 T1 k⟩
theorem et_not {R : Bool → List Sl → Prop} (h : EvT W t env fun b e1 => R (!b) e1) : EvT W (tNot t) env R := fun G H σ S Q q =>
  h G H σ S _ fun b G1 H1 e1 S1 T1 k => q (!b) G1 H1 e1 S1 T1 k
theorem et_and {R : Bool → List Sl → Prop} (h : EvT W t env fun b e1 => if b = true then EvT W u e1 R else R false e1) : EvT W (tAnd t u) env R := fun G H σ S Q q =>
  h G H σ S _ fun b G1 H1 e1 S1 T1 k => by
    cases b with
    | true =>
      have k : EvT W u e1 R := k
      show u σ H1 Q
      exact k G1 H1 σ S1 Q fun b G2 H2 e2 S2 T2 k2 => q b G2 H2 e2 S2 (T1.trans S T2) k2
    | false =>
      have k : R false e1 := k
      show Q false H1
      exact q false G1 H1 e1 S1 T1 k
theorem et_or {R : Bool → List Sl → Prop} (h : EvT W t env fun b e1 => if b = true then R true e1 else EvT W u e1 R) : EvT W (tOr t u) env R := fun G H σ S Q q =>
  h G H σ S _ fun b G1 H1 e1 S1 T1 k => by
    cases b with
    | true =>
      have k : R true e1 := k
      show Q true H1
      exact q true G1 H1 e1 S1 T1 k
    | false =>
      have k : EvT W u e1 R := k
      show u σ H1 Q
      exact k G1 H1 σ S1 Q fun b G2 H2 e2 S2 T2 k2 => q b G2 H2 e2 S2 (T1.trans S T2) k2
theorem ev_if (h : EvT W t env fun b e1 => if b = true then Ev W ta e1 R else Ev W tb e1 R) : Ev W (tIf t ta tb) env R := fun G H σ S Q q =>
  h G H σ S _ fun b G1 H1 e1 S1 T1 k => by
    cases b with
    | true =>
      have k : Ev W ta e1 R := k
      show ta σ H1 Q
      exact k G1 H1 σ S1 Q fun v d G2 H2 e2 S2 T2 r k2 => q v d G2 H2 e2 S2 (T1.trans S T2) r k2
    | false =>
      have k : Ev W tb e1 R := k
      show tb σ H1 Q
      exact k G1 H1 σ S1 Q fun v d G2 H2 e2 S2 T2 r k2 => q v d G2 H2 e2 S2 (T1.trans S T2) r k2
/-- and, or, not of bools as values -/
theorem ev_andV (h : Ev W ta env fun x e1 => ∃ b, x = .bl b ∧ if b = true then Ev W tb e1 R else R (.bl false) e1) : Ev W (tAndV ta tb) env R := fun G H σ S Q q =>
  h G H σ S _ fun v d G1 H1 e1 S1 T1 r1 ⟨b, e, k⟩ => by
    subst e
    refine ⟨b, r1.bl_inv, ?_⟩
    cases b with
    | true =>
      have k : Ev W tb e1 R := k
      show tb σ H1 Q
      exact k G1 H1 σ S1 Q fun v d G2 H2 e2 S2 T2 r k2 => q v d G2 H2 e2 S2 (T1.trans S T2) r k2
    | false =>
      have k : R (.bl false) e1 := k
      show Q (.bl false) H1
      exact q _ _ G1 H1 e1 S1 T1 (.bl false) k
theorem ev_orV (h : Ev W ta env fun x e1 => ∃ b, x = .bl b ∧ if b = true then R (.bl true) e1 else Ev W tb e1 R) : Ev W (tOrV ta tb) env R := fun G H σ S Q q =>
  h G H σ S _ fun v d G1 H1 e1 S1 T1 r1 ⟨b, e, k⟩ => by
    subst e
    refine ⟨b, r1.bl_inv, ?_⟩
    cases b with
    | false =>
      have k : Ev W tb e1 R := k
      show tb σ H1 Q
      exact k G1 H1 σ S1 Q fun v d G2 H2 e2 S2 T2 r k2 => q v d G2 H2 e2 S2 (T1.trans S T2) r k2
    | true =>
      have k : R (.bl true) e1 := k
      show Q (.bl true) H1
      exact q _ _ G1 H1 e1 S1 T1 (.bl true) k
theorem ev_notV (h : Ev W ta env fun x e1 => ∃ b, x = .bl b ∧ R (.bl (!b)) e1) : Ev W (tNotV ta) env R := fun G H σ S Q q =>
  h G H σ S _ fun v d G1 H1 e1 S1 T1 r1 ⟨b, e, k⟩ => by
    subst e
    exact ⟨b, r1.bl_inv, q _ _ G1 H1 e1 S1 T1 (.bl _) k⟩

/-! #### statements -/
variable {P : Post} {t1 t2 : TS}
theorem run_seq (h : Run W t1 env { P with nx := fun e1 => Run W t2 e1 P }) : Run W (tSeq t1 t2) env P := fun G H σ E S n r b c =>
  h G H σ { E with nx := t2 E } S
    (fun G1 H1 σ1 e1 S1 T1 k => k G1 H1 σ1 E S1 (fun G2 H2 σ2 e2 S2 T2 z => n G2 H2 σ2 e2 S2 (T1.trans S T2) z) (fun v d G2 H2 σ2 e2 S2 T2 q z => r v d G2 H2 σ2 e2 S2 (T1.trans S T2) q z)
      (fun G2 H2 σ2 e2 S2 T2 z => b G2 H2 σ2 e2 S2 (T1.trans S T2) z) (fun G2 H2 σ2 e2 S2 T2 z => c G2 H2 σ2 e2 S2 (T1.trans S T2) z)) r b c
theorem run_next (k : P.nx env) : Run W tNext env P := fun G H σ E S n r b c => n G H σ env S (Tr.refl S) k
theorem run_brk (k : P.bk env) : Run W tBreak env P := fun G H σ E S n r b c => b G H σ env S (Tr.refl S) k
theorem run_cont (k : P.ct env) : Run W tCont env P := fun G H σ E S n r b c => c G H σ env S (Tr.refl S) k
theorem run_ret (h : Ev W te env P.rt) : Run W (tRet te) env P := fun G H σ E S n r b c => h G H σ S _ fun v d G1 H1 e1 S1 T1 q k => r v d G1 H1 σ e1 S1 T1 q k
theorem run_retN (k : P.rt .non env) : Run W tRetN env P := fun G H σ E S n r b c => r .non .non G H σ env S (Tr.refl S) .non k
theorem run_drop (h : Ev W te env fun _ e1 => P.nx e1) : Run W (tDrop te) env P := fun G H σ E S n r b c => h G H σ S _ fun v d G1 H1 e1 S1 T1 q k => n G1 H1 σ e1 S1 T1 k
theorem run_if (h : EvT W t env fun b e1 => if b = true then Run W t1 e1 P else Run W t2 e1 P) : Run W (tIfS t t1 t2) env P := fun G H σ E S n r b c =>
  h G H σ S _ fun x G1 H1 e1 S1 T1 k => by
    have go : ∀ {tz : TS}, Run W tz e1 P → tz E σ H1 := fun {tz} k => k G1 H1 σ E S1 (fun G2 H2 σ2 e2 S2 T2 z => n G2 H2 σ2 e2 S2 (T1.trans S T2) z) (fun v d G2 H2 σ2 e2 S2 T2 q z => r v d G2 H2 σ2 e2 S2 (T1.trans S T2) q z)
      (fun G2 H2 σ2 e2 S2 T2 z => b G2 H2 σ2 e2 S2 (T1.trans S T2) z) (fun G2 H2 σ2 e2 S2 T2 z => c G2 H2 σ2 e2 S2 (T1.trans S T2) z)
    cases x with
    | true => exact go k
    | false => exact go k
theorem tg_name {j : Nat} {d : D} {R : List Sl → Prop} (hf : Free env j) (k : R (env.set j (.d d))) : Tg W (gName j) d env R := fun G H σ v S r Q q =>
  q G H _ _ (S.set r) (Tr.set S hf) k
theorem run_asg {g : TG} (h : Ev W te env fun d e1 => Tg W g d e1 P.nx) : Run W (tAsg te g) env P := fun G H σ E S n r b c =>
  h G H σ S _ fun v d G1 H1 e1 S1 T1 q k => k G1 H1 σ v S1 q _ fun G2 H2 σ2 e2 S2 T2 z => n G2 H2 σ2 e2 S2 (T1.trans S T2) z
/-- name = e -/
theorem run_set {j : Nat} (h : Ev W te env fun d e1 => Free e1 j ∧ P.nx (e1.set j (.d d))) : Run W (tAsg te (gName j)) env P := run_asg (h.mono fun d e1 k => tg_name k.1 k.2)
end
end Nv

set_option Elab.async false
set_option linter.all false
set_option maxRecDepth 100000
set_option maxHeartbeats 4000000
/-! NvL: loops, comprehensions, lists and dicts of one's own, calls of defs that are told by data. -/
namespace Nv
open PySem L2 PyProof.Rows PySem.Spec

section
variable {W : Wd} {G H G1 H1 G2 H2 : Hp} {σ σ1 σ2 : L2.St} {env env1 env2 : List Sl}
theorem own_no {j : Nat} (hj : env[j]? = some .no) {x : Option V} {b : Addr} : own (σ.set j x) env b ↔ own σ env b := by
  have off : ∀ {i : Nat} {s : Sl}, env[i]? = some s → s.owned = true → j ≠ i := fun {i s} e o z => by
    subst z
    rw [hj] at e
    cases e
    cases o
  constructor
  · rintro ⟨i, s, e, o, v⟩
    rw [List.getElem?_set_ne (off e o)] at v
    exact ⟨i, s, e, o, v⟩
  · rintro ⟨i, s, e, o, v⟩
    exact ⟨i, s, e, o, by rw [List.getElem?_set_ne (off e o)]; exact v⟩
/-- an address that is nobody's changes, or becomes known -/
theorem St.mut (S : St W G H σ env) {p : Addr} {o : HO} (hg : G p = none) (ho : ¬ own σ env p) : St W G (upd H p o) σ env where
  gh := fun b u h => by
    rw [upd_ne (ne_of_none h hg)]
    exact S.gh b u h
  len := S.len
  ok := fun i s e => by
    have q := S.ok i s e
    have off : ∀ l, σ[i]? = some (some (.ref l)) → s.owned = true → l ≠ p := fun l e1 e2 z => ho (by subst z; exact ⟨i, s, e, e2, e1⟩)
    cases s with
    | no => exact trivial
    | d x => exact q
    | ol xs =>
      obtain ⟨l, vs, e1, a, b, r⟩ := q
      exact ⟨l, vs, e1, a, by rw [upd_ne (off l e1 rfl)]; exact b, r⟩
    | pl xs =>
      obtain ⟨l, vs, e1, a, b, r⟩ := q
      exact ⟨l, vs, e1, a, by rw [upd_ne (off l e1 rfl)]; exact b, r⟩
    | od kvs =>
      obtain ⟨l, vs, e1, a, b, r⟩ := q
      exact ⟨l, vs, e1, a, by rw [upd_ne (off l e1 rfl)]; exact b, r⟩
    | pd kvs =>
      obtain ⟨l, vs, e1, a, b, r⟩ := q
      exact ⟨l, vs, e1, a, by rw [upd_ne (off l e1 rfl)]; exact b, r⟩
  ds := S.ds
theorem St.freeze (S : St W G H σ env) {p : Addr} {o : HO} (hh : H p = some o) (hg : G p = none) (ho : ¬ own σ env p) : St W (upd G p o) H σ env where
  gh := fun b u h => by
    by_cases z : b = p
    · subst z
      rw [upd_same] at h
      rw [← h]
      exact hh
    · rw [upd_ne z] at h
      exact S.gh b u h
  len := S.len
  ok := fun i s e => by
    have q := S.ok i s e
    have gg : Same G (upd G p o) := fun b u h => by
      rw [upd_ne (ne_of_none h hg)]
      exact h
    have off : ∀ l, σ[i]? = some (some (.ref l)) → s.owned = true → G l = none → upd G p o l = none := fun l e1 e2 z => by
      rw [upd_ne (fun y => ho (by subst y; exact ⟨i, s, e, e2, e1⟩))]
      exact z
    cases s with
    | no => exact trivial
    | d x =>
      obtain ⟨v, e1, r⟩ := q
      exact ⟨v, e1, r.up gg⟩
    | ol xs =>
      obtain ⟨l, vs, e1, a, b, r⟩ := q
      exact ⟨l, vs, e1, off l e1 rfl a, b, r.up gg⟩
    | pl xs =>
      obtain ⟨l, vs, e1, a, b, r⟩ := q
      exact ⟨l, vs, e1, off l e1 rfl a, b, r.up gg⟩
    | od kvs =>
      obtain ⟨l, vs, e1, a, b, q, r⟩ := q
      exact ⟨l, vs, e1, off l e1 rfl a, b, q, r.up gg⟩
    | pd kvs =>
      obtain ⟨l, vs, e1, a, b, q, r⟩ := q
      exact ⟨l, vs, e1, off l e1 rfl a, b, q, r.up gg⟩
  ds := S.ds
/-- the same between two states in which nothing is told of the slot j -/
theorem Tr.off {j : Nat} {x : Option V} (S : St W G H σ env) (hj : env[j]? = some .no) (hj1 : env1[j]? = some .no) (T : Tr (σ.set j x) env G H (σ1.set j x) env1 G1 H1) (hs : ∀ i, i ≠ j → σ1[i]? = σ[i]?) : Tr σ env G H σ1 env1 G1 H1 where
  gg := T.gg
  fr := fun b o n h => T.fr b o (fun z => n ((own_no hj).mp z)) h
  nw := fun b m => T.nw b fun z => m ((own_no hj).mp z)
  ow := fun b h => (T.ow b ((own_no hj1).mpr h)).imp (fun z => (own_no hj).mp z) id
  kp := T.kp
  pn := fun i s e h => by
    have ne : i ≠ j := fun z => by
      subst z
      rw [hj] at e
      cases e
      cases h
    exact ⟨hs i ne, (T.pn i s e h).2⟩

/-- something that was not there ahead has come, has changed, has become known -/
theorem Tr.late (T : Tr σ env G H σ1 env1 G1 H1) {p : Addr} {o : HO} (hp : H p = none) : Tr σ env G H σ1 env1 G1 (upd H1 p o) where
  gg := T.gg
  fr := fun b u n h => by
    rw [upd_ne (ne_of_none h hp)]
    exact T.fr b u n h
  nw := T.nw
  ow := T.ow
  kp := fun b n => by
    rw [upd_ne (fun z => n (by rw [z]; exact hp))]
    exact T.kp b n
  pn := T.pn
theorem Tr.told (S : St W G H σ env) (T : Tr σ env G H σ1 env1 G1 H1) {p : Addr} {o : HO} (hp : H p = none) : Tr σ env G H σ1 env1 (upd G1 p o) H1 where
  gg := fun b u h => by
    rw [upd_ne (ne_of_none (S.gh b u h) hp)]
    exact T.gg b u h
  fr := T.fr
  nw := fun b m n h => by
    rw [upd_ne (fun z => n (by rw [z]; exact hp))]
    exact T.nw b m n h
  ow := T.ow
  kp := T.kp
  pn := T.pn
end

/-- te makes a new list, that nobody has yet -/
def EvF (W : Wd) (te : TE) (env : List Sl) (R : List D → List Sl → Prop) : Prop :=
  ∀ (G H : Hp) (σ : L2.St), St W G H σ env → ∀ Q : VK, (∀ p vs ds G' H' env', St W G' H' σ env' → Tr σ env G H σ env' G' H' → H p = none → H' p = some (.lst vs) → G' p = none → ¬ own σ env' p → RpAll W G' vs ds → R ds env' → Q (.ref p) H') → te σ H Q
theorem ev_f {W : Wd} {te : TE} {env : List Sl} {R : D → List Sl → Prop} (h : EvF W te env fun ds e1 => R (.lst ds) e1) : Ev W te env R := fun G H σ S Q q =>
  h G H σ S Q fun p vs ds G1 H1 e1 S1 T1 h0 h1 g1 no r k => by
    have gg : Same G1 (upd G1 p (.lst vs)) := fun b u z => by
      rw [upd_ne (ne_of_none z g1)]
      exact z
    exact q (.ref p) (.lst ds) (upd G1 p (.lst vs)) H1 e1 (S1.freeze h1 g1 no) (T1.told S h0) (.lst upd_same (r.up gg)) k
theorem evf_lst {W : Wd} {tr : TA} {env : List Sl} {R : List D → List Sl → Prop} (h : EvA W tr env fun xs e1 => xs.length ≤ sizeLine ∧ R xs e1) : EvF W (tLst tr) env R := fun G H σ S Q q =>
  h G H σ S _ fun xs ds G1 H1 e1 S1 T1 r1 ⟨hz, k⟩ => ⟨by rw [r1.length]; exact hz, fun p hp => by
    have no : ¬ own σ e1 p := fun z => by
      obtain ⟨_, o, ho⟩ := S1.own_at z
      rw [hp] at ho
      cases ho
    have h0 : H p = none := by
      cases z : H p with
      | none => rfl
      | some o => exact absurd hp (T1.kp p (by rw [z]; exact fun y => nomatch y))
    exact q p xs ds G1 _ e1 (S1.mut (S1.gh.free hp) no) (T1.late h0) h0 upd_same (S1.gh.free hp) no r1 k⟩

/-! ### for -/
def ForR (W : Wd) (g : TG) (tb : TS) (P : Post) : List D → List Sl → Prop
  | [], env => P.nx env
  | d :: ds, env => Tg W g d env fun e1 => Run W tb e1 { nx := ForR W g tb P ds, rt := P.rt, bk := P.nx, ct := ForR W g tb P ds }
theorem run_for {W : Wd} {wi : TI} {g : TG} {tb : TS} {env : List Sl} {P : Post} (h : EvI W wi env fun ds e1 => ForR W g tb P ds e1) : Run W (tFor wi g tb) env P := fun G H σ E S n r b c => by
  refine h G H σ S _ fun J ds G1 H1 e1 S1 T1 hw k => ?_
  let I : Nat → L2.St → Hp → Prop := fun i σ2 H2 => i ≤ ds.length ∧ ∃ G2 e2, St W G2 H2 σ2 e2 ∧ Tr σ e1 G1 H1 σ2 e2 G2 H2 ∧ ForR W g tb P (ds.drop i) e2
  refine ⟨fun i m σ2 H2 => m = ds.length - i ∧ I i σ2 H2, ⟨ds.length, by simp, Nat.zero_le _, G1, e1, S1, Tr.refl S1, k⟩, ?_⟩
  rintro i m σ2 H2 ⟨rfl, hi, G2, e2, S2, T2, k2⟩
  by_cases hlt : i < ds.length
  · refine .inr ⟨hw.go i G2 H2 T2.gg S2.gh hlt, I (i + 1), fun σ3 H3 q => ⟨ds.length - (i + 1), by omega, rfl, q⟩, fun x H3 y => ?_⟩
    obtain ⟨G3, g3, r3⟩ := hw.yld i G2 H2 x H3 ds[i] T2.gg S2.gh (by simp [hlt]) y
    have e : ds.drop i = ds[i] :: ds.drop (i + 1) := by simp [hlt]
    rw [e] at k2
    have k2 : Tg W g ds[i] e2 _ := k2
    have T3 := Tr.up S2 g3
    have S3 := S2.up g3
    refine k2 G3 H3 σ2 x S3 r3 _ fun G4 H4 σ4 e4 S4 T4 k4 => ?_
    have T4' := (T2.trans S1 T3).trans S1 T4
    refine k4 G4 H4 σ4 _ S4 (fun G5 H5 σ5 e5 S5 T5 k5 => ⟨hlt, G5, e5, S5, T4'.trans S1 T5, k5⟩) (fun v d G5 H5 σ5 e5 S5 T5 r5 k5 => ?_) (fun G5 H5 σ5 e5 S5 T5 k5 => ?_) fun G5 H5 σ5 e5 S5 T5 k5 => ⟨hlt, G5, e5, S5, T4'.trans S1 T5, k5⟩
    · exact r v d G5 H5 σ5 e5 S5 (T1.trans S (T4'.trans S1 T5)) r5 k5
    · exact n G5 H5 σ5 e5 S5 (T1.trans S (T4'.trans S1 T5)) k5
  · have e : i = ds.length := by omega
    subst e
    rw [List.drop_length] at k2
    exact .inl ⟨hw.stop G2 H2 T2.gg S2.gh, n G2 H2 σ2 e2 S2 (T1.trans S T2) k2⟩

/-! ### while: a word over the slots, and a number that falls -/
theorem run_while {W : Wd} {t : TT} {tb : TS} {env : List Sl} {P : Post} (I : Nat → List Sl → Prop) (m0 : Nat) (h0 : I m0 env)
    (hs : ∀ m e, I m e → EvT W t e fun b e1 => if b = true then Run W tb e1 { nx := fun e2 => ∃ m', m' < m ∧ I m' e2, rt := P.rt, bk := P.nx, ct := fun e2 => ∃ m', m' < m ∧ I m' e2 } else P.nx e1) : Run W (tWhile t tb) env P := fun G H σ E S n r b c => by
  refine ⟨fun m σ2 H2 => ∃ G2 e2, St W G2 H2 σ2 e2 ∧ Tr σ env G H σ2 e2 G2 H2 ∧ I m e2, ⟨m0, G, env, S, Tr.refl S, h0⟩, ?_⟩
  rintro m σ2 H2 ⟨G2, e2, S2, T2, k2⟩
  refine hs m e2 k2 G2 H2 σ2 S2 _ fun x G3 H3 e3 S3 T3 k3 => ?_
  have T3' := T2.trans S T3
  cases x with
  | false => exact n G3 H3 σ2 e3 S3 T3' k3
  | true =>
    have k3 : Run W tb e3 _ := k3
    refine ⟨fun σ4 H4 => ∃ m', m' < m ∧ ∃ G4 e4, St W G4 H4 σ4 e4 ∧ Tr σ env G H σ4 e4 G4 H4 ∧ I m' e4, fun σ4 H4 q => q, ?_⟩
    refine k3 G3 H3 σ2 _ S3 (fun G5 H5 σ5 e5 S5 T5 k5 => ?_) (fun v d G5 H5 σ5 e5 S5 T5 r5 k5 => r v d G5 H5 σ5 e5 S5 (T3'.trans S T5) r5 k5) (fun G5 H5 σ5 e5 S5 T5 k5 => n G5 H5 σ5 e5 S5 (T3'.trans S T5) k5) (fun G5 H5 σ5 e5 S5 T5 k5 => ?_)
    all_goals
      obtain ⟨m', hm, k5⟩ := k5
      exact ⟨m', hm, G5, e5, S5, T3'.trans S T5, k5⟩

/-! ### a comprehension with one for, its name in the slot j -/
def CmpR (W : Wd) (j : Nat) (tt : TT) (te : TE) (R : List D → List Sl → Prop) : List D → List D → List Sl → Prop
  | [], acc, env => R acc env
  | d :: ds, acc, env => EvT W tt (env.set j (.d d)) fun b e1 =>
    if b = true then Ev W te e1 fun y e2 => acc.length < sizeLine ∧ CmpR W j tt te R ds (acc ++ [y]) (e2.set j .no) else CmpR W j tt te R ds acc (e1.set j .no)
theorem evf_lc {W : Wd} {wi : TI} {tt : TT} {te : TE} {j : Nat} {env : List Sl} {R : List D → List Sl → Prop} (h : EvI W wi env fun ds e1 => e1[j]? = some .no ∧ CmpR W j tt te R ds [] e1) : EvF W (tLc wi (gName j) tt te [j]) env R := fun G H σ S Q q => by
  refine h G H σ S _ fun J ds G1 H1 e1 S1 T1 hw ⟨hj, k⟩ => fun A hA => ?_
  have jl : j < e1.length := (List.getElem?_eq_some_iff.mp hj).1
  -- the new list at A, nobody's
  have nA : ∀ l, own σ e1 l → l ≠ A := fun l hl z => by
    obtain ⟨_, o, ho⟩ := S1.own_at hl
    rw [z, hA] at ho
    cases ho
  have g0 : ∀ b o, G1 b = some o → b ≠ A := fun b o hb => ne_of_none (S1.gh b o hb) hA
  have gA : G1 A = none := S1.gh.free hA
  let I : Nat → Hp → Prop := fun i H2 => i ≤ ds.length ∧ ∃ G2 e2 acc av, St W G2 H2 (σ.set j none) e2 ∧ Tr σ e1 G1 H1 σ e2 G2 H2 ∧ e2[j]? = some .no ∧ H2 A = some (.lst av) ∧ G2 A = none ∧ RpAll W G2 av acc ∧ (∀ l, own σ e2 l → l ≠ A) ∧ CmpR W j tt te R (ds.drop i) acc e2
  have S1' : St W G1 (upd H1 A (.lst [])) σ e1 := S1.mut gA fun z => nA A z rfl
  have clr : ∀ {G2 H2 : Hp} {e2 : List Sl} {x : Option V}, e2[j]? = some .no → St W G2 H2 σ e2 → St W G2 H2 (σ.set j x) e2 := fun {G2 H2 e2 x} hz S2 => S2.reslot (by rw [List.length_set]) fun i s e => by
    by_cases z : j = i
    · subst z
      rw [hz] at e
      cases e
      exact .inl rfl
    · exact .inr (List.getElem?_set_ne z)
  have unclr : ∀ {G2 H2 : Hp} {e2 : List Sl} {x : Option V}, e2[j]? = some .no → St W G2 H2 (σ.set j x) e2 → St W G2 H2 σ e2 := fun {G2 H2 e2 x} hz S2 => S2.reslot (by rw [List.length_set]) fun i s e => by
    by_cases z : j = i
    · subst z
      rw [hz] at e
      cases e
      exact .inl rfl
    · exact .inr (List.getElem?_set_ne z).symm
  refine ⟨fun i m H2 => m = ds.length - i ∧ I i H2, ⟨ds.length, by simp, Nat.zero_le _, G1, e1, [], [], clr hj S1', (Tr.refl S1).late hA, hj, upd_same, gA, .nil, nA, k⟩, ?_⟩
  rintro i m H2 ⟨rfl, hi, G2, e2, acc, av, S2, T2, hj2, hA2, gA2, ra, nO, k2⟩
  have nA2 : ¬ own σ e2 A := fun z => by
    obtain ⟨_, o, ho⟩ := (unclr hj2 S2).own_at z
    obtain ⟨i0, s0, a0, b0, c0⟩ := z
    exact nO A ⟨i0, s0, a0, b0, c0⟩ rfl
  by_cases hlt : i < ds.length
  · refine .inr ⟨hw.go i G2 H2 T2.gg S2.gh hlt, I (i + 1), fun H3 z => ⟨ds.length - (i + 1), by omega, rfl, z⟩, fun x H3 y => ?_⟩
    obtain ⟨G3, g3, r3⟩ := hw.yld i G2 H2 x H3 ds[i] T2.gg S2.gh (by simp [hlt]) y
    have e : ds.drop i = ds[i] :: ds.drop (i + 1) := by simp [hlt]
    rw [e] at k2
    have k2 : EvT W tt (e2.set j (.d ds[i])) _ := k2
    have jl2 : j < e2.length := (List.getElem?_eq_some_iff.mp hj2).1
    have hA3 : H3 A = some (.lst av) := g3.hh _ _ hA2
    have gA3 : G3 A = none := g3.nw A (by rw [hA2]; exact fun z => nomatch z) gA2
    have S3 : St W G3 H3 ((σ.set j none).set j (some x)) (e2.set j (.d ds[i])) := (S2.up g3).set r3
    rw [List.set_set] at S3
    have T3 : Tr σ e1 G1 H1 σ e2 G3 H3 := T2.trans S1 (Tr.up (unclr hj2 S2) g3)
    show (fun σ2 H2 => wipe σ2 [j] = wipe σ [j] ∧ _) ((σ.set j none).set j (some x)) H3
    refine ⟨by show ((σ.set j none).set j (some x)).set j none = σ.set j none; rw [List.set_set, List.set_set], ?_⟩
    show tt ((σ.set j none).set j (some x)) H3 fun b H3 => if b = true then te ((σ.set j none).set j (some x)) H3 fun y H4 => ∃ acc, H4 A = some (.lst acc) ∧ acc.length < sizeLine ∧ I (i + 1) (upd H4 A (.lst (acc ++ [y]))) else I (i + 1) H3
    rw [List.set_set]
    -- what the element leaves
    have back : ∀ {G5 H5 : Hp} {e5 : List Sl}, St W G5 H5 (σ.set j (some x)) e5 → Tr (σ.set j (some x)) (e2.set j (.d ds[i])) G3 H3 (σ.set j (some x)) e5 G5 H5 →
        St W G5 H5 σ (e5.set j .no) ∧ Tr σ e2 G3 H3 σ (e5.set j .no) G5 H5 ∧ (e5.set j .no)[j]? = some .no ∧ H5 A = some (.lst av) ∧ G5 A = none ∧ ¬ own σ (e5.set j .no) A := fun {G5 H5 e5} S5 T5 => by
      have l5 : e5.length = e2.length := by
        have a := S5.len
        have b := S2.len
        rw [List.length_set] at a b
        omega
      have hno : (e5.set j .no)[j]? = some .no := by rw [List.getElem?_set_self (by omega)]
      have lower : ∀ b, own σ (e5.set j .no) b → own (σ.set j (some x)) e5 b := fun b ⟨i, s, e, o, v⟩ => by
        have ne : j ≠ i := fun z => by
          subst z
          rw [hno] at e
          cases e
          cases o
        rw [List.getElem?_set_ne ne] at e
        exact ⟨i, s, e, o, by rw [List.getElem?_set_ne ne]; exact v⟩
      have down : ∀ b, own (σ.set j (some x)) (e2.set j (.d ds[i])) b → own σ e2 b := fun b z => own_set z
      have S6 : St W G5 H5 σ (e5.set j .no) := by
        refine ⟨S5.gh, by rw [List.length_set, l5]; have := S2.len; rw [List.length_set] at this; exact this, fun i s e => ?_, fun i1 k1 s1 t1 l a1 o1 v1 a2 o2 v2 => ?_⟩
        · by_cases z : j = i
          · subst z
            rw [hno] at e
            cases e
            exact trivial
          · rw [List.getElem?_set_ne z] at e
            have := S5.ok i s e
            rw [List.getElem?_set_ne z] at this
            exact this
        · have ne1 : j ≠ i1 := fun z => by
            subst z
            rw [hno] at a1
            cases a1
            cases o1
          have ne2 : j ≠ k1 := fun z => by
            subst z
            rw [hno] at a2
            cases a2
            cases o2
          rw [List.getElem?_set_ne ne1] at a1
          rw [List.getElem?_set_ne ne2] at a2
          exact S5.ds i1 k1 s1 t1 l a1 o1 (by rw [List.getElem?_set_ne ne1]; exact v1) a2 o2 (by rw [List.getElem?_set_ne ne2]; exact v2)
      have nA5 : ¬ own σ (e5.set j .no) A := fun z => by
        rcases T5.ow A (lower A z) with z | z
        · exact nA2 (down A z)
        · rw [hA3] at z
          cases z
      refine ⟨S6, ⟨T5.gg, fun b o n h => T5.fr b o (fun z => n (down b z)) h, fun b m => T5.nw b fun z => m (down b z), fun b z => (T5.ow b (lower b z)).imp (down b) id, T5.kp, fun i s e h => ?_⟩, hno, T5.fr A _ (fun z => nA2 (down A z)) hA3, T5.nw A (fun z => nA2 (down A z)) (by rw [hA3]; exact fun z => nomatch z) gA3, nA5⟩
      have ne : j ≠ i := fun z => by
        subst z
        rw [hj2] at e
        cases e
        cases h
      obtain ⟨_, s', e', h'⟩ := T5.pn i s (by rw [List.getElem?_set_ne ne]; exact e) h
      exact ⟨rfl, s', by rw [List.getElem?_set_ne ne]; exact e', h'⟩
    refine k2 G3 H3 _ S3 _ fun bb G4 H4 e4 S4 T4 k4 => ?_
    cases bb with
    | false =>
      have k4 : CmpR W j tt te R (ds.drop (i + 1)) acc (e4.set j .no) := k4
      obtain ⟨S6, T6, z1, z2, z3, z4⟩ := back S4 T4
      exact ⟨hlt, G4, _, acc, av, clr z1 S6, T3.trans S1 T6, z1, z2, z3, ra.up ((g3.gg).trans T4.gg), fun l hl z => z4 (z ▸ hl), k4⟩
    | true =>
      have k4 : Ev W te e4 _ := k4
      show te (σ.set j (some x)) H4 _
      refine k4 G4 H4 _ S4 _ fun y dy G5 H5 e5 S5 T5 r5 ⟨hz, k5⟩ => ?_
      obtain ⟨S6, T6, z1, z2, z3, z4⟩ := back S5 (T4.trans S3 T5)
      exact ⟨av, z2, by rw [ra.length]; exact hz, hlt, G5, _, acc ++ [dy], av ++ [y], clr z1 (S6.mut z3 z4), (T3.trans S1 T6).late hA, z1, upd_same, z3, (ra.up ((g3.gg).trans (T4.gg.trans T5.gg))).append (.cons r5 .nil), fun l hl z => z4 (z ▸ hl), k5⟩
  · have e : i = ds.length := by omega
    subst e
    rw [List.drop_length] at k2
    have k2 : R acc e2 := k2
    have hA0 : H A = none := by
      cases z : H A with
      | none => rfl
      | some o => exact absurd hA (T1.kp A (by rw [z]; exact fun y => nomatch y))
    exact .inl ⟨hw.stop G2 H2 T2.gg S2.gh, q A av acc G2 H2 e2 (unclr hj2 S2) (T1.trans S T2) hA0 hA2 gA2 nA2 ra k2⟩
theorem ev_lc {W : Wd} {wi : TI} {tt : TT} {te : TE} {j : Nat} {env : List Sl} {R : D → List Sl → Prop} (h : EvI W wi env fun ds e1 => e1[j]? = some .no ∧ CmpR W j tt te (fun xs e2 => R (.lst xs) e2) ds [] e1) : Ev W (tLc wi (gName j) tt te [j]) env R := ev_f (evf_lc h)

/-! ### what is one's own -/
section
variable {W : Wd} {G H : Hp} {σ : L2.St} {env : List Sl} {P : Post}
/-- what stands at an owned slot changes -/
theorem St.chg (S : St W G H σ env) {i : Nat} {l : Addr} {s s' : Sl} {o : HO} (e : env[i]? = some s) (ho : s.owned = true) (ev : σ[i]? = some (some (.ref l))) (ok' : OkS W G (upd H l o) (some (some (.ref l))) s') : St W G (upd H l o) σ (env.set i s') := by
  have il : i < env.length := (List.getElem?_eq_some_iff.mp e).1
  have g := (S.own_at ⟨i, s, e, ho, ev⟩).1
  refine ⟨fun b u h => by rw [upd_ne (ne_of_none h g)]; exact S.gh b u h, by rw [List.length_set]; exact S.len, fun k t f => ?_, fun a b s1 t1 m e1 o1 v1 e2 o2 v2 => ?_⟩
  · by_cases z : i = k
    · subst z
      rw [List.getElem?_set_self il] at f
      cases f
      rw [ev]
      exact ok'
    · rw [List.getElem?_set_ne z] at f
      have q := S.ok k t f
      have off : ∀ m, σ[k]? = some (some (.ref m)) → t.owned = true → m ≠ l := fun m e1 e2 y => z (S.ds i k s t l e ho ev f e2 (by rw [← y]; exact e1))
      cases t with
      | no => exact trivial
      | d x => exact q
      | ol xs =>
        obtain ⟨m, vs, e1, a, b, r⟩ := q
        exact ⟨m, vs, e1, a, by rw [upd_ne (off m e1 rfl)]; exact b, r⟩
      | pl xs =>
        obtain ⟨m, vs, e1, a, b, r⟩ := q
        exact ⟨m, vs, e1, a, by rw [upd_ne (off m e1 rfl)]; exact b, r⟩
      | od kvs =>
        obtain ⟨m, vs, e1, a, b, r⟩ := q
        exact ⟨m, vs, e1, a, by rw [upd_ne (off m e1 rfl)]; exact b, r⟩
      | pd kvs =>
        obtain ⟨m, vs, e1, a, b, r⟩ := q
        exact ⟨m, vs, e1, a, by rw [upd_ne (off m e1 rfl)]; exact b, r⟩
  · have was : ∀ {k : Nat} {t : Sl}, (env.set i s')[k]? = some t → t.owned = true → ∃ t', env[k]? = some t' ∧ t'.owned = true := fun {k t} f q => by
      by_cases z : i = k
      · subst z
        exact ⟨s, e, ho⟩
      · rw [List.getElem?_set_ne z] at f
        exact ⟨t, f, q⟩
    obtain ⟨s2, f1, q1⟩ := was e1 o1
    obtain ⟨t2, f2, q2⟩ := was e2 o2
    exact S.ds a b s2 t2 m f1 q1 v1 f2 q2 v2
theorem Tr.chg (S : St W G H σ env) {i : Nat} {l : Addr} {s s' : Sl} {o : HO} (e : env[i]? = some s) (ho : s.owned = true) (ev : σ[i]? = some (some (.ref l))) (hp : s.pinned = true → s'.pinned = true) : Tr σ env G H σ (env.set i s') G (upd H l o) where
  gg := Same.refl G
  fr := fun b u n h => by
    rw [upd_ne (fun z => n (by subst z; exact ⟨i, s, e, ho, ev⟩))]
    exact h
  nw := fun _ _ _ h => h
  ow := fun b ⟨k, t, f, q, v⟩ => by
    by_cases z : i = k
    · subst z
      exact .inl ⟨i, s, e, ho, v⟩
    · rw [List.getElem?_set_ne z] at f
      exact .inl ⟨k, t, f, q, v⟩
  kp := fun b n => by
    by_cases z : b = l
    · subst z
      rw [upd_same]
      exact fun y => nomatch y
    · rw [upd_ne z]
      exact n
  pn := fun k t f q => by
    by_cases z : i = k
    · subst z
      rw [e] at f
      cases f
      exact ⟨rfl, s', by rw [List.getElem?_set_self (List.getElem?_eq_some_iff.mp e).1], hp q⟩
    · exact ⟨rfl, t, by rw [List.getElem?_set_ne z]; exact f, q⟩
/-- a new list becomes a slot's own -/
theorem St.take (S : St W G H σ env) {j : Nat} {p : Addr} {vs : List V} {xs : List D} (hh : H p = some (.lst vs)) (hg : G p = none) (no : ¬ own σ env p) (r : RpAll W G vs xs) : St W G H (σ.set j (some (.ref p))) (env.set j (.ol xs)) := by
  by_cases jl : j < env.length
  · refine ⟨S.gh, by rw [List.length_set, List.length_set]; exact S.len, fun k t f => ?_, fun a b s1 t1 m e1 o1 v1 e2 o2 v2 => ?_⟩
    · by_cases z : j = k
      · subst z
        rw [List.getElem?_set_self jl] at f
        cases f
        exact ⟨p, vs, by rw [List.getElem?_set_self (by rw [S.len]; exact jl)], hg, hh, r⟩
      · rw [List.getElem?_set_ne z] at f
        rw [List.getElem?_set_ne z]
        exact S.ok k t f
    · have at_j : ∀ {m : Addr}, (σ.set j (some (V.ref p)))[j]? = some (some (.ref m)) → m = p := fun {m} v => by
        rw [List.getElem?_set_self (by rw [S.len]; exact jl)] at v
        cases v
        rfl
      by_cases za : j = a
      · subst za
        by_cases zb : j = b
        · exact zb
        · rw [List.getElem?_set_ne zb] at e2 v2
          rw [at_j v1] at v2
          exact absurd ⟨b, t1, e2, o2, v2⟩ no
      · rw [List.getElem?_set_ne za] at e1 v1
        by_cases zb : j = b
        · subst zb
          rw [at_j v2] at v1
          exact absurd ⟨a, s1, e1, o1, v1⟩ no
        · rw [List.getElem?_set_ne zb] at e2 v2
          exact S.ds a b s1 t1 m e1 o1 v1 e2 o2 v2
  · rw [List.set_eq_of_length_le (by rw [S.len]; omega), List.set_eq_of_length_le (by omega)]
    exact S
theorem Tr.take (S : St W G H σ env) {j : Nat} {p : Addr} {xs : List D} (hf : Free env j) : ∀ {G0 H0 : Hp} {σ0 : L2.St} {env0 : List Sl}, Tr σ0 env0 G0 H0 σ env G H → H0 p = none → Tr σ0 env0 G0 H0 (σ.set j (some (.ref p))) (env.set j (.ol xs)) G H := fun {G0 H0 σ0 env0} T h0 => by
  refine ⟨T.gg, T.fr, T.nw, fun b ⟨k, t, f, q, v⟩ => ?_, T.kp, fun i s e h => ?_⟩
  · by_cases z : j = k
    · subst z
      by_cases jl : j < σ.length
      · rw [List.getElem?_set_self jl] at v
        cases v
        exact .inr h0
      · rw [List.getElem?_eq_none (by rw [List.length_set]; omega)] at v
        cases v
    · rw [List.getElem?_set_ne z] at f v
      exact T.ow b ⟨k, t, f, q, v⟩
  · obtain ⟨e1, s', e2, h2⟩ := T.pn i s e h
    have ne : j ≠ i := fun z => by
      subst z
      rw [hf s' e2] at h2
      cases h2
    rw [List.getElem?_set_ne ne, List.getElem?_set_ne ne]
    exact ⟨e1, s', e2, h2⟩
theorem run_own {te : TE} {j : Nat} (h : EvF W te env fun xs e1 => Free e1 j ∧ P.nx (e1.set j (.ol xs))) : Run W (tAsg te (gName j)) env P := fun G H σ E S n r b c =>
  h G H σ S _ fun p vs ds G1 H1 e1 S1 T1 h0 h1 g1 no ra ⟨hf, k⟩ => n G1 H1 _ _ (S1.take h1 g1 no ra) (Tr.take S1 hf T1 h0) k
/-- xs.append(e) -/
theorem run_app {te : TE} {i : Nat} (h : Ev W te env fun d e1 => ∃ xs, e1[i]? = some (.ol xs) ∧ xs.length < sizeLine ∧ P.nx (e1.set i (.ol (xs ++ [d])))) (h0 : ∃ ys, env[i]? = some (.ol ys)) : Run W (tDrop (tBM W.K "list" rAppend (tVar i) (tCons te tNil))) env P := fun G H σ E S n r b c => by
  obtain ⟨ys, e0⟩ := h0
  obtain ⟨l, vs, ev, g, hh, ra⟩ := S.ok i _ e0
  refine ⟨.ref l, ev, .inl ⟨rfl, vs, .inl (.inl hh)⟩, h G H σ S _ fun v d G1 H1 e1 S1 T1 r1 ⟨xs, e2, hz, k⟩ => ?_⟩
  obtain ⟨m, ws, ev2, g2, h2, ra2⟩ := S1.ok i _ e2
  rw [ev] at ev2
  cases ev2
  refine ⟨l, ws, v, rfl, rfl, h2, by rw [ra2.length]; exact hz, n G1 _ σ _ (S1.chg e2 rfl ev (o := .lst (ws ++ [v])) (s' := .ol (xs ++ [d])) ⟨l, _, rfl, g2, upd_same, ra2.append (.cons r1 .nil)⟩) (T1.trans S (Tr.chg S1 e2 rfl ev fun z => nomatch z)) k⟩
/-- what is one's own is data from here on -/
theorem run_freeze {ts : TS} {i : Nat} {xs : List D} (e : env[i]? = some (.ol xs)) (h : Run W ts (env.set i (.d (.lst xs))) P) : Run W ts env P := fun G H σ E S n r b c => by
  obtain ⟨l, vs, ev, g, hh, ra⟩ := S.ok i _ e
  have il : i < env.length := (List.getElem?_eq_some_iff.mp e).1
  have gg : Same G (upd G l (.lst vs)) := fun b u z => by
    rw [upd_ne (ne_of_none z g)]
    exact z
  -- the state without the slot, then with what it holds as data
  have S0 : St W G H σ (env.set i .no) := by
    refine ⟨S.gh, by rw [List.length_set]; exact S.len, fun k t f => ?_, fun a b s1 t1 m e1 o1 v1 e2 o2 v2 => ?_⟩
    · by_cases z : i = k
      · subst z
        rw [List.getElem?_set_self il] at f
        cases f
        exact trivial
      · rw [List.getElem?_set_ne z] at f
        exact S.ok k t f
    · have was : ∀ {k : Nat} {t : Sl}, (env.set i .no)[k]? = some t → t.owned = true → env[k]? = some t := fun {k t} f q => by
        by_cases z : i = k
        · subst z
          rw [List.getElem?_set_self il] at f
          cases f
          cases q
        · rw [List.getElem?_set_ne z] at f
          exact f
      exact S.ds a b s1 t1 m (was e1 o1) o1 v1 (was e2 o2) o2 v2
  have no : ¬ own σ (env.set i .no) l := fun ⟨k, t, f, q, v⟩ => by
    by_cases z : i = k
    · subst z
      rw [List.getElem?_set_self il] at f
      cases f
      cases q
    · rw [List.getElem?_set_ne z] at f
      exact z (S.ds i k _ t l e rfl ev f q v)
  have S1 : St W (upd G l (.lst vs)) H σ ((env.set i .no).set i (.d (.lst xs))) := by
    have q := (S0.freeze hh g no).set (j := i) (v := .ref l) (d := .lst xs) (.lst upd_same (ra.up gg))
    have es : σ.set i (some (.ref l)) = σ := by
      apply List.ext_getElem?
      intro k
      by_cases z : i = k
      · subst z
        rw [List.getElem?_set_self (by rw [S.len]; exact il), ev]
      · rw [List.getElem?_set_ne z]
    rw [es] at q
    exact q
  rw [List.set_set] at S1
  have low : ∀ b, own σ (env.set i (.d (.lst xs))) b → own σ env b := fun b ⟨k, t, f, q, v⟩ => by
    by_cases z : i = k
    · subst z
      rw [List.getElem?_set_self il] at f
      cases f
      cases q
    · rw [List.getElem?_set_ne z] at f
      exact ⟨k, t, f, q, v⟩
  have T0 : ∀ {σ2 : L2.St} {e2 : List Sl} {G2 H2 : Hp}, Tr σ (env.set i (.d (.lst xs))) (upd G l (.lst vs)) H σ2 e2 G2 H2 → Tr σ env G H σ2 e2 G2 H2 := fun {σ2 e2 G2 H2} T => by
    refine ⟨gg.trans T.gg, fun b u n0 h0 => T.fr b u (fun z => n0 (low b z)) h0, fun b m n0 h0 => ?_, fun b z => (T.ow b z).imp (low b) id, T.kp, fun k s f q => ?_⟩
    · refine T.nw b (fun z => m (low b z)) n0 ?_
      rw [upd_ne (fun z => m (by subst z; exact ⟨i, _, e, rfl, ev⟩))]
      exact h0
    · have z : i ≠ k := fun y => by
        subst y
        rw [e] at f
        cases f
        cases q
      exact T.pn k s (by rw [List.getElem?_set_ne z]; exact f) q
  exact h _ H σ E S1 (fun G2 H2 σ2 e2 S2 T2 k => n G2 H2 σ2 e2 S2 (T0 T2) k) (fun v d G2 H2 σ2 e2 S2 T2 q k => r v d G2 H2 σ2 e2 S2 (T0 T2) q k)
    (fun G2 H2 σ2 e2 S2 T2 k => b G2 H2 σ2 e2 S2 (T0 T2) k) (fun G2 H2 σ2 e2 S2 T2 k => c G2 H2 σ2 e2 S2 (T0 T2) k)
end
end Nv

set_option Elab.async false
set_option linter.all false
set_option maxRecDepth 100000
set_option maxHeartbeats 4000000
/-! NvF: defs by data, and their calls. -/
namespace Nv
open PySem L2 PyProof.Rows PySem.Spec

/-- what a def does, by its arguments' slots (data, or what the caller hands in to be changed): the wish R of the answer and of these slots behind it -/
abbrev Fs := List Sl → (D → List Sl → Prop) → Prop
def ArgOk : Sl → Prop
  | .d _ => True
  | .pl _ => True
  | .pd _ => True
  | _ => False
def SpD (W : Wd) (n : Nat) (Phi : Fs) : Sp := fun vs H Q _ => ∃ (G : Hp) (as : List Sl) (R : D → List Sl → Prop), vs.length = n ∧ St W G H (vs.map some) as ∧ (∀ s ∈ as, ArgOk s) ∧ Phi as R ∧
  ∀ v d G' H' as', St W G' H' (vs.map some) as' → Tr (vs.map some) as G H (vs.map some) as' G' H' → Rp W G' v d → R d as' → Q v H'

/-- the arguments' slots behind the body: what was handed in to be changed as it is, the others as they were -/
def mergeS : List Sl → List Sl → List Sl
  | [], _ => []
  | a :: as, e :: es => (if a.pinned then e else a) :: mergeS as es
  | a :: as, [] => a :: mergeS as []
theorem mergeS_len : ∀ (as es : List Sl), (mergeS as es).length = as.length
  | [], _ => rfl
  | _ :: as, _ :: es => congrArg Nat.succ (mergeS_len as es)
  | _ :: as, [] => congrArg Nat.succ (mergeS_len as [])
theorem mergeS_get : ∀ {as es : List Sl} {i : Nat} {a : Sl}, as[i]? = some a → (mergeS as es)[i]? = some (if a.pinned then (es[i]?).getD a else a)
  | [], _, _, _, h => by simp at h
  | a :: as, e :: es, 0, _, h => by
    simp at h
    subst h
    simp [mergeS]
  | a :: as, [], 0, _, h => by
    simp at h
    subst h
    simp [mergeS]
  | a :: as, e :: es, i + 1, b, h => by
    have := mergeS_get (as := as) (es := es) (i := i) (a := b) (by simpa using h)
    simpa [mergeS] using this
  | a :: as, [], i + 1, b, h => by
    have := mergeS_get (as := as) (es := []) (i := i) (a := b) (by simpa using h)
    simpa [mergeS] using this

section
variable {W : Wd} {G H : Hp}
theorem St.start {N : List Str} {vs : List V} {as : List Sl} (S : St W G H (vs.map some) as) (hl : vs.length ≤ N.length) : St W G H (L2.start N vs) (as ++ List.replicate (N.length - vs.length) .no) := by
  have la : as.length = vs.length := by have := S.len; rw [List.length_map] at this; omega
  have lv : (vs.map some).length = as.length := S.len
  refine ⟨S.gh, ?_, fun i s e => ?_, fun i j s t l e1 o1 v1 e2 o2 v2 => ?_⟩
  · show (vs.map some ++ List.replicate (N.length - vs.length) none).length = _
    rw [List.length_append, List.length_append, List.length_replicate, List.length_replicate, lv]
  · by_cases h : i < as.length
    · rw [List.getElem?_append_left h] at e
      show OkS W G H (vs.map some ++ List.replicate (N.length - vs.length) none)[i]? s
      rw [List.getElem?_append_left (by rw [lv]; exact h)]
      exact S.ok i s e
    · rw [List.getElem?_append_right (by omega), List.getElem?_replicate] at e
      split at e
      · cases e
        exact trivial
      · cases e
  · have low : ∀ {k : Nat} {u : Sl}, (as ++ List.replicate (N.length - vs.length) Sl.no)[k]? = some u → u.owned = true → k < as.length ∧ as[k]? = some u := fun {k u} e o => by
      by_cases h : k < as.length
      · rw [List.getElem?_append_left h] at e
        exact ⟨h, e⟩
      · rw [List.getElem?_append_right (by omega), List.getElem?_replicate] at e
        split at e
        · cases e
          cases o
        · cases e
    obtain ⟨h1, f1⟩ := low e1 o1
    obtain ⟨h2, f2⟩ := low e2 o2
    have v1 : (vs.map some ++ List.replicate (N.length - vs.length) none)[i]? = some (some (V.ref l)) := v1
    have v2 : (vs.map some ++ List.replicate (N.length - vs.length) none)[j]? = some (some (V.ref l)) := v2
    rw [List.getElem?_append_left (by rw [lv]; exact h1)] at v1
    rw [List.getElem?_append_left (by rw [lv]; exact h2)] at v2
    exact S.ds i j s t l f1 o1 v1 f2 o2 v2
theorem own_start {N : List Str} {vs : List V} {as : List Sl} (la : as.length = vs.length) {b : Addr} : own (L2.start N vs) (as ++ List.replicate (N.length - vs.length) .no) b → own (vs.map some) as b := by
  rintro ⟨k, u, e, o, v⟩
  by_cases h : k < as.length
  · rw [List.getElem?_append_left h] at e
    have v : (vs.map some ++ List.replicate (N.length - vs.length) none)[k]? = some (some (V.ref b)) := v
    rw [List.getElem?_append_left (by rw [List.length_map]; omega)] at v
    exact ⟨k, u, e, o, v⟩
  · rw [List.getElem?_append_right (by omega), List.getElem?_replicate] at e
    split at e
    · cases e
      cases o
    · cases e
/-- behind the body -/
theorem St.left {N : List Str} {vs : List V} {as env' : List Sl} {σ' : L2.St} {G' H' : Hp} (S : St W G H (vs.map some) as) (ha : ∀ s ∈ as, ArgOk s) (S' : St W G' H' σ' env') (T : Tr (L2.start N vs) (as ++ List.replicate (N.length - vs.length) .no) G H σ' env' G' H') :
    St W G' H' (vs.map some) (mergeS as env') ∧ Tr (vs.map some) as G H (vs.map some) (mergeS as env') G' H' := by
  have la : as.length = vs.length := by have := S.len; rw [List.length_map] at this; omega
  -- a slot that was handed in to be changed
  have pin : ∀ {i : Nat} {a : Sl}, as[i]? = some a → a.pinned = true → ∃ s', (mergeS as env')[i]? = some s' ∧ env'[i]? = some s' ∧ s'.pinned = true ∧ σ'[i]? = (vs.map some)[i]? := fun {i a} e p => by
    have il : i < as.length := (List.getElem?_eq_some_iff.mp e).1
    obtain ⟨e1, s', e2, h2⟩ := T.pn i a (by rw [List.getElem?_append_left il]; exact e) p
    refine ⟨s', ?_, e2, h2, ?_⟩
    · rw [mergeS_get e, if_pos p, e2]
      rfl
    · rw [e1]
      show (vs.map some ++ List.replicate (N.length - vs.length) none)[i]? = _
      rw [List.getElem?_append_left (by rw [List.length_map]; omega)]
  have inv : ∀ {i : Nat} {s : Sl}, (mergeS as env')[i]? = some s → ∃ a, as[i]? = some a := fun {i s} e => by
    have il : i < as.length := by rw [← mergeS_len as env']; exact (List.getElem?_eq_some_iff.mp e).1
    exact ⟨as[i], by simp [il]⟩
  have dat : ∀ {i : Nat} {s : Sl}, (mergeS as env')[i]? = some s → s.owned = true → ∃ a, as[i]? = some a ∧ a.pinned = true ∧ env'[i]? = some s ∧ σ'[i]? = (vs.map some)[i]? := fun {i s} e o => by
    obtain ⟨a, ea⟩ := inv e
    cases p : a.pinned with
    | false =>
      rw [mergeS_get ea, p] at e
      have e : some a = some s := by simpa using e
      cases e
      have hk := ha s (List.mem_of_getElem? ea)
      cases s <;> first | exact hk.elim | (exfalso; revert p; simp [Sl.pinned]; done) | (exfalso; revert o; simp [Sl.owned]; done)
    | true =>
      obtain ⟨s', e1, e2, _, e4⟩ := pin ea p
      rw [e] at e1
      cases e1
      exact ⟨a, ea, p, e2, e4⟩
  refine ⟨⟨S'.gh, by rw [mergeS_len]; exact S.len, fun i s e => ?_, fun i j s t l e1 o1 v1 e2 o2 v2 => ?_⟩, ⟨T.gg, fun b o n h => T.fr b o (fun z => n (own_start la z)) h, fun b m n h => T.nw b (fun z => m (own_start la z)) n h, fun b ⟨i, s, e, o, v⟩ => ?_, T.kp, fun i a e p => ?_⟩⟩
  · obtain ⟨a, ea⟩ := inv e
    cases p : a.pinned with
    | true =>
      obtain ⟨s', e1, e2, _, e4⟩ := pin ea p
      rw [e] at e1
      cases e1
      rw [← e4]
      exact S'.ok i s e2
    | false =>
      rw [mergeS_get ea, p] at e
      have e : some a = some s := by simpa using e
      cases e
      have q := S.ok i s ea
      cases s with
      | no => exact trivial
      | d x =>
        obtain ⟨v, e1, r⟩ := q
        exact ⟨v, e1, r.up T.gg⟩
      | ol xs => exact (ha _ (List.mem_of_getElem? ea)).elim
      | od xs => exact (ha _ (List.mem_of_getElem? ea)).elim
      | pl xs => cases p
      | pd kvs => cases p
  · obtain ⟨a, _, _, f1, g1⟩ := dat e1 o1
    obtain ⟨c, _, _, f2, g2⟩ := dat e2 o2
    exact S'.ds i j s t l f1 o1 (by rw [g1]; exact v1) f2 o2 (by rw [g2]; exact v2)
  · obtain ⟨a, ea, pa, f, g⟩ := dat e o
    exact .inl ⟨i, a, ea, Sl.pinned_owned pa, v⟩
  · obtain ⟨s', e1, _, h, _⟩ := pin e p
    exact ⟨rfl, s', e1, h⟩
end

section
variable {P : Program} {w : World} {K : PySem.W.Frag} {mg : Str → Option Value} {base : Heap} {k : Nat} {f : Addr} {fd : FuncData} {ps : List Str} {W : Wd}
/-- where the body runs -/
abbrev Bx (P : Program) (w : World) (K : PySem.W.Frag) (mg : Str → Option Value) (base : Heap) (N : List Str) (qual : Str) (st : Stmt) (f : Addr) (cdv : Value) (A : Around) (outer : List Env) (s : Shared) (H : Hp) (E : XK) : Cx :=
  (cxOf CX0 P w K mg base N qual (defScope st) f cdv A outer s H E).nox
/-- a def by its body, told by data -/
theorem fn_d {x qual : Str} {st : Stmt} {N : List Str} {Phi : Fs} (F : Fun K x qual st f fd) (S : FnScope N ps (defScope st))
    (hbody : ∀ (cdv : Value) (A : Around) (outer : List Env) (s : Shared) (H : Hp) (E : XK), (Bx P w K mg base N qual st f cdv A outer s H E).A.guards = some [] → Room k (Bx P w K mg base N qual st f cdv A outer s H E).A →
      ∃ t, PSs (Bx P w K mg base N qual st f cdv A outer s H E) (defBody st) t ∧ ∀ as R, as.length = ps.length → Phi as R → Run W t (as ++ List.replicate (N.length - ps.length) .no) { nx := fun e' => R .non (mergeS as e'), rt := fun d e' => R d (mergeS as e') }) :
    FnG P w K mg base (k + 1) f fd ps (SpD W ps.length Phi) := by
  have hpl : ps.length ≤ N.length := by
    have := congrArg List.length S.pre
    rw [List.length_take] at this
    omega
  refine fn_g F S (fun vs H Q E h => ?_) fun cdv A outer s H vs Q E hg hr h => ?_
  · obtain ⟨_, _, _, l, _⟩ := h
    exact l
  · obtain ⟨G, as, R, hl, hS, ha, hP, q⟩ := h
    have la : as.length = vs.length := by have := hS.len; rw [List.length_map] at this; omega
    obtain ⟨t, ht, hrun⟩ := hbody cdv A outer s H E hg hr
    have S1 := hS.start (N := N) (by omega)
    have hrun := hrun as R (by omega) hP
    rw [← hl] at hrun
    refine ⟨t, ht.nox, hrun G H (L2.start N vs) _ S1 (fun G' H' σ' env' S' T' k => ?_) (fun v d G' H' σ' env' S' T' r k => ?_) (fun _ _ _ _ _ _ z => z.elim) fun _ _ _ _ _ _ z => z.elim⟩
    · obtain ⟨S2, T2⟩ := St.left hS ha S' T'
      exact q .non .non G' H' _ S2 T2 .non k
    · obtain ⟨S2, T2⟩ := St.left hS ha S' T'
      exact q v d G' H' _ S2 T2 r k
end
end Nv

set_option Elab.async false
set_option linter.all false
set_option maxRecDepth 100000
set_option maxHeartbeats 4000000
/-! NvC: calls of defs told by data. -/
namespace Nv
open PySem L2 PyProof.Rows PySem.Spec

section
variable {W : Wd} {G H G' H' : Hp} {σ : L2.St} {env env' : List Sl}
theorem St.swap (S : St W G H σ env) (A : Addr → Prop) (gg : Same G G') (gh : Same G' H') (hh : ∀ b o, ¬ A b → H b = some o → H' b = some o) (nw : ∀ b, ¬ A b → H b ≠ none → G b = none → G' b = none) (len : env'.length = env.length)
    (each : ∀ (k : Nat) (s' : Sl), env'[k]? = some s' → (env[k]? = some s' ∧ (s'.owned = true → ∀ l : Addr, σ[k]? = some (some (.ref l)) → ¬ A l)) ∨ (OkS W G' H' σ[k]? s' ∧ ∃ s, env[k]? = some s ∧ s.owned = true)) : St W G' H' σ env' := by
  refine ⟨gh, by rw [len]; exact S.len, fun k s e => ?_, fun a b s t m e1 o1 v1 e2 o2 v2 => ?_⟩
  · rcases each k s e with ⟨f, off⟩ | ⟨q, _⟩
    · have q := S.ok k s f
      cases s with
      | no => exact trivial
      | d x =>
        obtain ⟨v, e1, r⟩ := q
        exact ⟨v, e1, r.up gg⟩
      | ol xs =>
        obtain ⟨l, vs, e1, a, b, r⟩ := q
        have z := off rfl l e1
        exact ⟨l, vs, e1, nw l z (by rw [b]; exact fun y => nomatch y) a, hh l _ z b, r.up gg⟩
      | pl xs =>
        obtain ⟨l, vs, e1, a, b, r⟩ := q
        have z := off rfl l e1
        exact ⟨l, vs, e1, nw l z (by rw [b]; exact fun y => nomatch y) a, hh l _ z b, r.up gg⟩
      | od kvs =>
        obtain ⟨l, vs, e1, a, b, c, r⟩ := q
        have z := off rfl l e1
        exact ⟨l, vs, e1, nw l z (by rw [b]; exact fun y => nomatch y) a, hh l _ z b, c, r.up gg⟩
      | pd kvs =>
        obtain ⟨l, vs, e1, a, b, c, r⟩ := q
        have z := off rfl l e1
        exact ⟨l, vs, e1, nw l z (by rw [b]; exact fun y => nomatch y) a, hh l _ z b, c, r.up gg⟩
    · exact q
  · have was : ∀ {k : Nat} {s : Sl}, env'[k]? = some s → s.owned = true → ∃ s', env[k]? = some s' ∧ s'.owned = true := fun {k s} e o => by
      rcases each k s e with ⟨f, _⟩ | ⟨_, s0, f, o0⟩
      · exact ⟨s, f, o⟩
      · exact ⟨s0, f, o0⟩
    obtain ⟨s1, f1, q1⟩ := was e1 o1
    obtain ⟨t1, f2, q2⟩ := was e2 o2
    exact S.ds a b s1 t1 m f1 q1 v1 f2 q2 v2
theorem Tr.swap (A : Addr → Prop) (gg : Same G G') (hh : ∀ b o, ¬ A b → H b = some o → H' b = some o) (nw : ∀ b, ¬ A b → H b ≠ none → G b = none → G' b = none) (kp : ∀ b, H b ≠ none → H' b ≠ none) (hA : ∀ b, A b → own σ env b)
    (each : ∀ (k : Nat) (s' : Sl), env'[k]? = some s' → s'.owned = true → ∃ s, env[k]? = some s ∧ s.owned = true) (hp : ∀ (k : Nat) (s : Sl), env[k]? = some s → s.pinned = true → ∃ s', env'[k]? = some s' ∧ s'.pinned = true) : Tr σ env G H σ env' G' H' where
  gg := gg
  fr := fun b o n h => hh b o (fun z => n (hA b z)) h
  nw := fun b m n h => nw b (fun z => m (hA b z)) n h
  ow := fun b ⟨k, s', e, o, v⟩ => by
    obtain ⟨s, f, q⟩ := each k s' e o
    exact .inl ⟨k, s, f, q, v⟩
  kp := kp
  pn := fun k s e h => by
    obtain ⟨s', e', h'⟩ := hp k s e h
    exact ⟨rfl, s', e', h'⟩
theorem not_own_data {vs : List V} {ds : List D} {b : Addr} : ¬ own (vs.map some) (ds.map Sl.d) b := by
  rintro ⟨i, s, e, o, _⟩
  rw [List.getElem?_map] at e
  cases q : ds[i]? with
  | none => rw [q] at e; cases e
  | some d =>
    rw [q] at e
    cases e
    cases o
theorem St.data (gh : Same G H) {vs : List V} {ds : List D} (r : RpAll W G vs ds) : St W G H (vs.map some) (ds.map Sl.d) := by
  refine ⟨gh, by rw [List.length_map, List.length_map, r.length], fun i s e => ?_, fun i j s t l e1 o1 _ _ _ _ => ?_⟩
  · rw [List.getElem?_map] at e
    cases q : ds[i]? with
    | none => rw [q] at e; cases e
    | some d =>
      rw [q] at e
      cases e
      obtain ⟨v, h1, h2⟩ := r.get q
      exact ⟨v, by rw [List.getElem?_map, h1]; rfl, h2⟩
  · rw [List.getElem?_map] at e1
    cases q : ds[i]? with
    | none => rw [q] at e1; cases e1
    | some d =>
      rw [q] at e1
      cases e1
      cases o1
end

section
variable {W : Wd} {env : List Sl} {R : D → List Sl → Prop} {ta : TA} {n : Nat} {Phi : Fs}
theorem args_ok {ds : List D} : ∀ s ∈ ds.map Sl.d, ArgOk s := fun s h => by
  obtain ⟨d, _, rfl⟩ := List.mem_map.mp h
  exact trivial
theorem sp_data {G H : Hp} {vs : List V} {ds : List D} {σ : L2.St} {Q : VK} {E : XK} (S : St W G H σ env) (r : RpAll W G vs ds) (hl : ds.length = n) (hP : Phi (ds.map .d) fun d _ => R d env)
    (q : ∀ v d G' H', St W G' H' σ env → Tr σ env G H σ env G' H' → Rp W G' v d → R d env → Q v H') : SpD W n Phi vs H Q E :=
  ⟨G, ds.map .d, fun d _ => R d env, by rw [r.length, hl], St.data S.gh r, args_ok, hP, fun v d G' H' as' S' T' rv k => by
    have g : Gr G H G' H' := ⟨T'.gg, S'.gh, fun b o h => T'.fr b o not_own_data h, fun b => T'.nw b not_own_data⟩
    exact q v d G' H' (S.up g) (Tr.up S g) rv k⟩
/-- f(e, ..), all arguments data -/
theorem ev_g (h : EvA W ta env fun ds e1 => ds.length = n ∧ Phi (ds.map .d) fun d _ => R d e1) : Ev W (tG (SpD W n Phi) ta) env R := fun G H σ S Q q =>
  h G H σ S _ fun vs ds G1 H1 e1 S1 T1 ra ⟨hl, hP⟩ => sp_data S1 ra hl hP fun v d G' H' S' T' r k => q v d G' H' e1 S' (T1.trans S T') r k
/-- keywords alone -/
def permD (pm : List Nat) (ds : List D) : List D := pm.filterMap (ds[·]?)
theorem RpAll.perm {G : Hp} {vs : List V} {ds : List D} (r : RpAll W G vs ds) : ∀ pm : List Nat, RpAll W G (permV pm vs) (permD pm ds)
  | [] => .nil
  | i :: pm => by
    have ih := RpAll.perm r pm
    unfold permV permD at ih ⊢
    rw [List.filterMap_cons, List.filterMap_cons]
    cases e : ds[i]? with
    | none =>
      have : vs[i]? = none := by
        rw [List.getElem?_eq_none_iff] at e ⊢
        rw [r.length]
        exact e
      rw [this]
      exact ih
    | some d =>
      obtain ⟨v, h1, h2⟩ := r.get e
      rw [h1]
      exact .cons h2 ih
theorem ev_gK {m : Nat} {pm : List Nat} (h : EvA W ta env fun ds e1 => ds.length = m ∧ (permD pm ds).length = n ∧ Phi ((permD pm ds).map .d) fun d _ => R d e1) : Ev W (tGK m pm (SpD W n Phi) ta) env R := fun G H σ S Q q =>
  h G H σ S _ fun vs ds G1 H1 e1 S1 T1 ra ⟨hm, hl, hP⟩ => ⟨by rw [ra.length, hm], sp_data S1 (ra.perm pm) hl hP fun v d G' H' S' T' r k => q v d G' H' e1 S' (T1.trans S T') r k⟩
/-- what is one's own is handed on, to be changed by the callee; and comes back -/
def Sl.lend : Sl → Sl
  | .ol xs => .pl xs
  | .od kvs => .pd kvs
  | s => s
def Sl.back (s s' : Sl) : Sl := if s.pinned = true then s' else match s' with
  | .pl xs => .ol xs
  | .pd kvs => .od kvs
  | s => s
theorem Sl.lend_pinned {s : Sl} (h : s.owned = true) : s.lend.pinned = true := by
  cases s <;> first | rfl | cases h
theorem OkS.lend {G H : Hp} {ov : Option (Option V)} {s : Sl} (h : OkS W G H ov s) : OkS W G H ov s.lend := by
  cases s <;> exact h
theorem OkS.back {G H : Hp} {ov : Option (Option V)} {s s' : Sl} (h : OkS W G H ov s') : OkS W G H ov (s.back s') := by
  unfold Sl.back
  split
  · exact h
  · cases s' <;> exact h
theorem OkS.addr {G H : Hp} {ov : Option (Option V)} {s : Sl} (h : OkS W G H ov s) (ho : s.owned = true) : ∃ l : Addr, ov = some (some (.ref l)) := by
  cases s with
  | no => cases ho
  | d x => cases ho
  | ol xs => obtain ⟨m, vs, e1, _⟩ := h; exact ⟨m, e1⟩
  | pl xs => obtain ⟨m, vs, e1, _⟩ := h; exact ⟨m, e1⟩
  | od kvs => obtain ⟨m, vs, e1, _⟩ := h; exact ⟨m, e1⟩
  | pd kvs => obtain ⟨m, vs, e1, _⟩ := h; exact ⟨m, e1⟩
/-- f(x, e, ..), x one's own -/
theorem ev_gp {i : Nat} (h0 : ∃ s0, env[i]? = some s0 ∧ s0.owned = true) (h : EvA W ta env fun ds e1 => ds.length + 1 = n ∧ ∃ s, e1[i]? = some s ∧ s.owned = true ∧ Phi (s.lend :: ds.map .d) fun d as' => ∃ s', as'[0]? = some s' ∧ R d (e1.set i (s.back s'))) :
    Ev W (tG (SpD W n Phi) (tCons (tVar i) ta)) env R := fun G H σ S Q q => by
  obtain ⟨s0, e0, o0⟩ := h0
  obtain ⟨p, ev⟩ := (S.ok i _ e0).addr o0
  refine ⟨.ref p, ev, h G H σ S _ fun vs ds G1 H1 e1 S1 T1 ra ⟨hl, s, e, os, hP⟩ => ?_⟩
  have il : i < e1.length := (List.getElem?_eq_some_iff.mp e).1
  have ok1 : OkS W G1 H1 (some (some (.ref p))) s.lend := by
    have := (S1.ok i _ e).lend
    rw [ev] at this
    exact this
  have lp : s.lend.pinned = true := Sl.lend_pinned os
  have SA : St W G1 H1 ((V.ref p :: vs).map some) (s.lend :: ds.map .d) := by
    have SD := St.data S1.gh ra
    refine ⟨S1.gh, by simp [ra.length], fun k s f => ?_, fun a c s t l e1 o1 v1 e2 o2 v2 => ?_⟩
    · cases k with
      | zero =>
        simp at f
        subst f
        exact ok1
      | succ k => exact SD.ok k s (by simpa using f)
    · cases a with
      | succ a => exact absurd ⟨a, s, by simpa using e1, o1, by simpa using v1⟩ (not_own_data (vs := vs) (ds := ds) (b := l))
      | zero =>
        cases c with
        | succ c => exact absurd ⟨c, t, by simpa using e2, o2, by simpa using v2⟩ (not_own_data (vs := vs) (ds := ds) (b := l))
        | zero => rfl
  have oA : ∀ c, own ((V.ref p :: vs).map some) (s.lend :: ds.map .d) c → c = p := fun c ⟨k, s, f, o, v⟩ => by
    cases k with
    | zero =>
      have v : some (some (V.ref p)) = some (some (V.ref c)) := v
      cases v
      rfl
    | succ k => exact absurd ⟨k, s, by simpa using f, o, by simpa using v⟩ (not_own_data (vs := vs) (ds := ds) (b := c))
  refine ⟨G1, s.lend :: ds.map .d, _, by simp [ra.length, hl], SA, fun s1 hs => ?_, hP, fun v d G' H' as' S' T' rv ⟨s', ea, k⟩ => ?_⟩
  · rcases List.mem_cons.mp hs with z | z
    · subst z
      cases s <;> first | exact trivial | cases os
    · exact args_ok s1 z
  · have ok2 : OkS W G' H' (some (some (.ref p))) s' := S'.ok 0 _ ea
    have sp : s'.pinned = true := by
      obtain ⟨_, s2, e2, h2⟩ := T'.pn 0 s.lend rfl lp
      rw [ea] at e2
      cases e2
      exact h2
    have hh : ∀ c o, ¬ c = p → H1 c = some o → H' c = some o := fun c o n h => T'.fr c o (fun z => n (oA c z)) h
    have nw : ∀ c, ¬ c = p → H1 c ≠ none → G1 c = none → G' c = none := fun c n => T'.nw c fun z => n (oA c z)
    have S2 : St W G' H' σ (e1.set i (s.back s')) := S1.swap (fun c => c = p) T'.gg S'.gh hh nw (by rw [List.length_set]) fun k t f => by
      by_cases z : i = k
      · subst z
        rw [List.getElem?_set_self il] at f
        cases f
        exact .inr ⟨by rw [ev]; exact ok2.back, _, e, os⟩
      · rw [List.getElem?_set_ne z] at f
        exact .inl ⟨f, fun o l e3 e4 => z (S1.ds i k _ t p e os ev f o (by rw [e3, e4]))⟩
    refine q v d G' H' _ S2 ((T1.trans S (Tr.swap (fun c => c = p) T'.gg hh nw T'.kp (fun c z => ⟨i, _, e, os, by rw [z]; exact ev⟩) (fun k t f o => ?_) fun k t f o => ?_))) rv k
    · by_cases z : i = k
      · subst z
        exact ⟨_, e, os⟩
      · rw [List.getElem?_set_ne z] at f
        exact ⟨t, f, o⟩
    · by_cases z : i = k
      · subst z
        rw [e] at f
        cases f
        exact ⟨_, by rw [List.getElem?_set_self il], by unfold Sl.back; rw [if_pos o]; exact sp⟩
      · exact ⟨t, by rw [List.getElem?_set_ne z]; exact f, o⟩
end
end Nv

set_option Elab.async false
set_option linter.all false
set_option maxRecDepth 100000
set_option maxHeartbeats 4000000
/-! NvO: what operators, built-ins and walks do to data. -/
namespace Nv
open PySem L2 PyProof.Rows PySem.Spec

theorem opr_or {X : Cx} {f : Value → Value → Sem Value} {r1 r2 : R2} (h1 : OpR X f r1) (h2 : OpR X f r2) : OpR X f (fun x y H Q => r1 x y H Q ∨ r2 x y H Q) := by
  intro pins s σ H x y v u Q I rx ry q
  exact q.elim (h1 pins s σ H x y v u Q I rx ry) (h2 pins s σ H x y v u Q I rx ry)

section
variable {W : Wd} {G H : Hp}
theorem Gr.newT {W : Wd} {p : Addr} {vs : List V} {ds : List D} (e : Same G H) (hp : H p = none) (r : RpAll W G vs ds) : Gr G H (upd G p (.tup vs)) (upd H p (.tup vs)) ∧ Rp W (upd G p (.tup vs)) (.ref p) (.tup ds) :=
  have g : Gr G H (upd G p (.tup vs)) (upd H p (.tup vs)) := Gr.new e hp
  ⟨g, .tup (.inl (.inl upd_same)) (r.up g.gg)⟩
theorem Gr.newL {W : Wd} {p : Addr} {vs : List V} {ds : List D} (e : Same G H) (hp : H p = none) (r : RpAll W G vs ds) : Gr G H (upd G p (.lst vs)) (upd H p (.lst vs)) ∧ Rp W (upd G p (.lst vs)) (.ref p) (.lst ds) :=
  have g : Gr G H (upd G p (.lst vs)) (upd H p (.lst vs)) := Gr.new e hp
  ⟨g, .lst upd_same (r.up g.gg)⟩
end

/-! ### + -/
def rAddU (K : PySem.W.Frag) : R2 := fun x y H Q => rI0 (fun i j => .int (i + j)) x y H Q ∨ (∃ i j, x = .str i ∧ y = .str j ∧ i.length + j.length ≤ sizeLine ∧ Q (.str (i ++ j)) H) ∨ rCat x y H Q ∨ rCatA K x y H Q
theorem op_addU {X : Cx} : OpR X (binaryOp .Add) (rAddU X.K) := opr_or op_add (opr_or op_add_str (opr_or op_cat op_catA))
def addD : D → D → Option D
  | .int i, .int j => some (.int (i + j))
  | .str a, .str b => if a.length + b.length ≤ sizeLine then some (.str (a ++ b)) else none
  | .lst a, .lst b => if a.length + b.length ≤ sizeLine then some (.lst (a ++ b)) else none
  | .tup a, .tup b => if a.length + b.length ≤ sizeLine then some (.tup (a ++ b)) else none
  | _, _ => none
theorem opd_add {W : Wd} : OpD W (rAddU W.K) addD := by
  intro G H x y dx dy dz e rx ry ho Q q
  cases dx <;> cases dy <;> first | (cases ho; done) | skip
  · cases ho
    rw [rx.int_inv, ry.int_inv]
    exact .inl ⟨_, _, rfl, rfl, q _ G H (Gr.refl e) (.int _)⟩
  · rename_i a b
    have ho : (if a.length + b.length ≤ sizeLine then some (D.str (a ++ b)) else none) = some dz := ho
    split at ho
    · cases ho
      rename_i hz
      rw [rx.str_inv, ry.str_inv]
      exact .inr (.inl ⟨_, _, rfl, rfl, hz, q _ G H (Gr.refl e) (.str _)⟩)
    · cases ho
  · rename_i a b
    have ho : (if a.length + b.length ≤ sizeLine then some (D.lst (a ++ b)) else none) = some dz := ho
    split at ho
    · cases ho
      rename_i hz
      obtain ⟨p, xs, rfl, h1, r1⟩ := rx.lst_inv
      obtain ⟨p', ys, rfl, h2, r2⟩ := ry.lst_inv
      refine .inr (.inr (.inl ⟨p, p', xs, ys, rfl, rfl, e _ _ h1, e _ _ h2, by rw [r1.length, r2.length]; exact hz, fun n hn => ?_⟩))
      obtain ⟨g, r⟩ := Gr.newL (W := W) e hn (r1.append r2)
      exact q _ _ _ g r
    · cases ho
  · rename_i a b
    have ho : (if a.length + b.length ≤ sizeLine then some (D.tup (a ++ b)) else none) = some dz := ho
    split at ho
    · cases ho
      rename_i hz
      obtain ⟨p, xs, rfl, h1, r1⟩ := rx.tup_inv
      obtain ⟨p', ys, rfl, h2, r2⟩ := ry.tup_inv
      refine .inr (.inr (.inr ⟨p, p', xs, ys, rfl, rfl, Same.tup e h1, Same.tup e h2, by rw [r1.length, r2.length]; exact hz, fun z => ?_, fun _ z => ?_, fun _ _ n hn => ?_⟩))
      · subst z
        cases r1
        exact q _ G H (Gr.refl e) (.tup h2 r2)
      · subst z
        cases r2
        rw [List.append_nil] at q
        exact q _ G H (Gr.refl e) (.tup h1 r1)
      · obtain ⟨g, r⟩ := Gr.newT (W := W) e hn (r1.append r2)
        exact q _ _ _ g r
    · cases ho

/-! ### numbers -/
section
variable {W : Wd}
def intD (g : Int → Int → Option D) : D → D → Option D
  | .int i, .int j => g i j
  | _, _ => none
theorem opd_I0 {g : Int → Int → V} {o : Int → Int → D} (h : ∀ G i j, Rp W G (g i j) (o i j)) : OpD W (rI0 g) (intD fun i j => some (o i j)) := by
  intro G H x y dx dy dz e rx ry ho Q q
  cases dx <;> cases dy <;> first | (cases ho; done) | skip
  cases ho
  rw [rx.int_inv, ry.int_inv]
  exact ⟨_, _, rfl, rfl, q _ G H (Gr.refl e) (h _ _ _)⟩
theorem opd_I {C : Int → Int → Prop} [∀ i j, Decidable (C i j)] {g : Int → Int → V} {o : Int → Int → D} (h : ∀ G i j, Rp W G (g i j) (o i j)) : OpD W (rI C g) (intD fun i j => if C i j then some (o i j) else none) := by
  intro G H x y dx dy dz e rx ry ho Q q
  cases dx <;> cases dy <;> first | (cases ho; done) | skip
  rename_i i j
  have ho : (if C i j then some (o i j) else none) = some dz := ho
  split at ho
  · cases ho
    rename_i hc
    rw [rx.int_inv, ry.int_inv]
    exact ⟨_, _, rfl, rfl, hc, q _ G H (Gr.refl e) (h _ _ _)⟩
  · cases ho
instance (i j : Int) : Decidable (CMul i j) := by unfold CMul; exact inferInstance
instance (i j : Int) : Decidable (CDiv i j) := by unfold CDiv; exact inferInstance
instance (i j : Int) : Decidable (CPow i j) := by unfold CPow; exact inferInstance
theorem opd_sub : OpD W (rI0 fun i j => .int (i - j)) (intD fun i j => some (.int (i - j))) := opd_I0 fun _ _ _ => .int _
theorem opd_mul : OpD W (rI CMul fun i j => .int (i * j)) (intD fun i j => if CMul i j then some (.int (i * j)) else none) := opd_I fun _ _ _ => .int _
theorem opd_fdiv : OpD W (rI CDiv fun i j => .int (i / j)) (intD fun i j => if CDiv i j then some (.int (i / j)) else none) := opd_I fun _ _ _ => .int _
theorem opd_mod : OpD W (rI (fun _ j => 0 < j) fun i j => .int (i % j)) (intD fun i j => if 0 < j then some (.int (i % j)) else none) := opd_I fun _ _ _ => .int _
theorem opd_pow : OpD W (rI CPow fun i j => .int (i ^ j.toNat)) (intD fun i j => if CPow i j then some (.int (i ^ j.toNat)) else none) := opd_I fun _ _ _ => .int _
theorem opd_lt : OpD W (rI0 fun i j => .bl (decide (i < j))) (intD fun i j => some (.bl (decide (i < j)))) := opd_I0 fun _ _ _ => .bl _
theorem opd_le : OpD W (rI0 fun i j => .bl (decide (i ≤ j))) (intD fun i j => some (.bl (decide (i ≤ j)))) := opd_I0 fun _ _ _ => .bl _
theorem opd_gt : OpD W (rI0 fun i j => .bl (decide (j < i))) (intD fun i j => some (.bl (decide (j < i)))) := opd_I0 fun _ _ _ => .bl _
theorem opd_ge : OpD W (rI0 fun i j => .bl (decide (j ≤ i))) (intD fun i j => some (.bl (decide (j ≤ i)))) := opd_I0 fun _ _ _ => .bl _
def negD : D → Option D
  | .int i => some (.int (-i))
  | _ => none
theorem und_neg : UnD W (rU fun i => .int (-i)) negD := by
  intro G H x dx dz e rx ho Q q
  cases dx <;> first | (cases ho; done) | skip
  cases ho
  rw [rx.int_inv]
  exact ⟨_, rfl, q _ G H (Gr.refl e) (.int _)⟩
end

/-! ### ==, != of plain values -/
def eqS : D → D → Option Bool
  | .non, .non => some true
  | .int i, .int j => some (decide (i = j))
  | .bl i, .bl j => some (decide (i = j))
  | .str i, .str j => some (decide (i = j))
  | .non, .int _ => some false
  | .int _, .non => some false
  | .non, .str _ => some false
  | .str _, .non => some false
  | .non, .bl _ => some false
  | .bl _, .non => some false
  | .int _, .str _ => some false
  | .str _, .int _ => some false
  | .bl _, .str _ => some false
  | .str _, .bl _ => some false
  | _, _ => none
theorem dec_ne {a b : V} (h : a ≠ b) : decide (a = b) = false := decide_eq_false h
theorem dec_of {α : Type} [DecidableEq α] {f : α → V} (hf : ∀ a b, f a = f b → a = b) (a b : α) : decide (f a = f b) = decide (a = b) := by
  by_cases h : a = b
  · subst h
    simp
  · rw [decide_eq_false h, decide_eq_false fun z => h (hf a b z)]
theorem eqS_ok {W : Wd} {G : Hp} {x y : V} {dx dy : D} {b : Bool} (rx : Rp W G x dx) (ry : Rp W G y dy) (h : eqS dx dy = some b) : scal x y = true ∧ decide (x = y) = b := by
  cases dx <;> cases dy <;> first | (cases h; done) | skip
  all_goals
    cases h
    first | rw [rx.non_inv] | rw [rx.int_inv] | rw [rx.bl_inv] | rw [rx.str_inv]
    first | rw [ry.non_inv] | rw [ry.int_inv] | rw [ry.bl_inv] | rw [ry.str_inv]
    refine ⟨rfl, ?_⟩
    first
      | rfl
      | exact dec_of (fun _ _ z => V.int.inj z) _ _
      | exact dec_of (fun _ _ z => V.bl.inj z) _ _
      | exact dec_of (fun _ _ z => V.str.inj z) _ _
      | exact dec_ne (fun z => nomatch z)
def eqD (x y : D) : Option D := (eqS x y).map .bl
def neD (x y : D) : Option D := (eqS x y).map fun b => .bl (!b)
theorem opd_eq {W : Wd} : OpD W rEq eqD := by
  intro G H x y dx dy dz e rx ry ho Q q
  unfold eqD at ho
  cases h : eqS dx dy with
  | none => rw [h] at ho; cases ho
  | some b =>
    rw [h] at ho
    cases ho
    obtain ⟨h1, h2⟩ := eqS_ok rx ry h
    exact ⟨h1, by rw [h2]; exact q _ G H (Gr.refl e) (.bl b)⟩
theorem opd_ne {W : Wd} : OpD W rNe neD := by
  intro G H x y dx dy dz e rx ry ho Q q
  unfold neD at ho
  cases h : eqS dx dy with
  | none => rw [h] at ho; cases ho
  | some b =>
    rw [h] at ho
    cases ho
    obtain ⟨h1, h2⟩ := eqS_ok rx ry h
    exact ⟨h1, by rw [h2]; exact q _ G H (Gr.refl e) (.bl (!b))⟩
end Nv

set_option Elab.async false
set_option linter.all false
set_option maxRecDepth 100000
set_option maxHeartbeats 4000000
/-! NvP: in, is, subscripts, slices, built-ins, truth, walks: by data. -/
namespace Nv
open PySem L2 PyProof.Rows PySem.Spec

theorem callr_or {X : Cx} {f : Value} {r1 r2 : List V → Hp → VK → Prop} (h1 : CallR X f r1) (h2 : CallR X f r2) : CallR X f (fun xs H Q => r1 xs H Q ∨ r2 xs H Q) := by
  intro pins s σ H xs us Q I r q
  exact q.elim (h1 pins s σ H xs us Q I r) (h2 pins s σ H xs us Q I r)

/-! ### in -/
def flatD : D → Bool
  | .non => true
  | .bl _ => true
  | .int _ => true
  | .str _ => true
  | _ => false
def eqF : D → D → Bool
  | .non, .non => true
  | .bl a, .bl b => a == b
  | .bl a, .int b => (if a then 1 else 0) == b
  | .int a, .bl b => a == (if b then 1 else 0)
  | .int a, .int b => a == b
  | .str a, .str b => a == b
  | _, _ => false
def oneSign (z : Str) : Option Nat := match z.cps.toList with
  | [c] => some c
  | _ => none
theorem oneSign_eq {z : Str} {c : Nat} (h : oneSign z = some c) : z = ⟨#[c]⟩ := by
  unfold oneSign at h
  split at h
  · rename_i d e
    cases h
    obtain ⟨a⟩ := z
    congr 1
    apply Array.ext'
    exact e
  · cases h
def inD (neg : Bool) : D → D → Option D
  | .str a, .str b => (oneSign a).map fun c => .bl (if neg then !decide (c ∈ b.cps.toList) else decide (c ∈ b.cps.toList))
  | x, .tup ys => if (flatD x && ys.all flatD) = true then some (.bl (if neg then !ys.any (fun y => eqF y x) else ys.any fun y => eqF y x)) else none
  | x, .lst ys => if (flatD x && ys.all flatD) = true then some (.bl (if neg then !ys.any (fun y => eqF y x) else ys.any fun y => eqF y x)) else none
  | _, _ => none
section
variable {W : Wd} {G H : Hp}
theorem flat_of {x : V} {d : D} (r : Rp W G x d) (h : flatD d = true) : flatV x = true := by
  cases d <;> first | (cases h; done) | (cases r; rfl)
theorem eqF_of {x y : V} {dx dy : D} (rx : Rp W G x dx) (ry : Rp W G y dy) (hx : flatD dx = true) (hy : flatD dy = true) : eqV y x = eqF dy dx := by
  cases dx <;> first | (cases hx; done) | skip
  all_goals
    cases dy <;> first | (cases hy; done) | skip
    all_goals
      cases rx
      cases ry
      rfl
theorem all_flat : ∀ {xs : List V} {ds : List D}, RpAll W G xs ds → ds.all flatD = true → xs.all flatV = true
  | _, _, .nil, _ => rfl
  | _, _, .cons r k, h => by
    rw [List.all_cons, Bool.and_eq_true] at h ⊢
    exact ⟨flat_of r h.1, all_flat k h.2⟩
theorem any_flat {x : V} {dx : D} (rx : Rp W G x dx) (hx : flatD dx = true) : ∀ {xs : List V} {ds : List D}, RpAll W G xs ds → ds.all flatD = true → inV x xs = ds.any fun y => eqF y dx
  | _, _, .nil, _ => rfl
  | _, _, .cons r k, h => by
    rw [List.all_cons, Bool.and_eq_true] at h
    have := any_flat rx hx k h.2
    unfold inV at this ⊢
    rw [List.any_cons, List.any_cons, eqF_of rx r hx h.1, this]
end
def rInU (K : PySem.W.Frag) : R2 := fun x y H Q => rInS x y H Q ∨ rIn K false x y H Q
def rNiU (K : PySem.W.Frag) : R2 := fun x y H Q => rNotInS x y H Q ∨ rIn K true x y H Q
theorem op_inU {X : Cx} : OpR X (compareOp .In) (rInU X.K) := opr_or op_inS op_in_seq
theorem op_niU {X : Cx} : OpR X (compareOp .NotIn) (rNiU X.K) := opr_or op_notInS op_notIn_seq
theorem in_seq {W : Wd} {neg : Bool} {G H : Hp} {x y : V} {dx dz : D} {ys : List D} (e : Same G H) (rx : Rp W G x dx) (ry : Rp W G y (.tup ys) ∨ Rp W G y (.lst ys))
    (ho : (if (flatD dx && ys.all flatD) = true then some (D.bl (if neg then !ys.any (fun y => eqF y dx) else ys.any fun y => eqF y dx)) else none) = some dz) {Q : VK} (q : ∀ v G' H', Gr G H G' H' → Rp W G' v dz → Q v H') : rIn W.K neg x y H Q := by
  split at ho
  · cases ho
    rename_i hz
    rw [Bool.and_eq_true] at hz
    have go : ∀ {a : Addr} {xs : List V}, (SqL W.K H a xs ∨ SqT W.K H a xs) → RpAll W G xs ys → rIn W.K neg x (.ref a) H Q := fun {a xs} hs ra =>
      ⟨a, xs, rfl, hs, flat_of rx hz.1, all_flat ra hz.2, by rw [any_flat rx hz.1 ra hz.2]; exact q _ G H (Gr.refl e) (.bl _)⟩
    rcases ry with ry | ry
    · obtain ⟨a, xs, rfl, hs, ra⟩ := ry.tup_inv
      exact go (.inr (Same.tup e hs)) ra
    · obtain ⟨a, xs, rfl, hs, ra⟩ := ry.lst_inv
      exact go (.inl (.inl (.inl (e _ _ hs)))) ra
  · cases ho
theorem opd_in {W : Wd} : OpD W (rInU W.K) (inD false) := by
  intro G H x y dx dy dz e rx ry ho Q q
  cases dy with
  | tup ys => exact .inr (in_seq e rx (.inl ry) (by cases dx <;> exact ho) q)
  | lst ys => exact .inr (in_seq e rx (.inr ry) (by cases dx <;> exact ho) q)
  | str b =>
    cases dx <;> first | (cases ho; done) | skip
    rename_i a
    have ho : (oneSign a).map (fun c => D.bl (if false = true then !decide (c ∈ b.cps.toList) else decide (c ∈ b.cps.toList))) = some dz := ho
    cases h : oneSign a with
    | none => rw [h] at ho; cases ho
    | some c =>
      rw [h] at ho
      cases ho
      rw [rx.str_inv, ry.str_inv, oneSign_eq h]
      exact .inl ⟨c, b, rfl, rfl, q _ G H (Gr.refl e) (.bl _)⟩
  | _ => cases dx <;> cases ho
theorem opd_ni {W : Wd} : OpD W (rNiU W.K) (inD true) := by
  intro G H x y dx dy dz e rx ry ho Q q
  cases dy with
  | tup ys => exact .inr (in_seq e rx (.inl ry) (by cases dx <;> exact ho) q)
  | lst ys => exact .inr (in_seq e rx (.inr ry) (by cases dx <;> exact ho) q)
  | str b =>
    cases dx <;> first | (cases ho; done) | skip
    rename_i a
    have ho : (oneSign a).map (fun c => D.bl (if true = true then !decide (c ∈ b.cps.toList) else decide (c ∈ b.cps.toList))) = some dz := ho
    cases h : oneSign a with
    | none => rw [h] at ho; cases ho
    | some c =>
      rw [h] at ho
      cases ho
      rw [rx.str_inv, ry.str_inv, oneSign_eq h]
      exact .inl ⟨c, b, rfl, rfl, q _ G H (Gr.refl e) (.bl _)⟩
  | _ => cases dx <;> cases ho

/-! ### is None, is True -/
def rIsU : R2 := fun x y H Q => rIsN x y H Q ∨ rIsB x y H Q
theorem op_isU {X : Cx} : OpR X (compareOp .Is) rIsU := opr_or op_isN1 op_isBl
def rNoU : R2 := fun x y H Q => rNotN x y H Q ∨ rNotB x y H Q
def isNon : D → Bool
  | .non => true
  | _ => false
def isD : D → D → Option D
  | x, .non => some (.bl (isNon x))
  | .bl a, .bl b => some (.bl (decide (a = b)))
  | _, _ => none
def noD : D → D → Option D
  | x, .non => some (.bl (!isNon x))
  | .bl a, .bl b => some (.bl (!decide (a = b)))
  | _, _ => none
theorem isNon_of {W : Wd} {G : Hp} {x : V} {d : D} (r : Rp W G x d) : decide (x = V.non) = isNon d := by
  cases r <;> rfl
theorem opd_is {W : Wd} : OpD W rIsU isD := by
  intro G H x y dx dy dz e rx ry ho Q q
  cases dy with
  | non =>
    have ho : some (D.bl (isNon dx)) = some dz := by cases dx <;> exact ho
    cases ho
    rw [ry.non_inv]
    exact .inl ⟨rfl, by rw [isNon_of rx]; exact q _ G H (Gr.refl e) (.bl _)⟩
  | bl b =>
    cases dx <;> first | (cases ho; done) | skip
    cases ho
    rw [rx.bl_inv, ry.bl_inv]
    exact .inr ⟨_, b, rfl, rfl, q _ G H (Gr.refl e) (.bl _)⟩
  | _ => cases dx <;> cases ho

/-! ### subscripts -/
def rIxU (K : PySem.W.Frag) : R2 := fun x y H Q => rIxL K x y H Q ∨ rIxT K x y H Q ∨ rIxS x y H Q
theorem ix_U {X : Cx} : IxR X (rIxU X.K) := IxR.or ix_list (IxR.or ix_tup ix_str)
def ixD : D → D → Option D
  | .lst xs, .int i => atI xs i
  | .tup xs, .int i => atI xs i
  | .str z, .int i => if z.length ≤ sizeLine then (atI z.cps.toList i).map fun c => .str ⟨#[c]⟩ else none
  | _, _ => none
theorem RpAll.atI {W : Wd} {G : Hp} {vs : List V} {ds : List D} {i : Int} {d : D} (r : RpAll W G vs ds) (h : atI ds i = some d) : ∃ v, L2.atI vs i = some v ∧ Rp W G v d := by
  unfold L2.atI at h ⊢
  rw [r.length]
  cases e : ixN ds.length i with
  | none => rw [e] at h; cases h
  | some j =>
    rw [e] at h
    exact r.get h
theorem opd_ix {W : Wd} : OpD W (rIxU W.K) ixD := by
  intro G H x y dx dy dz e rx ry ho Q q
  cases dx <;> first | (cases ho; done) | skip
  all_goals
    cases dy <;> first | (cases ho; done) | skip
  · rename_i z i
    have ho : (if z.length ≤ sizeLine then (L2.atI z.cps.toList i).map (fun c => D.str ⟨#[c]⟩) else none) = some dz := ho
    split at ho
    · rename_i hz
      cases h : L2.atI z.cps.toList i with
      | none => rw [h] at ho; cases ho
      | some c =>
        rw [h] at ho
        cases ho
        rw [rx.str_inv, ry.int_inv]
        exact .inr (.inr ⟨z, i, c, rfl, rfl, hz, h, q _ G H (Gr.refl e) (.str _)⟩)
    · cases ho
  · rename_i xs i
    obtain ⟨a, vs, rfl, hs, ra⟩ := rx.lst_inv
    obtain ⟨v, h1, h2⟩ := ra.atI ho
    rw [ry.int_inv]
    exact .inl ⟨a, vs, i, v, rfl, rfl, .inl (.inl (e _ _ hs)), h1, q _ G H (Gr.refl e) h2⟩
  · rename_i xs i
    obtain ⟨a, vs, rfl, hs, ra⟩ := rx.tup_inv
    obtain ⟨v, h1, h2⟩ := ra.atI ho
    rw [ry.int_inv]
    exact .inr (.inl ⟨a, vs, i, v, rfl, rfl, Same.tup e hs, h1, q _ G H (Gr.refl e) h2⟩)

/-! ### slices -/
def cut {α : Type} (xs : List α) (lo hi : Option Int) : List α := (xs.drop (HT.sIx xs.length 0 lo)).take (HT.sIx xs.length xs.length hi - HT.sIx xs.length 0 lo)
def slD : D → Option Int → Option Int → Option D
  | .lst xs, lo, hi => some (.lst (cut xs lo hi))
  | .tup xs, lo, hi => some (.tup (cut xs lo hi))
  | .frl xs, lo, hi => some (.lst (cut xs lo hi))
  | .str z, lo, hi => if z.length ≤ sizeLine then some (.str (cutS z lo hi)) else none
  | _, _, _ => none
def rSlU (K : PySem.W.Frag) : V → Option Int → Option Int → Hp → VK → Prop := fun x lo hi H Q => rSlL K x lo hi H Q ∨ rSlA K x lo hi H Q ∨ rSlS x lo hi H Q
theorem sl_U {X : Cx} : SlR X (rSlU X.K) := SlR.or sl_list (SlR.or sl_tupA sl_str)
def EvO (W : Wd) (to : TO) (env : List Sl) (R : Option Int → List Sl → Prop) : Prop :=
  ∀ (G H : Hp) (σ : L2.St), St W G H σ env → ∀ Q : Option Int → Hp → Prop, (∀ o G' H' env', St W G' H' σ env' → Tr σ env G H σ env' G' H' → R o env' → Q o H') → to σ H Q
section
variable {W : Wd} {env : List Sl} {ta tb tc te : TE}
theorem eo_none {R : Option Int → List Sl → Prop} (k : R none env) : EvO W tNoPart env R := fun G H σ S Q q => q none G H env S (Tr.refl S) k
theorem eo_some {R : Option Int → List Sl → Prop} (h : Ev W te env fun d e1 => ∃ i, d = .int i ∧ R (some i) e1) : EvO W (tPart te) env R := fun G H σ S Q q =>
  h G H σ S _ fun v d G1 H1 e1 S1 T1 r ⟨i, e, k⟩ => by
    subst e
    exact ⟨i, r.int_inv, q (some i) G1 H1 e1 S1 T1 k⟩
theorem RpAll.cut {G : Hp} {vs : List V} {ds : List D} (r : RpAll W G vs ds) (lo hi : Option Int) : RpAll W G (cutV vs lo hi) (Nv.cut ds lo hi) := by
  unfold cutV Nv.cut
  rw [r.length]
  exact (r.drop _).take _
theorem cut_whole {α : Type} {xs : List α} {lo hi : Option Int} (h1 : HT.sIx xs.length 0 lo = 0) (h2 : HT.sIx xs.length xs.length hi = xs.length) : cut xs lo hi = xs := by
  unfold cut
  rw [h1, h2]
  simp
theorem ev_sl {tl th : TO} {R : D → List Sl → Prop} (h : Ev W ta env fun x e1 => EvO W tl e1 fun lo e2 => EvO W th e2 fun hi e3 => ∃ z, slD x lo hi = some z ∧ R z e3) : Ev W (tSl (rSlU W.K) ta tl th) env R := fun G H σ S Q q =>
  h G H σ S _ fun x d G1 H1 e1 S1 T1 r1 h1 => h1 G1 H1 σ S1 _ fun lo G2 H2 e2 S2 T2 h2 => h2 G2 H2 σ S2 _ fun hi G3 H3 e3 S3 T3 w => by
    obtain ⟨z, hz, k⟩ := w
    have T := T1.trans S (T2.trans S1 T3)
    have r := r1.up (T2.gg.trans T3.gg)
    cases d <;> first | (cases hz; done) | skip
    · rename_i y
      have hz : (if y.length ≤ sizeLine then some (D.str (cutS y lo hi)) else none) = some z := hz
      split at hz
      · rename_i hl
        cases hz
        rw [r.str_inv]
        exact .inr (.inr ⟨y, rfl, hl, q _ _ G3 H3 e3 S3 T (.str _) k⟩)
      · cases hz
    · cases hz
      obtain ⟨a, vs, rfl, hs, ra⟩ := r.lst_inv
      refine .inl ⟨a, vs, rfl, .inl (.inl (S3.gh _ _ hs)), fun p hp => ?_⟩
      obtain ⟨g, rr⟩ := Gr.newL (W := W) S3.gh hp (ra.cut lo hi)
      exact q _ _ _ _ e3 (S3.up g) (T.trans S (Tr.up S3 g)) rr k
    · cases hz
      obtain ⟨a, vs, rfl, hs, ra⟩ := r.tup_inv
      refine .inr (.inl ⟨a, vs, rfl, Same.tup S3.gh hs, fun hw => ?_, fun hw p hp => ?_⟩)
      · rw [ra.length] at hw
        rw [cut_whole hw.1 hw.2] at k
        exact q _ _ G3 H3 e3 S3 T r k
      · obtain ⟨g, rr⟩ := Gr.newT (W := W) S3.gh hp (ra.cut lo hi)
        exact q _ _ _ _ e3 (S3.up g) (T.trans S (Tr.up S3 g)) rr k
    · cases hz
      obtain ⟨a, vs, rfl, hs, ra⟩ := r.frl_inv
      refine .inl ⟨a, vs, rfl, Same.lst S3.gh hs, fun p hp => ?_⟩
      obtain ⟨g, rr⟩ := Gr.newL (W := W) S3.gh hp (ra.cut lo hi)
      exact q _ _ _ _ e3 (S3.up g) (T.trans S (Tr.up S3 g)) rr k

/-! ### chains of two comparisons -/
theorem ev_chain {r r' : R2} {o o' : D → D → Option D} {R : D → List Sl → Prop} (ho : OpD W r o) (ho' : OpD W r' o')
    (h : Ev W ta env fun x e1 => Ev W tb e1 fun y e2 => ∃ b, o x y = some (.bl b) ∧ if b = true then Ev W tc e2 fun w e3 => ∃ z, o' y w = some z ∧ R z e3 else R (.bl false) e2) : Ev W (tChain r r' ta tb tc) env R := fun G H σ S Q q =>
  h G H σ S _ fun x dx G1 H1 e1 S1 T1 r1 h1 => h1 G1 H1 σ S1 _ fun y dy G2 H2 e2 S2 T2 r2 ⟨b, hb, k⟩ =>
    ho G2 H2 x y dx dy _ S2.gh (r1.up T2.gg) r2 hb _ fun v G3 H3 g r3 => by
      refine ⟨b, r3.bl_inv, ?_⟩
      have S3 := S2.up g
      have T3 := (T1.trans S T2).trans S (Tr.up S2 g)
      cases b with
      | false => exact q _ _ G3 H3 e2 S3 T3 (.bl false) k
      | true =>
        have k : Ev W tc e2 _ := k
        show tc σ H3 _
        exact k G3 H3 σ S3 _ fun w dw G4 H4 e4 S4 T4 r4 ⟨z, hz, k4⟩ => ho' G4 H4 y w dy dw z S4.gh (r2.up (g.gg.trans T4.gg)) r4 hz Q fun v G5 H5 g5 r5 => q v z G5 H5 e4 (S4.up g5) ((T3.trans S T4).trans S (Tr.up S4 g5)) r5 k4

/-! ### truth -/
def truD : D → Option Bool
  | .non => some false
  | .bl b => some b
  | .int i => some (i != 0)
  | .str y => if y.length ≤ sizeLine then some ((y.length : Int) != 0) else none
  | .lst xs => some (!xs.isEmpty)
  | .tup xs => some (!xs.isEmpty)
  | _ => none
theorem isEmpty_rp {G : Hp} {vs : List V} {ds : List D} (r : RpAll W G vs ds) : (!ds.isEmpty) = !vs.isEmpty := by cases r <;> rfl
theorem tru_of {G H : Hp} {x : V} {d : D} {b : Bool} (e : Same G H) (r : Rp W G x d) (h : truD d = some b) : TruV W.K x H b := by
  cases d <;> first | (cases h; done) | skip
  · cases h
    rw [r.non_inv]
    exact rfl
  · cases h
    rw [r.bl_inv]
    exact rfl
  · cases h
    rw [r.int_inv]
    exact rfl
  · rename_i y
    have h : (if y.length ≤ sizeLine then some ((y.length : Int) != 0) else none) = some b := h
    split at h
    · rename_i hz
      cases h
      rw [r.str_inv]
      exact ⟨hz, rfl⟩
    · cases h
  · cases h
    obtain ⟨a, vs, rfl, hs, ra⟩ := r.lst_inv
    exact .inl ⟨vs, .inl (.inl (e _ _ hs)), isEmpty_rp ra⟩
  · cases h
    obtain ⟨a, vs, rfl, hs, ra⟩ := r.tup_inv
    exact .inr (.inl ⟨vs, Same.tup e hs, isEmpty_rp ra⟩)
theorem et_tru {R : Bool → List Sl → Prop} (h : Ev W te env fun d e1 => ∃ b, truD d = some b ∧ R b e1) : EvT W (tTru W.K te) env R := fun G H σ S Q q =>
  h G H σ S _ fun v d G1 H1 e1 S1 T1 r ⟨b, hb, k⟩ => ⟨b, tru_of S1.gh r hb, q b G1 H1 e1 S1 T1 k⟩

/-! ### what is walked -/
theorem isw_list {G : Hp} {a : Addr} {vs : List V} {ds : List D} (hs : G a = some (.lst vs)) (r : RpAll W G vs ds) : IsW W (Itl W.K a) G ds where
  go := fun i G' H' e e' h => ⟨vs, vs[i]'(by rw [r.length]; exact h), .inl (.inl (e' _ _ (e _ _ hs))), by simp [r.length, h]⟩
  stop := fun G' H' e e' => ⟨vs, .inl (.inl (e' _ _ (e _ _ hs))), Nat.le_of_eq r.length⟩
  yld := fun i G' H' x H'' d e e' hd ⟨eq, y⟩ => by
    subst eq
    obtain ⟨v, h1, h2⟩ := r.get hd
    have := y vs (.inl (.inl (e' _ _ (e _ _ hs))))
    rw [h1] at this
    cases this
    exact ⟨G', Gr.refl e', h2.up e⟩
theorem isw_tup {G : Hp} {a : Addr} {vs : List V} {ds : List D} (hs : SqT W.K G a vs) (r : RpAll W G vs ds) : IsW W (Itt W.K a) G ds where
  go := fun i G' H' e e' h => ⟨vs, vs[i]'(by rw [r.length]; exact h), Same.tup e' (Same.tup e hs), by simp [r.length, h]⟩
  stop := fun G' H' e e' => ⟨vs, Same.tup e' (Same.tup e hs), Nat.le_of_eq r.length⟩
  yld := fun i G' H' x H'' d e e' hd ⟨eq, y⟩ => by
    subst eq
    obtain ⟨v, h1, h2⟩ := r.get hd
    have := y vs (Same.tup e' (Same.tup e hs))
    rw [h1] at this
    cases this
    exact ⟨G', Gr.refl e', h2.up e⟩
def signs (z : Str) : List D := z.cps.toList.map fun c => .str ⟨#[c]⟩
theorem isw_str {G : Hp} (z : Str) : IsW W (Its z) G (signs z) where
  go := fun i G' H' e e' h => by
    show i < z.cps.size
    simpa [signs] using h
  stop := fun G' H' e e' => by
    show z.cps.size ≤ (signs z).length
    simp [signs]
  yld := fun i G' H' x H'' d e e' hd ⟨eq, c, hc, hx⟩ => by
    subst eq hx
    have : d = .str ⟨#[c]⟩ := by
      unfold signs at hd
      rw [List.getElem?_map, Array.getElem?_toList, hc] at hd
      cases hd
      rfl
    subst this
    exact ⟨G', Gr.refl e', .str _⟩
def upto (n : Nat) : List D := (List.range n).map fun k : Nat => .int (k : Int)
theorem isw_rng {G : Hp} (n : Nat) : IsW W (Itr 0 n) G (upto n) where
  go := fun i G' H' e e' h => by
    show i < n
    simpa [upto] using h
  stop := fun G' H' e e' => by
    show n ≤ (upto n).length
    simp [upto]
  yld := fun i G' H' x H'' d e e' hd ⟨eq, hx⟩ => by
    subst eq hx
    have hi : i < n := by
      have := (List.getElem?_eq_some_iff.mp hd).1
      simpa [upto] using this
    have : d = .int (i : Int) := by
      unfold upto at hd
      rw [List.getElem?_map, List.getElem?_range hi] at hd
      cases hd
      rfl
    subst this
    rw [Int.zero_add]
    exact ⟨G', Gr.refl e', .int _⟩
theorem ei_list {tl : TE} {R : List D → List Sl → Prop} (h : Ev W tl env fun d e1 => ∃ xs, d = .lst xs ∧ R xs e1) : EvI W (iList W.K tl) env R := fun G H σ S Q q =>
  h G H σ S _ fun v d G1 H1 e1 S1 T1 r ⟨xs, e, k⟩ => by
    subst e
    obtain ⟨a, vs, rfl, hs, ra⟩ := r.lst_inv
    exact ⟨a, rfl, ⟨vs, .inl (.inl (S1.gh _ _ hs))⟩, q _ xs G1 H1 e1 S1 T1 (isw_list hs ra) k⟩
theorem ei_tup {tl : TE} {R : List D → List Sl → Prop} (h : Ev W tl env fun d e1 => ∃ xs, d = .tup xs ∧ R xs e1) : EvI W (iTup W.K tl) env R := fun G H σ S Q q =>
  h G H σ S _ fun v d G1 H1 e1 S1 T1 r ⟨xs, e, k⟩ => by
    subst e
    obtain ⟨a, vs, rfl, hs, ra⟩ := r.tup_inv
    exact ⟨a, rfl, ⟨vs, Same.tup S1.gh hs⟩, q _ xs G1 H1 e1 S1 T1 (isw_tup hs ra) k⟩
theorem ei_str {tl : TE} {R : List D → List Sl → Prop} (h : Ev W tl env fun d e1 => ∃ z, d = .str z ∧ R (signs z) e1) : EvI W (iStr tl) env R := fun G H σ S Q q =>
  h G H σ S _ fun v d G1 H1 e1 S1 T1 r ⟨z, e, k⟩ => by
    subst e
    exact ⟨z, r.str_inv, q _ _ G1 H1 e1 S1 T1 (isw_str z) k⟩
theorem ei_rng {tl : TA} {R : List D → List Sl → Prop} (h : EvA W tl env fun ds e1 => ∃ n : Int, ds = [.int n] ∧ -(2 ^ 62) ≤ n ∧ n < 2 ^ 62 ∧ R (upto n.toNat) e1) : EvI W (iRng1 tl) env R := fun G H σ S Q q =>
  h G H σ S _ fun vs ds G1 H1 e1 S1 T1 r ⟨n, e, h1, h2, k⟩ => by
    subst e
    cases r with
    | cons r1 r2 =>
      cases r2
      rw [r1.int_inv]
      exact ⟨n, rfl, h1, h2, q _ _ G1 H1 e1 S1 T1 (isw_rng n.toNat) k⟩
end
end Nv

set_option Elab.async false
set_option linter.all false
set_option maxRecDepth 100000
set_option maxHeartbeats 4000000
/-! NvB: built-ins by data. -/
namespace Nv
open PySem L2 PyProof.Rows PySem.Spec

section
variable {W : Wd} {env : List Sl} {ta tb te : TE} {R : D → List Sl → Prop}

/-! ### len -/
def rLenU (K : PySem.W.Frag) : List V → Hp → VK → Prop := fun xs H Q => (∃ p ys, xs = [.ref p] ∧ (SqL K H p ys ∨ SqT K H p ys) ∧ Q (.int ys.length) H) ∨ ∃ z, xs = [.str z] ∧ z.length ≤ sizeLine ∧ Q (.int z.length) H
theorem cr_lenU {X : Cx} : CallR X (.builtin "len") (rLenU X.K) := callr_or call_len_seq call_len_str
def lenD : List D → Option D
  | [.lst xs] => some (.int xs.length)
  | [.tup xs] => some (.int xs.length)
  | [.str z] => if z.length ≤ sizeLine then some (.int z.length) else none
  | _ => none
/-- one argument -/
theorem rp1 {G : Hp} {xs : List V} {d : D} (r : RpAll W G xs [d]) : ∃ v, xs = [v] ∧ Rp W G v d := by
  cases r with
  | cons h k => cases k; exact ⟨_, rfl, h⟩
theorem rp2 {G : Hp} {xs : List V} {d e : D} (r : RpAll W G xs [d, e]) : ∃ v w, xs = [v, w] ∧ Rp W G v d ∧ Rp W G w e := by
  cases r with
  | cons h k =>
    obtain ⟨w, rfl, q⟩ := rp1 k
    exact ⟨_, w, rfl, h, q⟩
theorem cd_len : CallD W (rLenU W.K) lenD := by
  intro G H xs ds dz e r ho Q q
  cases ds with
  | nil => cases ho
  | cons d ds =>
    cases ds with
    | cons d' ds => cases d <;> cases ho
    | nil =>
      obtain ⟨v, rfl, r0⟩ := rp1 r
      clear r
      cases d <;> first | (cases ho; done) | skip
      · rename_i z
        have ho : (if z.length ≤ sizeLine then some (D.int z.length) else none) = some dz := ho
        split at ho
        · rename_i hz
          cases ho
          rw [r0.str_inv]
          exact .inr ⟨z, rfl, hz, q _ G H (Gr.refl e) (.int _)⟩
        · cases ho
      · cases ho
        obtain ⟨a, vs, rfl, hs, ra⟩ := r0.lst_inv
        exact .inl ⟨a, vs, rfl, .inl (.inl (.inl (e _ _ hs))), by rw [ra.length]; exact q _ G H (Gr.refl e) (.int _)⟩
      · cases ho
        obtain ⟨a, vs, rfl, hs, ra⟩ := r0.tup_inv
        exact .inl ⟨a, vs, rfl, .inr (Same.tup e hs), by rw [ra.length]; exact q _ G H (Gr.refl e) (.int _)⟩

/-! ### isinstance with a built-in class -/
def kindD : D → String
  | .non => "NoneType"
  | .bl _ => "bool"
  | .int _ => "int"
  | .str _ => "str"
  | .lst _ => "list"
  | .tup _ => "tuple"
  | .dct _ => "dict"
  | _ => ""
theorem ty_of {G H : Hp} {x : V} {d : D} (e : Same G H) (r : Rp W G x d) (hk : kindD d ≠ "") : TyX W.K H x (.type (kindD d)) := by
  cases r with
  | non => exact .base .non
  | bl b => exact .base (.bl b)
  | int i => exact .base (.int i)
  | str x => exact .base (.str x)
  | ty n => exact absurd rfl hk
  | frl h k => exact absurd rfl hk
  | lst h k => exact .base (.lst (e _ _ h))
  | tup h k =>
    rcases h with (h | ⟨o, h⟩) | ⟨o, its, n, h, c, _⟩
    · exact .base (.tup (e _ _ h))
    · exact .fTuple (e _ _ h)
    · exact .kTuple h c
  | dct h q k =>
    rcases h with h | ⟨o, h⟩
    · exact .base (.dK (e _ _ h))
    · exact .fDict (e _ _ h)
  | ins h q k => exact absurd rfl hk
/-- p tells of every kind whether it is a T -/
structure IsK (T : String) (p : D → Bool) : Prop where
  ok : ∀ d, kindD d ≠ "" → kitB (kindD d) T = some (p d)
theorem ev_isT {T : String} {p : D → Bool} (k : IsK T p) (h : Ev W te env fun d e1 => kindD d ≠ "" ∧ R (.bl (p d)) e1) : Ev W (tCB (rIsi W.K) (tCons te (tCons (tC (.ty T)) tNil))) env R := fun G H σ S Q q =>
  h G H σ S _ fun v d G1 H1 e1 S1 T1 r ⟨hk, hr⟩ => ⟨v, .ty T, _, _, p d, rfl, .ty T, ty_of S1.gh r hk, kit_ty (k.ok d hk), q _ _ G1 H1 e1 S1 T1 (.bl _) hr⟩
def isStrD : D → Bool
  | .str _ => true
  | _ => false
def isTupD : D → Bool
  | .tup _ => true
  | _ => false
def isLstD : D → Bool
  | .lst _ => true
  | _ => false
def isDctD : D → Bool
  | .dct _ => true
  | _ => false
def isIntD : D → Bool
  | .int _ => true
  | .bl _ => true
  | _ => false
def isBlD : D → Bool
  | .bl _ => true
  | _ => false
theorem isk_str : IsK "str" isStrD := ⟨fun d hd => match d, hd with
  | .non, _ => (by decide +kernel : kitB "NoneType" "str" = some false)
  | .bl _, _ => (by decide +kernel : kitB "bool" "str" = some false)
  | .int _, _ => (by decide +kernel : kitB "int" "str" = some false)
  | .str _, _ => (by decide +kernel : kitB "str" "str" = some true)
  | .lst _, _ => (by decide +kernel : kitB "list" "str" = some false)
  | .tup _, _ => (by decide +kernel : kitB "tuple" "str" = some false)
  | .dct _, _ => (by decide +kernel : kitB "dict" "str" = some false)
  | .ins _ _, h => absurd rfl h
  | .ty _, h => absurd rfl h
  | .frl _, h => absurd rfl h⟩
theorem isk_tup : IsK "tuple" isTupD := ⟨fun d hd => match d, hd with
  | .non, _ => (by decide +kernel : kitB "NoneType" "tuple" = some false)
  | .bl _, _ => (by decide +kernel : kitB "bool" "tuple" = some false)
  | .int _, _ => (by decide +kernel : kitB "int" "tuple" = some false)
  | .str _, _ => (by decide +kernel : kitB "str" "tuple" = some false)
  | .lst _, _ => (by decide +kernel : kitB "list" "tuple" = some false)
  | .tup _, _ => (by decide +kernel : kitB "tuple" "tuple" = some true)
  | .dct _, _ => (by decide +kernel : kitB "dict" "tuple" = some false)
  | .ins _ _, h => absurd rfl h
  | .ty _, h => absurd rfl h
  | .frl _, h => absurd rfl h⟩
theorem isk_lst : IsK "list" isLstD := ⟨fun d hd => match d, hd with
  | .non, _ => (by decide +kernel : kitB "NoneType" "list" = some false)
  | .bl _, _ => (by decide +kernel : kitB "bool" "list" = some false)
  | .int _, _ => (by decide +kernel : kitB "int" "list" = some false)
  | .str _, _ => (by decide +kernel : kitB "str" "list" = some false)
  | .lst _, _ => (by decide +kernel : kitB "list" "list" = some true)
  | .tup _, _ => (by decide +kernel : kitB "tuple" "list" = some false)
  | .dct _, _ => (by decide +kernel : kitB "dict" "list" = some false)
  | .ins _ _, h => absurd rfl h
  | .ty _, h => absurd rfl h
  | .frl _, h => absurd rfl h⟩
theorem isk_dct : IsK "dict" isDctD := ⟨fun d hd => match d, hd with
  | .non, _ => (by decide +kernel : kitB "NoneType" "dict" = some false)
  | .bl _, _ => (by decide +kernel : kitB "bool" "dict" = some false)
  | .int _, _ => (by decide +kernel : kitB "int" "dict" = some false)
  | .str _, _ => (by decide +kernel : kitB "str" "dict" = some false)
  | .lst _, _ => (by decide +kernel : kitB "list" "dict" = some false)
  | .tup _, _ => (by decide +kernel : kitB "tuple" "dict" = some false)
  | .dct _, _ => (by decide +kernel : kitB "dict" "dict" = some true)
  | .ins _ _, h => absurd rfl h
  | .ty _, h => absurd rfl h
  | .frl _, h => absurd rfl h⟩
theorem isk_int : IsK "int" isIntD := ⟨fun d hd => match d, hd with
  | .non, _ => (by decide +kernel : kitB "NoneType" "int" = some false)
  | .bl _, _ => (by decide +kernel : kitB "bool" "int" = some true)
  | .int _, _ => (by decide +kernel : kitB "int" "int" = some true)
  | .str _, _ => (by decide +kernel : kitB "str" "int" = some false)
  | .lst _, _ => (by decide +kernel : kitB "list" "int" = some false)
  | .tup _, _ => (by decide +kernel : kitB "tuple" "int" = some false)
  | .dct _, _ => (by decide +kernel : kitB "dict" "int" = some false)
  | .ins _ _, h => absurd rfl h
  | .ty _, h => absurd rfl h
  | .frl _, h => absurd rfl h⟩
theorem isk_bl : IsK "bool" isBlD := ⟨fun d hd => match d, hd with
  | .non, _ => (by decide +kernel : kitB "NoneType" "bool" = some false)
  | .bl _, _ => (by decide +kernel : kitB "bool" "bool" = some true)
  | .int _, _ => (by decide +kernel : kitB "int" "bool" = some false)
  | .str _, _ => (by decide +kernel : kitB "str" "bool" = some false)
  | .lst _, _ => (by decide +kernel : kitB "list" "bool" = some false)
  | .tup _, _ => (by decide +kernel : kitB "tuple" "bool" = some false)
  | .dct _, _ => (by decide +kernel : kitB "dict" "bool" = some false)
  | .ins _ _, h => absurd rfl h
  | .ty _, h => absurd rfl h
  | .frl _, h => absurd rfl h⟩

/-! ### int(x), abs(x), min(x, y) -/
def intOfD : List D → Option D
  | [.int i] => some (.int i)
  | [.bl b] => some (.int (if b then 1 else 0))
  | _ => none
theorem cd_int : CallD W (fun xs H Q => (∃ i, xs = [.int i] ∧ Q (.int i) H) ∨ ∃ k, xs = [.bl k] ∧ Q (.int (if k then 1 else 0)) H) intOfD := by
  intro G H xs ds dz e r ho Q q
  cases ds with
  | nil => cases ho
  | cons d ds =>
    cases ds with
    | cons d' ds => cases d <;> cases ho
    | nil =>
      obtain ⟨v, rfl, r0⟩ := rp1 r
      cases d <;> first | (cases ho; done) | skip
      · cases ho
        rw [r0.bl_inv]
        exact .inr ⟨_, rfl, q _ G H (Gr.refl e) (.int _)⟩
      · cases ho
        rw [r0.int_inv]
        exact .inl ⟨_, rfl, q _ G H (Gr.refl e) (.int _)⟩
def absD : List D → Option D
  | [.int i] => some (.int (if i < 0 then -i else i))
  | _ => none
theorem cd_abs : CallD W (fun xs H Q => ∃ i, xs = [.int i] ∧ Q (.int (if i < 0 then -i else i)) H) absD := by
  intro G H xs ds dz e r ho Q q
  cases ds with
  | nil => cases ho
  | cons d ds =>
    cases ds with
    | cons d' ds => cases d <;> cases ho
    | nil =>
      obtain ⟨v, rfl, r0⟩ := rp1 r
      cases d <;> first | (cases ho; done) | skip
      cases ho
      rw [r0.int_inv]
      exact ⟨_, rfl, q _ G H (Gr.refl e) (.int _)⟩
def min2D : List D → Option D
  | [.int i, .int j] => some (.int (if j < i then j else i))
  | _ => none
theorem cd_min2 : CallD W (fun xs H Q => ∃ i j, xs = [.int i, .int j] ∧ Q (.int (if j < i then j else i)) H) min2D := by
  intro G H xs ds dz e r ho Q q
  cases ds with
  | nil => cases ho
  | cons d ds =>
    cases ds with
    | nil => cases d <;> cases ho
    | cons d' ds =>
      cases ds with
      | cons d'' ds => cases d <;> cases d' <;> cases ho
      | nil =>
        obtain ⟨v, w, rfl, r1, r2⟩ := rp2 r
        cases d <;> first | (cases ho; done) | skip
        cases d' <;> first | (cases ho; done) | skip
        cases ho
        rw [r1.int_inv, r2.int_inv]
        exact ⟨_, _, rfl, q _ G H (Gr.refl e) (.int _)⟩

/-! ### tuple(x), list(x) -/
def tupOfD : List D → Option D
  | [.lst xs] => some (.tup xs)
  | [.tup xs] => some (.tup xs)
  | _ => none
theorem cd_tuple : CallD W (fun xs H Q => ∃ p ys, xs = [.ref p] ∧ ((SqL W.K H p ys ∧ ∀ l, H l = none → Q (.ref l) (upd H l (.tup ys))) ∨ (SqT W.K H p ys ∧ Q (.ref p) H))) tupOfD := by
  intro G H xs ds dz e r ho Q q
  cases ds with
  | nil => cases ho
  | cons d ds =>
    cases ds with
    | cons d' ds => cases d <;> cases ho
    | nil =>
      obtain ⟨v, rfl, r0⟩ := rp1 r
      cases d <;> first | (cases ho; done) | skip
      · cases ho
        obtain ⟨a, vs, rfl, hs, ra⟩ := r0.lst_inv
        refine ⟨a, vs, rfl, .inl ⟨.inl (.inl (e _ _ hs)), fun p hp => ?_⟩⟩
        obtain ⟨g, rr⟩ := Gr.newT (W := W) e hp ra
        exact q _ _ _ g rr
      · cases ho
        obtain ⟨a, vs, rfl, hs, ra⟩ := r0.tup_inv
        exact ⟨a, vs, rfl, .inr ⟨Same.tup e hs, q _ G H (Gr.refl e) r0⟩⟩
/-- list(x): a new list -/
theorem evf_list {tr : TA} {R : List D → List Sl → Prop} (h : EvA W tr env fun ds e1 => ∃ xs, (ds = [.lst xs] ∨ ds = [.tup xs]) ∧ R xs e1) : EvF W (tCB (fun xs H Q => ∃ p ys, xs = [.ref p] ∧ (SqL W.K H p ys ∨ SqT W.K H p ys) ∧ ∀ l, H l = none → Q (.ref l) (upd H l (.lst ys))) tr) env R := fun G H σ S Q q =>
  h G H σ S _ fun vs ds G1 H1 e1 S1 T1 r ⟨xs, hx, k⟩ => by
    have go : ∀ {a : Addr} {ys : List V}, (SqL W.K H1 a ys ∨ SqT W.K H1 a ys) → RpAll W G1 ys xs → vs = [.ref a] → (∃ p ys, vs = [.ref p] ∧ (SqL W.K H1 p ys ∨ SqT W.K H1 p ys) ∧ ∀ l, H1 l = none → Q (.ref l) (upd H1 l (.lst ys))) := fun {a ys} hs ra ev => by
      refine ⟨a, ys, ev, hs, fun p hp => ?_⟩
      have no : ¬ own σ e1 p := fun z => by
        obtain ⟨_, o, ho⟩ := S1.own_at z
        rw [hp] at ho
        cases ho
      have h0 : H p = none := by
        cases z : H p with
        | none => rfl
        | some o => exact absurd hp (T1.kp p (by rw [z]; exact fun y => nomatch y))
      exact q p ys xs G1 _ e1 (S1.mut (S1.gh.free hp) no) (T1.late h0) h0 upd_same (S1.gh.free hp) no ra k
    rcases hx with hx | hx
    · subst hx
      obtain ⟨v, rfl, r0⟩ := rp1 r
      obtain ⟨a, ys, rfl, hs, ra⟩ := r0.lst_inv
      exact go (.inl (.inl (.inl (S1.gh _ _ hs)))) ra rfl
    · subst hx
      obtain ⟨v, rfl, r0⟩ := rp1 r
      obtain ⟨a, ys, rfl, hs, ra⟩ := r0.tup_inv
      exact go (.inr (Same.tup S1.gh hs)) ra rfl

/-! ### all(list of bools) -/
theorem bls_of {G : Hp} : ∀ {vs : List V} {bs : List Bool}, RpAll W G vs (bs.map D.bl) → vs = bs.map V.bl
  | _, [], r => by cases r; rfl
  | _, b :: bs, r => by
    cases r with
    | cons h k =>
      rw [h.bl_inv, bls_of k]
      rfl
theorem ev_all {tr : TA} (h : EvA W tr env fun ds e1 => ∃ bs : List Bool, ds = [.lst (bs.map D.bl)] ∧ R (.bl (bs.all id)) e1) : Ev W (tCB (rAll W.K) tr) env R := fun G H σ S Q q =>
  h G H σ S _ fun vs ds G1 H1 e1 S1 T1 r ⟨bs, hx, k⟩ => by
    subst hx
    obtain ⟨v, rfl, r0⟩ := rp1 r
    obtain ⟨a, ys, rfl, hs, ra⟩ := r0.lst_inv
    rw [bls_of ra] at hs
    exact ⟨a, bs, rfl, .inl (.inl (S1.gh _ _ hs)), q _ _ G1 H1 e1 S1 T1 (.bl _) k⟩

/-! ### repr -/
mutual
def D.py : D → PyData
  | .non => .none
  | .bl b => .bool b
  | .int i => .int i
  | .str x => .str x
  | .lst xs => .list (pyAll xs)
  | .tup xs => .tuple (pyAll xs)
  | .dct kvs => .dict (pyKv kvs)
  | .ins _ _ => .none
  | .ty _ => .none
  | .frl _ => .none
def pyAll : List D → List PyData
  | [] => []
  | d :: ds => d.py :: pyAll ds
def pyKv : List (Key × D) → List (PyData × PyData)
  | [] => []
  | (.inl i, d) :: r => (.int i, d.py) :: pyKv r
  | (.inr x, d) :: r => (.str x, d.py) :: pyKv r
end
mutual
def D.plain : D → Bool
  | .lst xs => plainAll xs
  | .tup xs => plainAll xs
  | .dct kvs => plainKv kvs
  | .ins _ _ => false
  | .ty _ => false
  | .frl _ => false
  | _ => true
def plainAll : List D → Bool
  | [] => true
  | d :: ds => d.plain && plainAll ds
def plainKv : List (Key × D) → Bool
  | [] => true
  | (_, d) :: r => d.plain && plainKv r
end
theorem dt_kv {G : Hp} : ∀ {ds : List (Key × D)} {kvs : List (Key × V)}, kvs.map (·.1) = ds.map (·.1) → (∀ d ∈ ds, d.2.plain = true) → (∀ (v : V) (d : D), Rp W G v d → d.plain = true → (∃ k, (k, d) ∈ ds) → Dt W.K G v d.py) → RpAll W G (kvs.map (·.2)) (ds.map (·.2)) → DtKv W.K G kvs (pyKv ds)
  | [], kvs, e, _, _, r => by
    cases kvs with
    | nil => exact .nil
    | cons p kvs => cases e
  | (k, d) :: ds, kvs, e, hp, f, r => by
    cases kvs with
    | nil => cases e
    | cons p kvs =>
      obtain ⟨k', v⟩ := p
      have e1 : k' = k := by simpa using (List.cons.inj e).1
      subst e1
      cases r with
      | cons h q =>
        have ih := dt_kv (ds := ds) (kvs := kvs) (List.cons.inj e).2 (fun x hx => hp x (List.mem_cons_of_mem _ hx)) (fun v d r0 p0 ⟨k0, hk⟩ => f v d r0 p0 ⟨k0, List.mem_cons_of_mem _ hk⟩) q
        have h0 := f v d h (hp (k', d) List.mem_cons_self) ⟨k', List.mem_cons_self⟩
        cases k' with
        | inl i => exact .int h0 ih
        | inr x => exact .str h0 ih
theorem plainKv_mem : ∀ {ds : List (Key × D)}, plainKv ds = true → ∀ d ∈ ds, d.2.plain = true
  | [], _, d, h => by cases h
  | (k, x) :: r, h, d, hd => by
    have h : (x.plain && plainKv r) = true := h
    rw [Bool.and_eq_true] at h
    rcases List.mem_cons.mp hd with z | z
    · subst z
      exact h.1
    · exact plainKv_mem h.2 d z
mutual
theorem dt_of {G : Hp} : ∀ (d : D) (v : V), Rp W G v d → d.plain = true → Dt W.K G v d.py
  | .non, _, r, _ => by rw [r.non_inv]; exact .non
  | .bl b, _, r, _ => by rw [r.bl_inv]; exact .bl b
  | .int i, _, r, _ => by rw [r.int_inv]; exact .int i
  | .str x, _, r, _ => by rw [r.str_inv]; exact .str x
  | .lst xs, _, r, h => by
    obtain ⟨a, vs, rfl, hs, ra⟩ := r.lst_inv
    exact .lst (.inl (.inl hs)) (dt_all xs vs ra h)
  | .tup xs, _, r, h => by
    obtain ⟨a, vs, rfl, hs, ra⟩ := r.tup_inv
    exact .tup hs (dt_all xs vs ra h)
  | .dct ds, _, r, h => by
    obtain ⟨a, kvs, rfl, hs, e, ra⟩ := r.dct_inv
    exact .dct hs (dt_kv2 ds kvs e ra h)
  | .ins _ _, _, _, h => nomatch h
  | .ty _, _, _, h => nomatch h
  | .frl _, _, _, h => nomatch h
theorem dt_all {G : Hp} : ∀ (ds : List D) (vs : List V), RpAll W G vs ds → plainAll ds = true → DtAll W.K G vs (pyAll ds)
  | [], _, r, _ => by cases r; exact .nil
  | d :: ds, _, r, h => by
    have h : (d.plain && plainAll ds) = true := h
    rw [Bool.and_eq_true] at h
    cases r with
    | cons r1 r2 => exact .cons (dt_of d _ r1 h.1) (dt_all ds _ r2 h.2)
theorem dt_kv2 {G : Hp} : ∀ (ds : List (Key × D)) (kvs : List (Key × V)), kvs.map (·.1) = ds.map (·.1) → RpAll W G (kvs.map (·.2)) (ds.map (·.2)) → plainKv ds = true → DtKv W.K G kvs (pyKv ds)
  | [], kvs, e, _, _ => by
    cases kvs with
    | nil => exact .nil
    | cons p kvs => cases e
  | (k, d) :: ds, kvs, e, r, h => by
    have hh : (d.plain && plainKv ds) = true := h
    rw [Bool.and_eq_true] at hh
    cases kvs with
    | nil => cases e
    | cons p kvs =>
      obtain ⟨k', v⟩ := p
      have e1 : k' = k := by simpa using (List.cons.inj e).1
      subst e1
      cases r with
      | cons r1 r2 =>
        have ih := dt_kv2 ds kvs (List.cons.inj e).2 r2 hh.2
        have h0 := dt_of d v r1 hh.1
        cases k' with
        | inl i => exact .int h0 ih
        | inr x => exact .str h0 ih
end
/-- what repr may be asked of -/
structure Rok (d : D) : Prop where
  plain : d.plain = true
  tells : tells d.py = true
  show_ : d.py.showable = true
  depth : d.py.depth ≤ 60
  len : d.py.shown.length ≤ sizeLine
theorem ev_repr {tr : TA} (h : EvA W tr env fun ds e1 => ∃ d, ds = [d] ∧ Rok d ∧ R (.str d.py.shown) e1) : Ev W (tCB (rRepr W.K) tr) env R := fun G H σ S Q q =>
  h G H σ S _ fun vs ds G1 H1 e1 S1 T1 r ⟨d, hx, ok, k⟩ => by
    subst hx
    obtain ⟨v, rfl, r0⟩ := rp1 r
    exact ⟨v, d.py, rfl, Dt.up S1.gh _ _ (dt_of d v r0 ok.plain), ok.tells, ok.show_, ok.depth, ok.len, q _ _ G1 H1 e1 S1 T1 (.str _) k⟩

/-! ### methods of texts: s.split(t), s.join(xs) -/
def MetD (W : Wd) (r : V → List V → Hp → VK → Prop) (o : D → D → Option D) : Prop :=
  ∀ (G H : Hp) (x y : V) (dx dy dz : D), Same G H → Rp W G x dx → Rp W G y dy → o dx dy = some dz → ∀ Q : VK, (∀ v G' H', Gr G H G' H' → Rp W G' v dz → Q v H') → r x [y] H Q
theorem ev_m1 {r : V → List V → Hp → VK → Prop} {o : D → D → Option D} (ho : MetD W r o) (h : Ev W ta env fun x e1 => (∃ a, x = .str a) ∧ Ev W tb e1 fun y e2 => ∃ z, o x y = some z ∧ R z e2) : Ev W (tM1 r ta tb) env R := fun G H σ S Q q =>
  h G H σ S _ fun x dx G1 H1 e1 S1 T1 r1 ⟨⟨a, ea⟩, h1⟩ => ⟨by subst ea; exact ⟨a, r1.str_inv⟩, h1 G1 H1 σ S1 _ fun y dy G2 H2 e2 S2 T2 r2 ⟨z, hz, k⟩ =>
    ho G2 H2 x y dx dy z S2.gh (r1.up T2.gg) r2 hz Q fun v G3 H3 g r3 => q v z G3 H3 e2 (S2.up g) ((T1.trans S T2).trans S (Tr.up S2 g)) r3 k⟩
def splitD : D → D → Option D
  | .str a, .str b => if (b.length == 0) = false ∧ a.length + 2 ≤ sizeLine then some (.lst ((Txt.split a b).map D.str)) else none
  | _, _ => none
theorem rp_strs {G : Hp} : ∀ ys : List Str, RpAll W G (ys.map V.str) (ys.map D.str)
  | [] => .nil
  | y :: ys => .cons (.str y) (rp_strs ys)
theorem md_split : MetD W (fun x xs H Q => ∃ a b, x = .str a ∧ xs = [.str b] ∧ (b.length == 0) = false ∧ a.length + 2 ≤ sizeLine ∧ rNewStrs (Txt.split a b) H Q) splitD := by
  intro G H x y dx dy dz e rx ry ho Q q
  cases dx <;> first | (cases ho; done) | skip
  cases dy <;> first | (cases ho; done) | skip
  rename_i a b
  have ho : (if (b.length == 0) = false ∧ a.length + 2 ≤ sizeLine then some (D.lst ((Txt.split a b).map D.str)) else none) = some dz := ho
  split at ho
  · rename_i hz
    cases ho
    rw [rx.str_inv, ry.str_inv]
    refine ⟨a, b, rfl, rfl, hz.1, hz.2, fun p hp => ?_⟩
    obtain ⟨g, rr⟩ := Gr.newL (W := W) e hp (rp_strs (W := W) (G := G) (Txt.split a b))
    exact q _ _ _ g rr
  · cases ho
end
end Nv

set_option Elab.async false
set_option linter.all false
set_option maxRecDepth 100000
set_option maxHeartbeats 4000000
/-! NvX: what a law's own text wants: its defs and constants by name. -/
namespace Nv
open PySem L2 PyProof.Rows PySem.Spec

/-- a def of the text, by its name -/
structure DefAt (K : PySem.W.Frag) (mg : Str → Option Value) (x : Str) (st : Stmt) (ps : List Str) where
  f : Addr
  fd : FuncData
  fn : Fun K x x st f fd
  mg : mg x = some (.ref f)
  bd : Binds K fd ps []
def Const (mg : Str → Option Value) (x : Str) (v : V) : Prop := ∃ u, mg x = some u ∧ RelV v u
theorem pe_const {X : Cx} {x : Str} {v : V} {pos : Pos} (hx : Gl X x) (h : Const X.mg x v) (hd : (x == ("__debug__" : Str)) = false := by decide) : PE X (.Name x pos) (tC v) := by
  obtain ⟨u, h1, h2⟩ := h
  exact pe_glob hx h1 h2 hd
theorem pt_tru {X : Cx} {a : Expr} {ta : TE} (ha : PE X a ta) (he : ∀ whole, isTrue a X.env whole = (do let v ← whole; standAt a.pos; holding [v] (truthy v))) : PT X a (tTru X.K ta) := pt_truth ha he
theorem pip_of {X : Cx} {op : Operator} {r : R2} (h : OpR X (inplaceOp op) r) : PIp X op (fun x y H Q => r x y H Q) := fun pins s σ H x y v u Q I rx ry q => h pins s σ H x y v u Q I rx ry q
/-- name op= e -/
theorem run_aug {W : Wd} {env : List Sl} {P : Post} {j : Nat} {te : TE} {r : R2} {o : D → D → Option D} (ho : OpD W r o) (h : Ev W te env fun y e1 => ∃ x z, e1[j]? = some (.d x) ∧ o x y = some z ∧ P.nx (e1.set j (.d z))) (h0 : ∃ x, env[j]? = some (.d x)) : Run W (tAug j te (fun x y H Q => r x y H Q)) env P := fun G H σ E S n rt b c => by
  obtain ⟨x0, e0⟩ := h0
  obtain ⟨v, ev, rv⟩ := S.ok j _ e0
  refine ⟨v, ev, h G H σ S _ fun w d G1 H1 e1 S1 T1 r1 ⟨x, z, e2, hz, k⟩ => ?_⟩
  obtain ⟨v', ev', rv'⟩ := S1.ok j _ e2
  rw [ev] at ev'
  cases ev'
  refine ho G1 H1 v w x d z S1.gh rv' r1 hz _ fun y G2 H2 g r2 => ?_
  exact n G2 H2 _ _ ((S1.up g).set r2) ((T1.trans S (Tr.up S1 g)).trans S (Tr.set (S1.up g) fun s es => by rw [e2] at es; cases es; rfl)) k
theorem opd_iadd {W : Wd} : OpD W (rI0 fun i j => .int (i + j)) (intD fun i j => some (.int (i + j))) := opd_I0 fun _ _ _ => .int _
end Nv
namespace Nv
open PySem L2 PyProof.Rows PySem.Spec
/-! ### the rules with the written part said (a comprehension's block has its own context, but the same written part) -/
section
variable {X : Cx} {K : PySem.W.Frag}
theorem ka_add (h : X.K = K) : OpR X (binaryOp .Add) (rAddU K) := h ▸ op_addU
theorem ka_in (h : X.K = K) : OpR X (compareOp .In) (rInU K) := h ▸ op_inU
theorem ka_ni (h : X.K = K) : OpR X (compareOp .NotIn) (rNiU K) := h ▸ op_niU
theorem ka_ix (h : X.K = K) : IxR X (rIxU K) := h ▸ ix_U
theorem ka_sl (h : X.K = K) : SlR X (rSlU K) := h ▸ sl_U
theorem ka_len (h : X.K = K) : CallR X (.builtin "len") (rLenU K) := h ▸ cr_lenU
theorem ka_isi (h : X.K = K) : CallR X (.builtin "isinstance") (rIsi K) := h ▸ call_isi
theorem ka_tuple (h : X.K = K) : CallR X (.type "tuple") (fun xs H Q => ∃ p ys, xs = [.ref p] ∧ ((SqL K H p ys ∧ ∀ l, H l = none → Q (.ref l) (upd H l (.tup ys))) ∨ (SqT K H p ys ∧ Q (.ref p) H))) := h ▸ call_tuple_of
theorem ka_list (h : X.K = K) : CallR X (.type "list") (fun xs H Q => ∃ p ys, xs = [.ref p] ∧ (SqL K H p ys ∨ SqT K H p ys) ∧ ∀ l, H l = none → Q (.ref l) (upd H l (.lst ys))) := h ▸ call_list_of
theorem ka_all (hc : X.calm = true) (h : X.K = K) : CallR X (.builtin "all") (rAll K) := h ▸ cr_all hc
theorem ka_repr (hg : X.A.guards = some []) (hu : X.A.units + 64 < cLine) (h : X.K = K) : CallR X (.builtin "repr") (rRepr K) := h ▸ cr_repr hg hu
theorem ka_tru {a : Expr} {ta : TE} (h : X.K = K) (ha : PE X a ta) (he : ∀ whole, isTrue a X.env whole = (do let v ← whole; standAt a.pos; holding [v] (truthy v))) : PT X a (tTru K ta) := h ▸ pt_truth ha he
theorem ka_plist {tg l : Expr} {tl : TE} (h : X.K = K) (hl : PE X l tl) : PI X tg l (iList K tl) := h ▸ pi_list hl
theorem ka_ptup {tg l : Expr} {tl : TE} (h : X.K = K) (hl : PE X l tl) : PI X tg l (iTup K tl) := h ▸ pi_tup hl
end
end Nv

set_option Elab.async false
set_option linter.all false
set_option maxRecDepth 100000
set_option maxHeartbeats 4000000
/-! NvK: dicts of one's own; reading one's own as data from here on. -/
namespace Nv
open PySem L2 PyProof.Rows PySem.Spec

def valD (kvs : List (Key × D)) (k : Key) : Option D := (kvs.find? fun kv => decide (kv.1 = k)).map (·.2)
def putD (kvs : List (Key × D)) (k : Key) (d : D) : List (Key × D) :=
  if (kvs.any fun kv => decide (kv.1 = k)) = true then kvs.map (fun kv => if kv.1 = k then (kv.1, d) else kv) else kvs ++ [(k, d)]
def keyD : D → Option Key
  | .int i => some (.inl i)
  | .str x => some (.inr x)
  | _ => none
section
variable {W : Wd} {G H : Hp}
theorem key_of {v : V} {d : D} {k : Key} (r : Rp W G v d) (h : keyD d = some k) : v = kV k := by
  cases d <;> first | (cases h; done) | skip
  · cases h
    exact r.int_inv
  · cases h
    exact r.str_inv
theorem val_of {k : Key} : ∀ {vs : List (Key × V)} {ds : List (Key × D)}, vs.map (·.1) = ds.map (·.1) → RpAll W G (vs.map (·.2)) (ds.map (·.2)) → ∀ {d : D}, valD ds k = some d → ∃ v, valV vs k = some v ∧ Rp W G v d
  | [], [], _, _, d, h => by cases h
  | [], _ :: _, e, _, _, _ => by cases e
  | _ :: _, [], e, _, _, _ => by cases e
  | (a, v) :: vs, (b, x) :: ds, e, r, d, h => by
    have e1 : a = b := (List.cons.inj e).1
    subst e1
    cases r with
    | cons r0 r1 =>
      by_cases z : a = k
      · have : valD ((a, x) :: ds) k = some x := by simp [valD, List.find?_cons, z]
        rw [this] at h
        cases h
        exact ⟨v, valV_pos z, r0⟩
      · have : valD ((a, x) :: ds) k = valD ds k := by simp [valD, List.find?_cons, z]
        rw [this] at h
        obtain ⟨w, h1, h2⟩ := val_of (List.cons.inj e).2 r1 h
        exact ⟨w, by rw [valV_neg z]; exact h1, h2⟩
theorem any_keys {k : Key} : ∀ {vs : List (Key × V)} {ds : List (Key × D)}, vs.map (·.1) = ds.map (·.1) → (vs.any fun kv => decide (kv.1 = k)) = (ds.any fun kv => decide (kv.1 = k))
  | [], [], _ => rfl
  | [], _ :: _, e => by cases e
  | _ :: _, [], e => by cases e
  | (a, v) :: vs, (b, x) :: ds, e => by
    have e1 : a = b := (List.cons.inj e).1
    subst e1
    rw [List.any_cons, List.any_cons, any_keys (List.cons.inj e).2]
theorem put_map {k : Key} {v : V} {d : D} (rv : Rp W G v d) : ∀ {vs : List (Key × V)} {ds : List (Key × D)}, vs.map (·.1) = ds.map (·.1) → RpAll W G (vs.map (·.2)) (ds.map (·.2)) →
    (vs.map (fun kv => if kv.1 = k then (kv.1, v) else kv)).map (·.1) = (ds.map (fun kv => if kv.1 = k then (kv.1, d) else kv)).map (·.1) ∧ RpAll W G ((vs.map (fun kv => if kv.1 = k then (kv.1, v) else kv)).map (·.2)) ((ds.map (fun kv => if kv.1 = k then (kv.1, d) else kv)).map (·.2))
  | [], [], _, _ => ⟨rfl, .nil⟩
  | [], _ :: _, e, _ => by cases e
  | _ :: _, [], e, _ => by cases e
  | (a, w) :: vs, (b, x) :: ds, e, r => by
    have e1 : a = b := (List.cons.inj e).1
    subst e1
    cases r with
    | cons r0 r1 =>
      obtain ⟨h1, h2⟩ := put_map (k := k) rv (List.cons.inj e).2 r1
      by_cases z : a = k
      · refine ⟨?_, ?_⟩
        · simp only [List.map_cons, z, if_true]
          exact congrArg _ h1
        · simp only [List.map_cons, z, if_true]
          exact .cons rv h2
      · refine ⟨?_, ?_⟩
        · simp only [List.map_cons, z, if_false]
          exact congrArg _ h1
        · simp only [List.map_cons, z, if_false]
          exact .cons r0 h2
theorem put_of {k : Key} {v : V} {d : D} {vs : List (Key × V)} {ds : List (Key × D)} (rv : Rp W G v d) (e : vs.map (·.1) = ds.map (·.1)) (r : RpAll W G (vs.map (·.2)) (ds.map (·.2))) :
    (putK vs k v).map (·.1) = (putD ds k d).map (·.1) ∧ RpAll W G ((putK vs k v).map (·.2)) ((putD ds k d).map (·.2)) := by
  unfold putK putD
  rw [any_keys (k := k) e]
  split
  · exact put_map rv e r
  · rw [List.map_append, List.map_append, List.map_append, List.map_append, e]
    exact ⟨rfl, r.append (.cons rv .nil)⟩
end
def Sl.dict : Sl → Option (List (Key × D))
  | .od kvs => some kvs
  | .pd kvs => some kvs
  | _ => none
def Sl.dictTo : Sl → List (Key × D) → Sl
  | .pd _, kvs => .pd kvs
  | _, kvs => .od kvs
section
variable {W : Wd} {G H : Hp} {σ : L2.St} {env : List Sl}
theorem OkS.dict {ov : Option (Option V)} {s : Sl} {kvs : List (Key × D)} (h : OkS W G H ov s) (e : s.dict = some kvs) : ∃ l vs, ov = some (some (.ref l)) ∧ G l = none ∧ H l = some (.dK vs) ∧ vs.map (·.1) = kvs.map (·.1) ∧ RpAll W G (vs.map (·.2)) (kvs.map (·.2)) := by
  cases s <;> first | (cases e; done) | skip
  all_goals
    cases e
    exact h
theorem dict_owned {s : Sl} {kvs : List (Key × D)} (e : s.dict = some kvs) : s.owned = true := by
  cases s <;> first | rfl | cases e
/-- d[k], d one's own -/
theorem ev_dget {ty : TE} {i : Nat} {R : D → List Sl → Prop} (h0 : ∃ s kvs, env[i]? = some s ∧ s.dict = some kvs) (h : Ev W ty env fun y e1 => ∃ s kvs k d, e1[i]? = some s ∧ s.dict = some kvs ∧ keyD y = some k ∧ valD kvs k = some d ∧ R d e1) : Ev W (tDGet (tVar i) ty) env R := fun G H σ S Q q => by
  obtain ⟨s0, kv0, e0, d0⟩ := h0
  obtain ⟨p, _, ev, _⟩ := (S.ok i _ e0).dict d0
  refine ⟨.ref p, ev, h G H σ S _ fun y dy G1 H1 e1 S1 T1 ry ⟨s, kvs, k, d, e, sd, hk, hv, hr⟩ => ?_⟩
  obtain ⟨p', vs, ev', g1, h1, ke, ra⟩ := (S1.ok i _ e).dict sd
  rw [ev] at ev'
  cases ev'
  obtain ⟨v, z1, z2⟩ := val_of ke ra hv
  exact ⟨p, v, rfl, .inl ⟨vs, k, .inl h1, key_of ry hk, z1.symm⟩, q v d G1 H1 e1 S1 T1 z2 hr⟩
/-- d[k] = v, d one's own -/
theorem run_dput {ty tv : TE} {i : Nat} {P : Post} (h : Ev W tv env fun d e1 => (∃ s kvs, e1[i]? = some s ∧ s.dict = some kvs) ∧ Ev W ty e1 fun y e2 => e2 = e1 ∧ ∃ s kvs k, e1[i]? = some s ∧ s.dict = some kvs ∧ keyD y = some k ∧ kvs.length < sizeLine ∧ P.nx (e1.set i (s.dictTo (putD kvs k d)))) : Run W (sDPut (tVar i) ty tv) env P := fun G H σ E S n r b c =>
  h G H σ S _ fun v d G1 H1 e1 S1 T1 rv ⟨⟨s0, kv0, e0, d0⟩, h1⟩ => by
    obtain ⟨p, _, ev, _⟩ := (S1.ok i _ e0).dict d0
    refine ⟨.ref p, ev, h1 G1 H1 σ S1 _ fun y dy G2 H2 e2 S2 T2 ry ⟨z, s, kvs, k, e, sd, hk, hl, hn⟩ => ?_⟩
    subst z
    obtain ⟨p', vs, ev', g2, h2, ke, ra⟩ := (S2.ok i _ e).dict sd
    rw [ev] at ev'
    cases ev'
    have lv : vs.length = kvs.length := by
      have := congrArg List.length ke
      simpa using this
    obtain ⟨z1, z2⟩ := put_of (k := k) (rv.up T2.gg) ke ra
    have os := dict_owned sd
    refine ⟨p, upd H2 p (.dK (putK vs k v)), rfl, .inl ⟨vs, k, h2, key_of ry hk, by rw [lv]; exact hl, rfl⟩, n G2 _ σ _ (S2.chg (o := .dK (putK vs k v)) e os ev ?_) ((T1.trans S T2).trans S (Tr.chg S2 e os ev ?_)) hn⟩
    · cases s <;> first | (cases sd; done) | skip
      all_goals exact ⟨p, _, rfl, g2, upd_same, z1, z2⟩
    · cases s <;> first | (cases sd; done) | skip
      all_goals
        intro y
        first | rfl | cases y

/-- one's own is data from here on -/
def Sl.data : Sl → Option D
  | .d x => some x
  | .ol xs => some (.lst xs)
  | .od kvs => some (.dct kvs)
  | _ => none
theorem own_low {i : Nat} {x : D} {b : Addr} {σ : L2.St} {env : List Sl} : own σ (env.set i (.d x)) b → own σ env b := fun ⟨k, t, f, q, v⟩ => by
  by_cases z : i = k
  · subst z
    by_cases hl : i < env.length
    · rw [List.getElem?_set_self hl] at f
      cases f
      cases q
    · rw [List.getElem?_eq_none (by rw [List.length_set]; omega)] at f
      cases f
  · rw [List.getElem?_set_ne z] at f
    exact ⟨k, t, f, q, v⟩
theorem St.fz (S : St W G H σ env) {i : Nat} {l : Addr} {o : HO} {x : D} {s : Sl} (e : env[i]? = some s) (ow : s.owned = true) (np : s.pinned = false) (ev : σ[i]? = some (some (.ref l))) (hh : H l = some o) (g : G l = none) (rx : Rp W (upd G l o) (.ref l) x) :
    St W (upd G l o) H σ (env.set i (.d x)) ∧ Tr σ env G H σ (env.set i (.d x)) (upd G l o) H := by
  have il : i < env.length := (List.getElem?_eq_some_iff.mp e).1
  have gg : Same G (upd G l o) := fun b u z => by
    rw [upd_ne (ne_of_none z g)]
    exact z
  have S0 : St W G H σ (env.set i .no) := by
    refine ⟨S.gh, by rw [List.length_set]; exact S.len, fun k t f => ?_, fun a b s1 t1 m e1 o1 v1 e2 o2 v2 => ?_⟩
    · by_cases z : i = k
      · subst z
        rw [List.getElem?_set_self il] at f
        cases f
        exact trivial
      · rw [List.getElem?_set_ne z] at f
        exact S.ok k t f
    · have was : ∀ {k : Nat} {t : Sl}, (env.set i .no)[k]? = some t → t.owned = true → env[k]? = some t := fun {k t} f q => by
        by_cases z : i = k
        · subst z
          rw [List.getElem?_set_self il] at f
          cases f
          cases q
        · rw [List.getElem?_set_ne z] at f
          exact f
      exact S.ds a b s1 t1 m (was e1 o1) o1 v1 (was e2 o2) o2 v2
  have no : ¬ own σ (env.set i .no) l := fun ⟨k, t, f, q, v⟩ => by
    by_cases z : i = k
    · subst z
      rw [List.getElem?_set_self il] at f
      cases f
      cases q
    · rw [List.getElem?_set_ne z] at f
      exact z (S.ds i k _ t l e ow ev f q v)
  have S1 : St W (upd G l o) H σ ((env.set i .no).set i (.d x)) := by
    have q := (S0.freeze hh g no).set (j := i) rx
    have es : σ.set i (some (.ref l)) = σ := by
      apply List.ext_getElem?
      intro k
      by_cases z : i = k
      · subst z
        rw [List.getElem?_set_self (by rw [S.len]; exact il), ev]
      · rw [List.getElem?_set_ne z]
    rw [es] at q
    exact q
  rw [List.set_set] at S1
  have T := Tr.refl S1
  refine ⟨S1, gg, fun b u _ h0 => h0, fun b m n0 h0 => ?_, fun b z => .inl (own_low z), fun _ h => h, fun k t f q => ?_⟩
  · rw [upd_ne (fun z => m (by subst z; exact ⟨i, _, e, ow, ev⟩))]
    exact h0
  · have z : i ≠ k := fun y => by
      subst y
      rw [e] at f
      cases f
      rw [np] at q
      cases q
    exact ⟨rfl, t, by rw [List.getElem?_set_ne z]; exact f, q⟩
/-- a name, as data -/
theorem ev_varD {i : Nat} {s : Sl} {x : D} {R : D → List Sl → Prop} (e : env[i]? = some s) (hs : s.data = some x) (k : R x (env.set i (.d x))) : Ev W (tVar i) env R := fun G H σ S Q q => by
  cases s with
  | no => cases hs
  | pl xs => cases hs
  | pd kvs => cases hs
  | d y =>
    cases hs
    obtain ⟨v, ev, r⟩ := S.ok i _ e
    have es : env.set i (.d x) = env := by
      apply List.ext_getElem?
      intro k
      by_cases z : i = k
      · subst z
        rw [List.getElem?_set_self (List.getElem?_eq_some_iff.mp e).1, e]
      · rw [List.getElem?_set_ne z]
    rw [es] at k
    exact ⟨v, ev, q v x G H env S (Tr.refl S) r k⟩
  | ol xs =>
    cases hs
    obtain ⟨l, vs, ev, g, hh, ra⟩ := S.ok i _ e
    have gg : Same G (upd G l (.lst vs)) := fun b u z => by
      rw [upd_ne (ne_of_none z g)]
      exact z
    have rx : Rp W (upd G l (.lst vs)) (.ref l) (.lst xs) := .lst upd_same (ra.up gg)
    obtain ⟨S1, T1⟩ := S.fz e rfl rfl ev hh g rx
    exact ⟨_, ev, q _ _ _ H _ S1 T1 rx k⟩
  | od kvs =>
    cases hs
    obtain ⟨l, vs, ev, g, hh, ke, ra⟩ := S.ok i _ e
    have gg : Same G (upd G l (.dK vs)) := fun b u z => by
      rw [upd_ne (ne_of_none z g)]
      exact z
    have rx : Rp W (upd G l (.dK vs)) (.ref l) (.dct kvs) := .dct (.inl upd_same) ke (ra.up gg)
    obtain ⟨S1, T1⟩ := S.fz e rfl rfl ev hh g rx
    exact ⟨_, ev, q _ _ _ H _ S1 T1 rx k⟩
end
end Nv

set_option Elab.async false
set_option linter.all false
set_option maxRecDepth 100000
set_option maxHeartbeats 4000000
/-! NvM: mirrors. A mirror is a function over the slots' data; a term of rules is told by its mirror. -/
namespace Nv
open PySem L2 PyProof.Rows PySem.Spec

abbrev Env := List Sl
abbrev M (α : Type) := Env → Option (α × Env)
inductive Out where
  | nx | rt (d : D) | bk | ct
abbrev MS := M Out
def Post.hit (P : Post) : Out → Env → Prop
  | .nx, e => P.nx e
  | .rt d, e => P.rt d e
  | .bk, e => P.bk e
  | .ct, e => P.ct e
def SimE (W : Wd) (te : TE) (m : M D) : Prop := ∀ env R d e1, m env = some (d, e1) → R d e1 → Ev W te env R
def SimF (W : Wd) (te : TE) (m : M (List D)) : Prop := ∀ env R d e1, m env = some (d, e1) → R d e1 → EvF W te env R
def SimT (W : Wd) (tt : TT) (m : M Bool) : Prop := ∀ env R b e1, m env = some (b, e1) → R b e1 → EvT W tt env R
def SimA (W : Wd) (ta : TA) (m : M (List D)) : Prop := ∀ env R ds e1, m env = some (ds, e1) → R ds e1 → EvA W ta env R
def SimI (W : Wd) (wi : TI) (m : M (List D)) : Prop := ∀ env R ds e1, m env = some (ds, e1) → R ds e1 → EvI W wi env R
def SimO (W : Wd) (to : TO) (m : M (Option Int)) : Prop := ∀ env R o e1, m env = some (o, e1) → R o e1 → EvO W to env R
def SimS (W : Wd) (ts : TS) (m : MS) : Prop := ∀ env P o e1, m env = some (o, e1) → Post.hit P o e1 → Run W ts env P
def SimG (W : Wd) (g : TG) (m : D → Env → Option Env) : Prop := ∀ d env R e1, m d env = some e1 → R e1 → Tg W g d env R

/-! ### expressions -/
def mC (d : D) : M D := fun e => some (d, e)
def mVar (i : Nat) : M D := fun e => (e[i]?).bind fun s => s.data.bind fun x => some (x, e.set i (.d x))
def mOp (o : D → D → Option D) (a b : M D) : M D := fun e => (a e).bind fun p => (b p.2).bind fun q => (o p.1 q.1).bind fun z => some (z, q.2)
def mUn (o : D → Option D) (a : M D) : M D := fun e => (a e).bind fun p => (o p.1).bind fun z => some (z, p.2)
def mNil : M (List D) := fun e => some ([], e)
def mCons (a : M D) (r : M (List D)) : M (List D) := fun e => (a e).bind fun p => (r p.2).bind fun q => some (p.1 :: q.1, q.2)
def mCb (o : List D → Option D) (r : M (List D)) : M D := fun e => (r e).bind fun p => (o p.1).bind fun z => some (z, p.2)
def isBl : D → Option Bool
  | .bl b => some b
  | _ => none
def isInt : D → Option Int
  | .int b => some b
  | _ => none
def isLst : D → Option (List D)
  | .lst b => some b
  | _ => none
def isTup : D → Option (List D)
  | .tup b => some b
  | _ => none
def isStr : D → Option Str
  | .str b => some b
  | _ => none
def mBl (a : M D) : M Bool := fun e => (a e).bind fun p => (isBl p.1).bind fun b => some (b, p.2)
def mTru (a : M D) : M Bool := fun e => (a e).bind fun p => (truD p.1).bind fun b => some (b, p.2)
def mNot (a : M Bool) : M Bool := fun e => (a e).bind fun p => some (!p.1, p.2)
def mAnd (a b : M Bool) : M Bool := fun e => (a e).bind fun p => if p.1 = true then b p.2 else some (false, p.2)
def mOr (a b : M Bool) : M Bool := fun e => (a e).bind fun p => if p.1 = true then some (true, p.2) else b p.2
def mIf {α : Type} (t : M Bool) (a b : M α) : M α := fun e => (t e).bind fun p => if p.1 = true then a p.2 else b p.2
def mAndV (a b : M D) : M D := fun e => (a e).bind fun p => (isBl p.1).bind fun x => if x = true then b p.2 else some (.bl false, p.2)
def mOrV (a b : M D) : M D := fun e => (a e).bind fun p => (isBl p.1).bind fun x => if x = true then some (.bl true, p.2) else b p.2
def mNotV (a : M D) : M D := fun e => (a e).bind fun p => (isBl p.1).bind fun x => some (.bl (!x), p.2)
def mChain (o o' : D → D → Option D) (a b c : M D) : M D := fun e => (a e).bind fun p => (b p.2).bind fun q => (o p.1 q.1).bind fun z => (isBl z).bind fun x =>
  if x = true then (c q.2).bind fun r => (o' q.1 r.1).bind fun y => some (y, r.2) else some (.bl false, q.2)
def mSz (r : M (List D)) : M (List D) := fun e => (r e).bind fun p => if p.1.length ≤ sizeLine then some p else none
def mLst (r : M (List D)) : M D := fun e => (r e).bind fun p => some (.lst p.1, p.2)
def mTup (r : M (List D)) : M D := fun e => (mSz r e).bind fun p => some (.tup p.1, p.2)
def kindOk (d : D) : Bool := match d with
  | .ins _ _ => false
  | .ty _ => false
  | .frl _ => false
  | _ => true
def mIs (p : D → Bool) (a : M D) : M D := fun e => (a e).bind fun q => if kindOk q.1 = true then some (.bl (p q.1), q.2) else none
def mONone : M (Option Int) := fun e => some (none, e)
def mOSome (a : M D) : M (Option Int) := fun e => (a e).bind fun p => (isInt p.1).bind fun i => some (some i, p.2)
def mSl (a : M D) (lo hi : M (Option Int)) : M D := fun e => (a e).bind fun p => (lo p.2).bind fun q => (hi q.2).bind fun r => (slD p.1 q.1 r.1).bind fun z => some (z, r.2)
def mM1 (o : D → D → Option D) (a b : M D) : M D := fun e => (a e).bind fun p => (isStr p.1).bind fun _ => (b p.2).bind fun q => (o p.1 q.1).bind fun z => some (z, q.2)

section
variable {W : Wd} {ta tb tc te : TE} {ma mb mc me : M D} {t u : TT} {mt mu : M Bool} {tr : TA} {mr : M (List D)}
/-- the inversion of a row of binds -/
theorem bind_of {α β : Type} {o : Option (α × Env)} {f : α × Env → Option β} {z : β} (h : o.bind f = some z) : ∃ x e, o = some (x, e) ∧ f (x, e) = some z := by
  cases o with
  | none => cases h
  | some p => exact ⟨p.1, p.2, rfl, h⟩
theorem bind_of' {α β : Type} {o : Option α} {f : α → Option β} {z : β} (h : o.bind f = some z) : ∃ x, o = some x ∧ f x = some z := by
  cases o with
  | none => cases h
  | some p => exact ⟨p, rfl, h⟩
theorem isBl_of {d : D} {b : Bool} (h : isBl d = some b) : d = .bl b := by cases d <;> cases h; rfl
theorem isInt_of {d : D} {b : Int} (h : isInt d = some b) : d = .int b := by cases d <;> cases h; rfl
theorem isStr_of {d : D} {b : Str} (h : isStr d = some b) : d = .str b := by cases d <;> cases h; rfl
theorem isLst_of {d : D} {b : List D} (h : isLst d = some b) : d = .lst b := by cases d <;> cases h; rfl
theorem isTup_of {d : D} {b : List D} (h : isTup d = some b) : d = .tup b := by cases d <;> cases h; rfl
theorem se_c {v : V} {d : D} (h : ∀ G, Rp W G v d) : SimE W (tC v) (mC d) := fun env R x e1 hm hr => by cases hm; exact ev_c h hr
theorem se_int {i : Int} : SimE W (tC (.int i)) (mC (.int i)) := se_c fun _ => .int i
theorem se_str {x : Str} : SimE W (tC (.str x)) (mC (.str x)) := se_c fun _ => .str x
theorem se_bl {b : Bool} : SimE W (tC (.bl b)) (mC (.bl b)) := se_c fun _ => .bl b
theorem se_non : SimE W (tC .non) (mC .non) := se_c fun _ => .non
theorem se_ty {n : String} : SimE W (tC (.ty n)) (mC (.ty n)) := se_c fun _ => .ty n
theorem se_var {i : Nat} : SimE W (tVar i) (mVar i) := fun env R x e1 hm hr => by
  obtain ⟨s, hs, hm⟩ := bind_of' hm
  obtain ⟨y, hy, hm⟩ := bind_of' hm
  cases hm
  exact ev_varD hs hy hr
theorem se_op {r : R2} {o : D → D → Option D} (ho : OpD W r o) (ha : SimE W ta ma) (hb : SimE W tb mb) : SimE W (tOp r ta tb) (mOp o ma mb) := fun env R d e1 hm hr => by
  obtain ⟨x, e2, h1, hm⟩ := bind_of hm
  obtain ⟨y, e3, h2, hm⟩ := bind_of hm
  obtain ⟨z, h3, hm⟩ := bind_of' hm
  cases hm
  exact ev_op ho (ha _ _ _ _ h1 (hb _ _ _ _ h2 ⟨_, h3, hr⟩))
theorem se_un {r : V → Hp → VK → Prop} {o : D → Option D} (ho : UnD W r o) (ha : SimE W ta ma) : SimE W (tUn r ta) (mUn o ma) := fun env R d e1 hm hr => by
  obtain ⟨x, e2, h1, hm⟩ := bind_of hm
  obtain ⟨z, h3, hm⟩ := bind_of' hm
  cases hm
  exact ev_un ho (ha _ _ _ _ h1 ⟨_, h3, hr⟩)
theorem sa_nil : SimA W tNil mNil := fun env R x e1 hm hr => by cases hm; exact ea_nil hr
theorem sa_cons (ha : SimE W ta ma) (h : SimA W tr mr) : SimA W (tCons ta tr) (mCons ma mr) := fun env R d e1 hm hr => by
  obtain ⟨x, e2, h1, hm⟩ := bind_of hm
  obtain ⟨y, e3, h2, hm⟩ := bind_of hm
  cases hm
  exact ea_cons (ha _ _ _ _ h1 (h _ _ _ _ h2 hr))
theorem se_cb {r : List V → Hp → VK → Prop} {o : List D → Option D} (ho : CallD W r o) (h : SimA W tr mr) : SimE W (tCB r tr) (mCb o mr) := fun env R d e1 hm hr => by
  obtain ⟨x, e2, h1, hm⟩ := bind_of hm
  obtain ⟨z, h3, hm⟩ := bind_of' hm
  cases hm
  exact ev_cb ho (h _ _ _ _ h1 ⟨_, h3, hr⟩)
theorem sf_lst (h : SimA W tr mr) : SimF W (tLst tr) (mSz mr) := fun env R d e1 hm hr => by
  obtain ⟨x, e2, h1, hm⟩ := bind_of hm
  split at hm
  · rename_i hz
    cases hm
    exact evf_lst (h _ _ _ _ h1 ⟨hz, hr⟩)
  · cases hm
theorem se_f {m : M (List D)} (h : SimF W te m) : SimE W te (mLst m) := fun env R d e1 hm hr => by
  obtain ⟨x, e2, h1, hm⟩ := bind_of hm
  cases hm
  exact ev_f (h _ _ _ _ h1 hr)
theorem se_tup (h : SimA W tr mr) : SimE W (tTup tr) (mTup mr) := fun env R d e1 hm hr => by
  obtain ⟨x, e2, h1, hm⟩ := bind_of hm
  obtain ⟨x', e2', h1, hm'⟩ := bind_of h1
  cases hm
  split at hm'
  · rename_i hz
    cases hm'
    exact ev_tup (h _ _ _ _ h1 ⟨hz, hr⟩)
  · cases hm'
theorem kindOk_of {d : D} (h : kindOk d = true) : kindD d ≠ "" := by
  cases d <;> first | (cases h; done) | (intro z; exact absurd (show (_ : String) = "" from z) (by simp [kindD]))
theorem se_is {T : String} {p : D → Bool} (k : IsK T p) (ha : SimE W te ma) : SimE W (tCB (rIsi W.K) (tCons te (tCons (tC (.ty T)) tNil))) (mIs p ma) := fun env R d e1 hm hr => by
  obtain ⟨x, e2, h1, hm⟩ := bind_of hm
  split at hm
  · rename_i hz
    cases hm
    exact ev_isT k (ha _ _ _ _ h1 ⟨kindOk_of hz, hr⟩)
  · cases hm
/-! tests -/
theorem st_test (ha : SimE W te ma) : SimT W (tTest te) (mBl ma) := fun env R d e1 hm hr => by
  obtain ⟨x, e2, h1, hm⟩ := bind_of hm
  obtain ⟨z, h3, hm⟩ := bind_of' hm
  cases hm
  exact et_test (ha _ _ _ _ h1 ⟨_, isBl_of h3, hr⟩)
theorem st_B (ha : SimE W te ma) : SimT W (tB te) (mBl ma) := fun env R d e1 hm hr => by
  obtain ⟨x, e2, h1, hm⟩ := bind_of hm
  obtain ⟨z, h3, hm⟩ := bind_of' hm
  cases hm
  exact et_B (ha _ _ _ _ h1 ⟨_, isBl_of h3, hr⟩)
theorem st_tru (ha : SimE W te ma) : SimT W (tTru W.K te) (mTru ma) := fun env R d e1 hm hr => by
  obtain ⟨x, e2, h1, hm⟩ := bind_of hm
  obtain ⟨z, h3, hm⟩ := bind_of' hm
  cases hm
  exact et_tru (ha _ _ _ _ h1 ⟨_, h3, hr⟩)
theorem st_not (ha : SimT W t mt) : SimT W (tNot t) (mNot mt) := fun env R d e1 hm hr => by
  obtain ⟨x, e2, h1, hm⟩ := bind_of hm
  cases hm
  exact et_not (ha _ _ _ _ h1 hr)
theorem st_and (ha : SimT W t mt) (hb : SimT W u mu) : SimT W (tAnd t u) (mAnd mt mu) := fun env R d e1 hm hr => by
  obtain ⟨x, e2, h1, hm⟩ := bind_of hm
  refine et_and (ha _ _ _ _ h1 ?_)
  cases x with
  | true => exact hb _ _ _ _ hm hr
  | false => cases hm; exact hr
theorem st_or (ha : SimT W t mt) (hb : SimT W u mu) : SimT W (tOr t u) (mOr mt mu) := fun env R d e1 hm hr => by
  obtain ⟨x, e2, h1, hm⟩ := bind_of hm
  refine et_or (ha _ _ _ _ h1 ?_)
  cases x with
  | false => exact hb _ _ _ _ hm hr
  | true => cases hm; exact hr
theorem se_if (ht : SimT W t mt) (ha : SimE W ta ma) (hb : SimE W tb mb) : SimE W (tIf t ta tb) (mIf mt ma mb) := fun env R d e1 hm hr => by
  obtain ⟨x, e2, h1, hm⟩ := bind_of hm
  refine ev_if (ht _ _ _ _ h1 ?_)
  cases x with
  | false => exact hb _ _ _ _ hm hr
  | true => exact ha _ _ _ _ hm hr
theorem se_andV (ha : SimE W ta ma) (hb : SimE W tb mb) : SimE W (tAndV ta tb) (mAndV ma mb) := fun env R d e1 hm hr => by
  obtain ⟨x, e2, h1, hm⟩ := bind_of hm
  obtain ⟨z, h3, hm⟩ := bind_of' hm
  refine ev_andV (ha _ _ _ _ h1 ⟨z, isBl_of h3, ?_⟩)
  cases z with
  | true => exact hb _ _ _ _ hm hr
  | false => cases hm; exact hr
theorem se_orV (ha : SimE W ta ma) (hb : SimE W tb mb) : SimE W (tOrV ta tb) (mOrV ma mb) := fun env R d e1 hm hr => by
  obtain ⟨x, e2, h1, hm⟩ := bind_of hm
  obtain ⟨z, h3, hm⟩ := bind_of' hm
  refine ev_orV (ha _ _ _ _ h1 ⟨z, isBl_of h3, ?_⟩)
  cases z with
  | false => exact hb _ _ _ _ hm hr
  | true => cases hm; exact hr
theorem se_notV (ha : SimE W ta ma) : SimE W (tNotV ta) (mNotV ma) := fun env R d e1 hm hr => by
  obtain ⟨x, e2, h1, hm⟩ := bind_of hm
  obtain ⟨z, h3, hm⟩ := bind_of' hm
  cases hm
  exact ev_notV (ha _ _ _ _ h1 ⟨z, isBl_of h3, hr⟩)
theorem se_chain {r r' : R2} {o o' : D → D → Option D} (ho : OpD W r o) (ho' : OpD W r' o') (ha : SimE W ta ma) (hb : SimE W tb mb) (hc : SimE W tc mc) : SimE W (tChain r r' ta tb tc) (mChain o o' ma mb mc) := fun env R d e1 hm hr => by
  obtain ⟨x, e2, h1, hm⟩ := bind_of hm
  obtain ⟨y, e3, h2, hm⟩ := bind_of hm
  obtain ⟨z, h3, hm⟩ := bind_of' hm
  obtain ⟨b, h4, hm⟩ := bind_of' hm
  refine ev_chain ho ho' (ha _ _ _ _ h1 (hb _ _ _ _ h2 ⟨b, by rw [h3, isBl_of h4], ?_⟩))
  cases b with
  | false => cases hm; exact hr
  | true =>
    obtain ⟨w, e4, h5, hm⟩ := bind_of (show ((mc e3).bind fun r => (o' y r.1).bind fun y => some (y, r.2)) = some (d, e1) from hm)
    obtain ⟨q, h6, hm⟩ := bind_of' hm
    cases hm
    exact hc _ _ _ _ h5 ⟨_, h6, hr⟩
/-! slices, methods of texts -/
theorem so_none : SimO W tNoPart mONone := fun env R x e1 hm hr => by cases hm; exact eo_none hr
theorem so_some (ha : SimE W te ma) : SimO W (tPart te) (mOSome ma) := fun env R d e1 hm hr => by
  obtain ⟨x, e2, h1, hm⟩ := bind_of hm
  obtain ⟨z, h3, hm⟩ := bind_of' hm
  cases hm
  exact eo_some (ha _ _ _ _ h1 ⟨z, isInt_of h3, hr⟩)
theorem se_sl {tl th : TO} {ml mh : M (Option Int)} (ha : SimE W ta ma) (hl : SimO W tl ml) (hh : SimO W th mh) : SimE W (tSl (rSlU W.K) ta tl th) (mSl ma ml mh) := fun env R d e1 hm hr => by
  obtain ⟨x, e2, h1, hm⟩ := bind_of hm
  obtain ⟨y, e3, h2, hm⟩ := bind_of hm
  obtain ⟨w, e4, h3, hm⟩ := bind_of hm
  obtain ⟨z, h4, hm⟩ := bind_of' hm
  cases hm
  exact ev_sl (ha _ _ _ _ h1 (hl _ _ _ _ h2 (hh _ _ _ _ h3 ⟨_, h4, hr⟩)))
theorem se_m1 {r : V → List V → Hp → VK → Prop} {o : D → D → Option D} (ho : MetD W r o) (ha : SimE W ta ma) (hb : SimE W tb mb) : SimE W (tM1 r ta tb) (mM1 o ma mb) := fun env R d e1 hm hr => by
  obtain ⟨x, e2, h1, hm⟩ := bind_of hm
  obtain ⟨a, h2, hm⟩ := bind_of' hm
  obtain ⟨y, e3, h3, hm⟩ := bind_of hm
  obtain ⟨z, h4, hm⟩ := bind_of' hm
  cases hm
  exact ev_m1 ho (ha _ _ _ _ h1 ⟨⟨a, isStr_of h2⟩, hb _ _ _ _ h3 ⟨_, h4, hr⟩⟩)

/-! ### what is walked -/
def mIList (a : M D) : M (List D) := fun e => (a e).bind fun p => (isLst p.1).bind fun xs => some (xs, p.2)
def mITup (a : M D) : M (List D) := fun e => (a e).bind fun p => (isTup p.1).bind fun xs => some (xs, p.2)
def mIStr (a : M D) : M (List D) := fun e => (a e).bind fun p => (isStr p.1).bind fun z => some (signs z, p.2)
def rngD : List D → Option (List D)
  | [.int n] => if -(2 ^ 62) ≤ n ∧ n < 2 ^ 62 then some (upto n.toNat) else none
  | _ => none
def mIRng (a : M (List D)) : M (List D) := fun e => (a e).bind fun p => (rngD p.1).bind fun z => some (z, p.2)
theorem rng_of {x z : List D} (h : rngD x = some z) : ∃ n : Int, x = [.int n] ∧ -(2 ^ 62) ≤ n ∧ n < 2 ^ 62 ∧ z = upto n.toNat := by
  unfold rngD at h
  split at h
  · split at h
    · rename_i hz
      cases h
      exact ⟨_, rfl, hz.1, hz.2, rfl⟩
    · cases h
  · cases h
theorem si_list (ha : SimE W te ma) : SimI W (iList W.K te) (mIList ma) := fun env R d e1 hm hr => by
  obtain ⟨x, e2, h1, hm⟩ := bind_of hm
  obtain ⟨z, h3, hm⟩ := bind_of' hm
  cases hm
  exact ei_list (ha _ _ _ _ h1 ⟨_, isLst_of h3, hr⟩)
theorem si_tup (ha : SimE W te ma) : SimI W (iTup W.K te) (mITup ma) := fun env R d e1 hm hr => by
  obtain ⟨x, e2, h1, hm⟩ := bind_of hm
  obtain ⟨z, h3, hm⟩ := bind_of' hm
  cases hm
  exact ei_tup (ha _ _ _ _ h1 ⟨_, isTup_of h3, hr⟩)
theorem si_str (ha : SimE W te ma) : SimI W (iStr te) (mIStr ma) := fun env R d e1 hm hr => by
  obtain ⟨x, e2, h1, hm⟩ := bind_of hm
  obtain ⟨z, h3, hm⟩ := bind_of' hm
  cases hm
  exact ei_str (ha _ _ _ _ h1 ⟨_, isStr_of h3, hr⟩)
theorem si_rng (ha : SimA W tr mr) : SimI W (iRng1 tr) (mIRng mr) := fun env R d e1 hm hr => by
  obtain ⟨x, e2, h1, hm⟩ := bind_of hm
  obtain ⟨z, h3, hm⟩ := bind_of' hm
  cases hm
  refine ei_rng (ha _ _ _ _ h1 ?_)
  obtain ⟨n, rfl, h4, h5, rfl⟩ := rng_of h3
  exact ⟨_, rfl, h4, h5, hr⟩
/-! ### a comprehension -/
def lcGo (j : Nat) (t : M Bool) (m : M D) : List D → List D → M (List D)
  | [], acc, e => some (acc, e)
  | d :: ds, acc, e => (t (e.set j (.d d))).bind fun p => if p.1 = true then (m p.2).bind fun q => if acc.length < sizeLine then lcGo j t m ds (acc ++ [q.1]) (q.2.set j .no) else none else lcGo j t m ds acc (p.2.set j .no)
def isNo : Sl → Bool
  | .no => true
  | _ => false
def mLc (it : M (List D)) (t : M Bool) (m : M D) (j : Nat) : M (List D) := fun e => (it e).bind fun p => if (p.2[j]?).any isNo = true then lcGo j t m p.1 [] p.2 else none
theorem cmpR_of {tt : TT} {mt : M Bool} (ht : SimT W tt mt) (hm : SimE W te me) {j : Nat} {R : List D → Env → Prop} : ∀ (ds acc : List D) (env : Env) (r : List D) (e1 : Env), lcGo j mt me ds acc env = some (r, e1) → R r e1 → CmpR W j tt te R ds acc env
  | [], acc, env, r, e1, h, k => by cases h; exact k
  | d :: ds, acc, env, r, e1, h, k => by
    obtain ⟨x, e2, h1, h⟩ := bind_of h
    refine ht _ _ _ _ h1 ?_
    cases x with
    | false => exact cmpR_of ht hm ds acc _ r e1 h k
    | true =>
      obtain ⟨y, e3, h2, h⟩ := bind_of (show ((me e2).bind fun q => if acc.length < sizeLine then lcGo j mt me ds (acc ++ [q.1]) (q.2.set j .no) else none) = some (r, e1) from h)
      refine hm _ _ _ _ h2 ?_
      split at h
      · rename_i hz
        exact ⟨hz, cmpR_of ht hm ds _ _ r e1 h k⟩
      · cases h
theorem sf_lc {wi : TI} {mi : M (List D)} {tt : TT} {mt : M Bool} {j : Nat} (hi : SimI W wi mi) (ht : SimT W tt mt) (hm : SimE W te me) : SimF W (tLc wi (gName j) tt te [j]) (mLc mi mt me j) := fun env R d e1 h hr => by
  obtain ⟨x, e2, h1, h⟩ := bind_of h
  split at h
  · rename_i hz
    refine evf_lc (hi _ _ _ _ h1 ⟨?_, cmpR_of ht hm _ _ _ _ _ h hr⟩)
    cases q : e2[j]? with
    | none => simp only [q] at hz; cases hz
    | some s =>
      simp only [q] at hz
      cases s <;> first | rfl | cases hz
  · cases h
theorem st_yes : SimT W tYes (fun e => some (true, e)) := fun env R d e1 h hr => by
  cases h
  exact fun G H σ S Q q => q true G H env S (Tr.refl S) hr
end
end Nv

set_option Elab.async false
set_option linter.all false
set_option maxRecDepth 100000
set_option maxHeartbeats 4000000
/-! NvL2: comprehensions with two for. -/
namespace Nv
open PySem L2 PyProof.Rows PySem.Spec

def del (A : Addr) (H : Hp) : Hp := fun b => if b = A then none else H b
section
variable {W : Wd} {G H G1 H1 G2 H2 : Hp} {σ σ1 σ2 : L2.St} {env env1 env2 : List Sl} {A : Addr}
theorem del_ne {b : Addr} (h : b ≠ A) : del A H b = H b := if_neg h
theorem del_at : del A H A = none := if_pos rfl
theorem del_some {b : Addr} {o : HO} (h : del A H b = some o) : b ≠ A ∧ H b = some o := by
  by_cases z : b = A
  · rw [z, del_at] at h
    cases h
  · rw [del_ne z] at h
    exact ⟨z, h⟩
theorem del_not {b : Addr} (h : del A H b ≠ none) : b ≠ A ∧ H b ≠ none := by
  by_cases z : b = A
  · rw [z, del_at] at h
    exact absurd rfl h
  · rw [del_ne z] at h
    exact ⟨z, h⟩
theorem del_upd {o : HO} : del A (upd H A o) = del A H := by
  funext b
  by_cases z : b = A
  · subst z
    rw [del_at, del_at]
  · rw [del_ne z, del_ne z, upd_ne z]
theorem del_off (h : H A = none) : del A H = H := by
  funext b
  by_cases z : b = A
  · subst z
    rw [del_at, h]
  · rw [del_ne z]
theorem upd_del {o : HO} (h : H A = some o) : upd (del A H) A o = H := by
  funext b
  by_cases z : b = A
  · subst z
    rw [upd_same, h]
  · rw [upd_ne z, del_ne z]
theorem Tr.del (T : Tr σ env G H σ1 env1 G1 H1) : Tr σ env G (Nv.del A H) σ1 env1 G1 (Nv.del A H1) where
  gg := T.gg
  fr := fun b o n h => by
    obtain ⟨z, h⟩ := del_some h
    rw [del_ne z]
    exact T.fr b o n h
  nw := fun b m h => T.nw b m (del_not h).2
  ow := fun b h => (T.ow b h).imp id fun z => by
    by_cases y : b = A
    · rw [y, del_at]
    · rw [del_ne y, z]
  kp := fun b h => by
    obtain ⟨z, h⟩ := del_not h
    rw [del_ne z]
    exact T.kp b h
  pn := T.pn
/-- what matters of the state alone is that known things are there -/
theorem Tr.trans' (a : Tr σ env G H σ1 env1 G1 H1) (b : Tr σ1 env1 G1 H1 σ2 env2 G2 H2) : Tr σ env G H σ2 env2 G2 H2 where
  gg := a.gg.trans b.gg
  fr := fun c o n h => b.fr c o (fun z => by
    rcases a.ow c z with z | z
    · exact n z
    · rw [h] at z
      cases z) (a.fr c o n h)
  nw := fun c m n h => b.nw c (fun z => (a.ow c z).elim m fun y => n y) (a.kp c n) (a.nw c m n h)
  ow := fun c h => by
    rcases b.ow c h with h | h
    · exact a.ow c h
    · refine .inr ?_
      cases q : H c with
      | none => rfl
      | some o => exact absurd h (a.kp c (by rw [q]; exact fun z => nomatch z))
  kp := fun c n => b.kp c (a.kp c n)
  pn := fun i s e h => by
    obtain ⟨e1, s1, f1, h1⟩ := a.pn i s e h
    obtain ⟨e2, s2, f2, h2⟩ := b.pn i s1 f1 h1
    exact ⟨e2.trans e1, s2, f2, h2⟩

/-- the list at A, which is nobody's, is worth acc -/
structure AtA (W : Wd) (G H : Hp) (σ : L2.St) (env : List Sl) (A : Addr) (acc : List D) : Prop where
  ex : ∃ av, H A = some (.lst av) ∧ RpAll W G av acc
  g : G A = none
  o : ¬ own σ env A
/-- what a turn does (with its name set) to the list at A: by data -/
def BodyS (W : Wd) (A : Addr) (tb : L2.St → Hp → (Hp → Prop) → Prop) (B : List D → List Sl → (List D → List Sl → Prop) → Prop) : Prop :=
  ∀ (σ : L2.St) (G H : Hp) (e : List Sl) (acc : List D) (K : List D → List Sl → Prop) (Nx : Hp → Prop), St W G H σ e → AtA W G H σ e A acc → B acc e K →
    (∀ G' H' e' acc', St W G' H' σ e' → Tr σ e G (Nv.del A H) σ e' G' (Nv.del A H') → AtA W G' H' σ e' A acc' → K acc' e' → Nx H') → tb σ H Nx
def LoopR (B : List D → List Sl → (List D → List Sl → Prop) → Prop) (j : Nat) (vs : List Nat) (R : List D → List Sl → Prop) : List D → List D → List Sl → Prop
  | [], acc, env => R acc env
  | d :: ds, acc, env => B acc (env.set j (.d d)) fun acc' e' => (∀ i ∈ vs, (e'.set j .no)[i]? = some .no) ∧ LoopR B j vs R ds acc' (e'.set j .no)
theorem wipe_len (σ : L2.St) (vs : List Nat) : (wipe σ vs).length = σ.length := wipe_length σ vs
theorem St.free {vs : List Nat} (hv : ∀ i ∈ vs, env[i]? = some Sl.no) (hl : σ1.length = σ.length) (hs : ∀ i, i ∉ vs → σ1[i]? = σ[i]?) (S : St W G H σ env) : St W G H σ1 env := S.reslot hl fun i s e => by
  by_cases z : i ∈ vs
  · rw [hv i z] at e
    cases e
    exact .inl rfl
  · exact .inr (hs i z)
theorem own_free {vs : List Nat} (hv : ∀ i ∈ vs, env[i]? = some Sl.no) (hs : ∀ i, i ∉ vs → σ1[i]? = σ[i]?) {b : Addr} (h : own σ1 env b) : own σ env b := own_reslot (fun i s e => by
  by_cases z : i ∈ vs
  · rw [hv i z] at e
    cases e
    exact .inl rfl
  · exact .inr (hs i z)) h
theorem wipe_in {i : Nat} : ∀ {vs : List Nat}, i ∈ vs → (wipe σ vs)[i]? = if i < σ.length then some none else none
  | v :: vs, h => by
    show ((wipe σ vs).set v none)[i]? = _
    by_cases z : v = i
    · subst z
      split
      · rename_i l
        rw [List.getElem?_set_self (by rw [wipe_length]; exact l)]
      · rename_i l
        rw [List.getElem?_eq_none (by rw [List.length_set, wipe_length]; omega)]
    · rw [List.getElem?_set_ne z]
      rcases List.mem_cons.mp h with y | y
      · exact absurd y.symm z
      · exact wipe_in y
theorem wipe_set {j : Nat} {vs : List Nat} (hj : j ∈ vs) (x : Option V) : wipe ((wipe σ vs).set j x) vs = wipe σ vs := by
  apply List.ext_getElem?
  intro i
  by_cases h : i ∈ vs
  · rw [wipe_in h, wipe_in h, List.length_set, wipe_length]
  · rw [wipe_out h, List.getElem?_set_ne (fun z : j = i => h (by rw [← z]; exact hj))]
theorem St.drop (S : St W G H σ env) (j : Nat) : St W G H σ (env.set j .no) := by
  have was : ∀ {k : Nat} {t : Sl}, (env.set j .no)[k]? = some t → t = .no ∨ env[k]? = some t := fun {k t} f => by
    by_cases z : j = k
    · subst z
      by_cases hl : j < env.length
      · rw [List.getElem?_set_self hl] at f
        cases f
        exact .inl rfl
      · rw [List.getElem?_eq_none (by rw [List.length_set]; omega)] at f
        cases f
    · rw [List.getElem?_set_ne z] at f
      exact .inr f
  refine ⟨S.gh, by rw [List.length_set]; exact S.len, fun i s e => ?_, fun i k s t l e1 o1 v1 e2 o2 v2 => ?_⟩
  · rcases was e with z | z
    · subst z
      exact trivial
    · exact S.ok i s z
  · rcases was e1 with z | z
    · subst z
      cases o1
    · rcases was e2 with y | y
      · subst y
        cases o2
      · exact S.ds i k s t l z o1 v1 y o2 v2
theorem own_drop {j : Nat} {b : Addr} (h : own σ (env.set j .no) b) : own σ env b := by
  obtain ⟨k, t, f, q, v⟩ := h
  by_cases z : j = k
  · subst z
    by_cases hl : j < env.length
    · rw [List.getElem?_set_self hl] at f
      cases f
      cases q
    · rw [List.getElem?_eq_none (by rw [List.length_set]; omega)] at f
      cases f
  · rw [List.getElem?_set_ne z] at f
    exact ⟨k, t, f, q, v⟩
theorem lc_loop {J : It} {ds acc : List D} {tb : L2.St → Hp → (Hp → Prop) → Prop} {B : List D → List Sl → (List D → List Sl → Prop) → Prop} {j : Nat} {vs : List Nat} {R : List D → List Sl → Prop} {F : Hp → Prop}
    (hw : IsW W J G1 ds) (hj : j ∈ vs) (hb : BodyS W A tb B) (S1 : St W G1 H1 σ env) (hv : ∀ i ∈ vs, env[i]? = some Sl.no) (hA : AtA W G1 H1 σ env A acc) (k : LoopR B j vs R ds acc env)
    (fin : ∀ G2 H2 e2 acc', St W G2 H2 σ e2 → Tr σ env G1 (Nv.del A H1) σ e2 G2 (Nv.del A H2) → (∀ i ∈ vs, e2[i]? = some Sl.no) → AtA W G2 H2 σ e2 A acc' → R acc' e2 → F H2) :
    ∃ Wd : Nat → Nat → Hp → Prop, (∃ m, Wd 0 m H1) ∧ ∀ i m H, Wd i m H → (J.stop i H ∧ F H) ∨ (J.go i H ∧ ∃ Nx : Hp → Prop, (∀ H', Nx H' → ∃ m', m' < m ∧ Wd (i + 1) m' H') ∧ ∀ x H', J.yld i H x H' →
      (wipe ((wipe σ vs).set j (some x)) vs = wipe σ vs ∧ tb ((wipe σ vs).set j (some x)) H' Nx)) := by
  let I : Nat → Hp → Prop := fun i H2 => i ≤ ds.length ∧ ∃ G2 e2 acc', St W G2 H2 σ e2 ∧ Tr σ env G1 (Nv.del A H1) σ e2 G2 (Nv.del A H2) ∧ (∀ i ∈ vs, e2[i]? = some Sl.no) ∧ AtA W G2 H2 σ e2 A acc' ∧ LoopR B j vs R (ds.drop i) acc' e2
  refine ⟨fun i m H2 => m = ds.length - i ∧ I i H2, ⟨ds.length, by simp, Nat.zero_le _, G1, env, acc, S1, (Tr.refl S1).del, hv, hA, k⟩, ?_⟩
  rintro i m H2 ⟨rfl, hi, G2, e2, acc2, S2, T2, hv2, hA2, k2⟩
  by_cases hlt : i < ds.length
  · refine .inr ⟨hw.go i G2 H2 T2.gg S2.gh hlt, I (i + 1), fun H3 z => ⟨ds.length - (i + 1), by omega, rfl, z⟩, fun x H3 y => ⟨wipe_set hj _, ?_⟩⟩
    obtain ⟨G3, g3, r3⟩ := hw.yld i G2 H2 x H3 ds[i] T2.gg S2.gh (by simp [hlt]) y
    have e : ds.drop i = ds[i] :: ds.drop (i + 1) := by simp [hlt]
    rw [e] at k2
    have k2 : B acc2 (e2.set j (.d ds[i])) fun acc' e' => (∀ i ∈ vs, (e'.set j .no)[i]? = some Sl.no) ∧ LoopR B j vs R (ds.drop (i + 1)) acc' (e'.set j .no) := k2
    have out : ∀ i, i ∉ vs → (wipe σ vs)[i]? = σ[i]? := fun i h => wipe_out h
    have outx : ∀ i, i ∉ vs → ((wipe σ vs).set j (some x))[i]? = σ[i]? := fun i h => by rw [List.getElem?_set_ne (fun z : j = i => h (by rw [← z]; exact hj)), wipe_out h]
    have S3 : St W G3 H3 σ e2 := S2.up g3
    have S4 : St W G3 H3 ((wipe σ vs).set j (some x)) (e2.set j (.d ds[i])) := (St.free hv2 (wipe_length σ vs) out S3).set r3
    have down : ∀ b, own ((wipe σ vs).set j (some x)) (e2.set j (.d ds[i])) b → own σ e2 b := fun b z => own_free hv2 out (own_set z)
    obtain ⟨⟨av, a1, a2⟩, a3, a4⟩ := hA2
    have hA4 : AtA W G3 H3 ((wipe σ vs).set j (some x)) (e2.set j (.d ds[i])) A acc2 := ⟨⟨av, g3.hh _ _ a1, a2.up g3.gg⟩, g3.nw A (by rw [a1]; exact fun z => nomatch z) a3, fun z => a4 (down A z)⟩
    refine hb _ G3 H3 _ acc2 _ _ S4 hA4 k2 fun G5 H5 e5 acc5 S5 T5 hA5 ⟨hv5, k5⟩ => ?_
    have lower : ∀ b, own σ (e5.set j .no) b → own ((wipe σ vs).set j (some x)) e5 b := fun b z => own_drop (own_free (σ1 := σ) (σ := (wipe σ vs).set j (some x)) hv5 (fun i h => (outx i h).symm) z)
    refine ⟨hlt, G5, e5.set j .no, acc5, St.free hv5 (by rw [List.length_set, wipe_length]) (fun i h => (outx i h).symm) (S5.drop j), (T2.trans' (Tr.up S2 g3).del).trans' ⟨T5.gg, fun b o n h => T5.fr b o (fun z => n (down b z)) h, fun b m => T5.nw b fun z => m (down b z), fun b z => (T5.ow b (lower b z)).imp (down b) id, T5.kp, fun i s es h => ?_⟩, hv5, ⟨hA5.ex, hA5.g, fun z => hA5.o (lower A z)⟩, k5⟩
    have ni : i ∉ vs := fun z => by
      rw [hv2 i z] at es
      cases es
      cases h
    have ne : j ≠ i := fun z => ni (z ▸ hj)
    obtain ⟨_, s', e', h'⟩ := T5.pn i s (by rw [List.getElem?_set_ne ne]; exact es) h
    exact ⟨rfl, s', by rw [List.getElem?_set_ne ne]; exact e', h'⟩
  · have e : i = ds.length := by omega
    subst e
    rw [List.drop_length] at k2
    exact .inl ⟨hw.stop G2 H2 T2.gg S2.gh, fin G2 H2 e2 acc2 S2 T2 hv2 hA2 k2⟩

/-! ### a turn that appends -/
def tbS (tt : TT) (te : TE) (A : Addr) : L2.St → Hp → (Hp → Prop) → Prop := fun σ2 H2 Nx => tt σ2 H2 fun b H3 => if b = true then te σ2 H3 fun y H4 => ∃ acc, H4 A = some (.lst acc) ∧ acc.length < sizeLine ∧ Nx (upd H4 A (.lst (acc ++ [y]))) else Nx H3
def BS (W : Wd) (tt : TT) (te : TE) : List D → List Sl → (List D → List Sl → Prop) → Prop := fun acc e K => EvT W tt e fun b e1 => if b = true then Ev W te e1 fun y e2 => acc.length < sizeLine ∧ K (acc ++ [y]) e2 else K acc e1
theorem AtA.step {acc : List D} (h : AtA W G H σ env A acc) (T : Tr σ env G H σ env1 G1 H1) : AtA W G1 H1 σ env1 A acc := by
  obtain ⟨⟨av, a1, a2⟩, a3, a4⟩ := h
  refine ⟨⟨av, T.fr A _ a4 a1, a2.up T.gg⟩, T.nw A a4 (by rw [a1]; exact fun z => nomatch z) a3, fun z => ?_⟩
  rcases T.ow A z with y | y
  · exact a4 y
  · rw [a1] at y
    cases y
theorem body_s {tt : TT} {te : TE} : BodyS W A (tbS tt te A) (BS W tt te) := by
  intro σ G H e acc K Nx S hA hB q
  refine hB G H σ S _ fun b G1 H1 e1 S1 T1 k => ?_
  cases b with
  | false => exact q G1 H1 e1 acc S1 T1.del (hA.step T1) k
  | true =>
    have k : Ev W te e1 _ := k
    show te σ H1 _
    refine k G1 H1 σ S1 _ fun y d G2 H2 e2 S2 T2 r ⟨hz, k2⟩ => ?_
    have hA2 := hA.step (T1.trans' T2)
    obtain ⟨⟨av, a1, a2⟩, a3, a4⟩ := hA2
    refine ⟨av, a1, by rw [a2.length]; exact hz, q G2 _ e2 (acc ++ [d]) (S2.mut a3 a4) ?_ ⟨⟨_, upd_same, a2.append (.cons r .nil)⟩, a3, a4⟩ k2⟩
    rw [del_upd]
    exact (T1.trans' T2).del
/-! ### a turn that goes through another thing -/
def tbO (tt : TT) (wi1 : TI) (k : Nat) (tt1 : TT) (te : TE) (A : Addr) : L2.St → Hp → (Hp → Prop) → Prop := fun σ2 H2 Nx => tt σ2 H2 fun b H3 => if b = true then wi1 σ2 H3 fun J1 H4 => ∃ W1 : Nat → Nat → Hp → Prop, (∃ m, W1 0 m H4) ∧ ∀ j m H, W1 j m H →
  (J1.stop j H ∧ Nx H) ∨ (J1.go j H ∧ ∃ Nx1 : Hp → Prop, (∀ H', Nx1 H' → ∃ m', m' < m ∧ W1 (j + 1) m' H') ∧ ∀ x H', J1.yld j H x H' → (wipe ((wipe σ2 [k]).set k (some x)) [k] = wipe σ2 [k] ∧ tbS tt1 te A ((wipe σ2 [k]).set k (some x)) H' Nx1)) else Nx H3
def BO (W : Wd) (tt : TT) (wi1 : TI) (k : Nat) (tt1 : TT) (te : TE) : List D → List Sl → (List D → List Sl → Prop) → Prop := fun acc e K => EvT W tt e fun b e1 =>
  if b = true then EvI W wi1 e1 fun es e2 => (∀ i ∈ [k], e2[i]? = some Sl.no) ∧ LoopR (BS W tt1 te) k [k] K es acc e2 else K acc e1
theorem body_o {tt tt1 : TT} {te : TE} {wi1 : TI} {k : Nat} : BodyS W A (tbO tt wi1 k tt1 te A) (BO W tt wi1 k tt1 te) := by
  intro σ G H e acc K Nx S hA hB q
  refine hB G H σ S _ fun b G1 H1 e1 S1 T1 kk => ?_
  cases b with
  | false => exact q G1 H1 e1 acc S1 T1.del (hA.step T1) kk
  | true =>
    have kk : EvI W wi1 e1 _ := kk
    show wi1 σ H1 _
    refine kk G1 H1 σ S1 _ fun J es G2 H2 e2 S2 T2 hw ⟨hv, k2⟩ => ?_
    exact lc_loop hw (List.mem_singleton.mpr rfl) body_s S2 hv (hA.step (T1.trans' T2)) k2 fun G3 H3 e3 acc3 S3 T3 hv3 hA3 k3 => q G3 H3 e3 acc3 S3 ((T1.trans' T2).del.trans' T3) hA3 k3
/-- a comprehension with two for -/
theorem evf_lc2 {wi wi1 : TI} {tt tt1 : TT} {te : TE} {j k : Nat} {R : List D → List Sl → Prop} (h : EvI W wi env fun ds e1 => (∀ i ∈ [j, k], e1[i]? = some Sl.no) ∧ LoopR (BO W tt wi1 k tt1 te) j [j, k] R ds [] e1) :
    EvF W (tLc2 wi (gName j) tt wi1 (gName k) tt1 te [j, k] [k]) env R := fun G H σ S Q q => by
  refine h G H σ S _ fun J ds G1 H1 e1 S1 T1 hw ⟨hv, kk⟩ => fun A hA => ?_
  have nA : ¬ own σ e1 A := fun z => by
    obtain ⟨_, o, ho⟩ := S1.own_at z
    rw [hA] at ho
    cases ho
  have gA : G1 A = none := S1.gh.free hA
  have h0 : H A = none := by
    cases z : H A with
    | none => rfl
    | some o => exact absurd hA (T1.kp A (by rw [z]; exact fun y => nomatch y))
  have S2 : St W G1 (upd H1 A (.lst [])) σ e1 := S1.mut gA nA
  refine lc_loop (A := A) (tb := tbO tt wi1 k tt1 te A) (F := fun H2 => Q (.ref A) H2) hw List.mem_cons_self body_o S2 hv ⟨⟨[], upd_same, .nil⟩, gA, nA⟩ kk fun G3 H3 e3 acc3 S3 T3 hv3 hA3 k3 => ?_
  obtain ⟨⟨av, a1, a2⟩, a3, a4⟩ := hA3
  rw [del_upd, del_off hA] at T3
  have T4 : Tr σ e1 G1 H1 σ e3 G3 H3 := by
    have := T3.late (o := .lst av) hA
    rw [upd_del a1] at this
    exact this
  exact q A av acc3 G3 H3 e3 S3 (T1.trans S T4) h0 a1 a3 a4 a2 k3
end
end Nv

set_option Elab.async false
set_option linter.all false
set_option maxRecDepth 100000
set_option maxHeartbeats 4000000
/-! NvS: mirrors of comprehensions with two for, of dicts of one's own, of calls, of statements, of defs. -/
namespace Nv
open PySem L2 PyProof.Rows PySem.Spec

section
variable {W : Wd} {ta tb tc te : TE} {ma mb mc me : M D} {t u : TT} {mt mu : M Bool} {tr : TA} {mr : M (List D)}
/-! ### two for -/
def allNo (vs : List Nat) (e : Env) : Bool := vs.all fun i => (e[i]?).any isNo
def loopGo (b : List D → M (List D)) (j : Nat) (vs : List Nat) : List D → List D → M (List D)
  | [], acc, e => some (acc, e)
  | d :: ds, acc, e => (b acc (e.set j (.d d))).bind fun p => if allNo vs (p.2.set j .no) = true then loopGo b j vs ds p.1 (p.2.set j .no) else none
def mBS (t : M Bool) (m : M D) : List D → M (List D) := fun acc e => (t e).bind fun p => if p.1 = true then (m p.2).bind fun q => if acc.length < sizeLine then some (acc ++ [q.1], q.2) else none else some (acc, p.2)
def mBO (t : M Bool) (it : M (List D)) (k : Nat) (t1 : M Bool) (m : M D) : List D → M (List D) := fun acc e => (t e).bind fun p => if p.1 = true then (it p.2).bind fun q => if allNo [k] q.2 = true then loopGo (mBS t1 m) k [k] q.1 acc q.2 else none else some (acc, p.2)
def mLc2 (it : M (List D)) (t : M Bool) (it1 : M (List D)) (t1 : M Bool) (m : M D) (j k : Nat) : M (List D) := fun e => (it e).bind fun p => if allNo [j, k] p.2 = true then loopGo (mBO t it1 k t1 m) j [j, k] p.1 [] p.2 else none
theorem allNo_of {vs : List Nat} {e : Env} (h : allNo vs e = true) : ∀ i ∈ vs, e[i]? = some Sl.no := fun i hi => by
  have := List.all_eq_true.mp h i hi
  cases q : e[i]? with
  | none => simp only [q] at this; cases this
  | some s =>
    simp only [q] at this
    cases s <;> first | rfl | cases this
def SimB (B : List D → List Sl → (List D → List Sl → Prop) → Prop) (b : List D → M (List D)) : Prop := ∀ acc e K acc' e', b acc e = some (acc', e') → K acc' e' → B acc e K
theorem loop_of {B : List D → List Sl → (List D → List Sl → Prop) → Prop} {b : List D → M (List D)} (hb : SimB B b) {j : Nat} {vs : List Nat} {R : List D → List Sl → Prop} : ∀ (ds acc : List D) (env : Env) (r : List D) (e1 : Env), loopGo b j vs ds acc env = some (r, e1) → R r e1 → LoopR B j vs R ds acc env
  | [], acc, env, r, e1, h, k => by cases h; exact k
  | d :: ds, acc, env, r, e1, h, k => by
    obtain ⟨x, e2, h1, h⟩ := bind_of h
    split at h
    · rename_i hz
      exact hb _ _ _ _ _ h1 ⟨allNo_of hz, loop_of hb ds _ _ r e1 h k⟩
    · cases h
theorem sb_s {tt : TT} (ht : SimT W tt mt) (hm : SimE W te me) : SimB (BS W tt te) (mBS mt me) := fun acc env K acc' e' h k => by
  obtain ⟨x, e2, h1, h⟩ := bind_of h
  refine ht _ _ _ _ h1 ?_
  cases x with
  | false => cases h; exact k
  | true =>
    obtain ⟨y, e3, h2, h⟩ := bind_of (show ((me e2).bind fun q => if acc.length < sizeLine then some (acc ++ [q.1], q.2) else none) = some (acc', e') from h)
    refine hm _ _ _ _ h2 ?_
    split at h
    · rename_i hz
      cases h
      exact ⟨hz, k⟩
    · cases h
theorem sb_o {tt tt1 : TT} {mt1 : M Bool} {wi1 : TI} {mi1 : M (List D)} {k : Nat} (ht : SimT W tt mt) (hi : SimI W wi1 mi1) (ht1 : SimT W tt1 mt1) (hm : SimE W te me) : SimB (BO W tt wi1 k tt1 te) (mBO mt mi1 k mt1 me) := fun acc env K acc' e' h kk => by
  obtain ⟨x, e2, h1, h⟩ := bind_of h
  refine ht _ _ _ _ h1 ?_
  cases x with
  | false => cases h; exact kk
  | true =>
    obtain ⟨y, e3, h2, h⟩ := bind_of (show ((mi1 e2).bind fun q => if allNo [k] q.2 = true then loopGo (mBS mt1 me) k [k] q.1 acc q.2 else none) = some (acc', e') from h)
    refine hi _ _ _ _ h2 ?_
    split at h
    · rename_i hz
      exact ⟨allNo_of hz, loop_of (sb_s ht1 hm) _ _ _ _ _ h kk⟩
    · cases h
theorem sf_lc2 {wi wi1 : TI} {mi mi1 : M (List D)} {tt tt1 : TT} {mt1 : M Bool} {j k : Nat} (hi : SimI W wi mi) (ht : SimT W tt mt) (hi1 : SimI W wi1 mi1) (ht1 : SimT W tt1 mt1) (hm : SimE W te me) :
    SimF W (tLc2 wi (gName j) tt wi1 (gName k) tt1 te [j, k] [k]) (mLc2 mi mt mi1 mt1 me j k) := fun env R d e1 h hr => by
  obtain ⟨x, e2, h1, h⟩ := bind_of h
  split at h
  · rename_i hz
    exact evf_lc2 (hi _ _ _ _ h1 ⟨allNo_of hz, loop_of (sb_o ht hi1 ht1 hm) _ _ _ _ _ h hr⟩)
  · cases h

/-! ### list(x), all(..), repr -/
def seqOf : List D → Option (List D)
  | [.lst xs] => some xs
  | [.tup xs] => some xs
  | _ => none
def mList (r : M (List D)) : M (List D) := fun e => (r e).bind fun p => (seqOf p.1).bind fun xs => some (xs, p.2)
theorem seqOf_of {ds xs : List D} (h : seqOf ds = some xs) : ds = [.lst xs] ∨ ds = [.tup xs] := by
  unfold seqOf at h
  split at h
  · cases h; exact .inl rfl
  · cases h; exact .inr rfl
  · cases h
theorem sf_list (h : SimA W tr mr) : SimF W (tCB (fun xs H Q => ∃ p ys, xs = [.ref p] ∧ (SqL W.K H p ys ∨ SqT W.K H p ys) ∧ ∀ l, H l = none → Q (.ref l) (upd H l (.lst ys))) tr) (mList mr) := fun env R d e1 hm hr => by
  obtain ⟨x, e2, h1, hm⟩ := bind_of hm
  obtain ⟨z, h3, hm⟩ := bind_of' hm
  cases hm
  exact evf_list (h _ _ _ _ h1 ⟨_, seqOf_of h3, hr⟩)
def blsOf : List D → Option (List Bool)
  | [] => some []
  | .bl b :: r => (blsOf r).map (b :: ·)
  | _ => none
theorem blsOf_of : ∀ {ds : List D} {bs : List Bool}, blsOf ds = some bs → ds = bs.map D.bl
  | [], _, h => by cases h; rfl
  | d :: ds, bs, h => by
    cases d <;> first | (cases h; done) | skip
    rename_i b
    have h : (blsOf ds).map (b :: ·) = some bs := h
    cases q : blsOf ds with
    | none => rw [q] at h; cases h
    | some cs =>
      rw [q] at h
      cases h
      rw [blsOf_of q]
      rfl
def all1 : List D → Option (List Bool)
  | [.lst xs] => blsOf xs
  | _ => none
def mAll (r : M (List D)) : M D := fun e => (r e).bind fun p => (all1 p.1).bind fun bs => some (.bl (bs.all id), p.2)
theorem se_all (h : SimA W tr mr) : SimE W (tCB (rAll W.K) tr) (mAll mr) := fun env R d e1 hm hr => by
  obtain ⟨x, e2, h1, hm⟩ := bind_of hm
  obtain ⟨z, h3, hm⟩ := bind_of' hm
  cases hm
  refine ev_all (h _ _ _ _ h1 ⟨z, ?_, hr⟩)
  have z1 : ∀ {x : List D}, all1 x = some z → x = [.lst (z.map D.bl)] := fun {x} h => by
    unfold all1 at h
    split at h
    · rw [blsOf_of h]
    · cases h
  exact z1 h3
def rokB (d : D) : Bool := d.plain && tells d.py && d.py.showable && decide (d.py.depth ≤ 60) && decide (d.py.shown.length ≤ sizeLine)
theorem rokB_of {d : D} (h : rokB d = true) : Rok d := by
  unfold rokB at h
  simp only [Bool.and_eq_true, decide_eq_true_eq] at h
  exact ⟨h.1.1.1.1, h.1.1.1.2, h.1.1.2, h.1.2, h.2⟩
theorem rokB_iff {d : D} (h : Rok d) : rokB d = true := by
  unfold rokB
  simp only [Bool.and_eq_true, decide_eq_true_eq]
  exact ⟨⟨⟨⟨h.plain, h.tells⟩, h.show_⟩, h.depth⟩, h.len⟩
def repr1 : List D → Option D
  | [d] => if rokB d = true then some (.str d.py.shown) else none
  | _ => none
def mRepr (r : M (List D)) : M D := fun e => (r e).bind fun p => (repr1 p.1).bind fun z => some (z, p.2)
theorem repr1_of {ds : List D} {z : D} (h : repr1 ds = some z) : ∃ d, ds = [d] ∧ Rok d ∧ z = .str d.py.shown := by
  unfold repr1 at h
  split at h
  · split at h
    · rename_i hz
      cases h
      exact ⟨_, rfl, rokB_of hz, rfl⟩
    · cases h
  · cases h
theorem se_repr (h : SimA W tr mr) : SimE W (tCB (rRepr W.K) tr) (mRepr mr) := fun env R d e1 hm hr => by
  obtain ⟨x, e2, h1, hm⟩ := bind_of hm
  obtain ⟨z, h3, hm⟩ := bind_of' hm
  cases hm
  obtain ⟨d, h4, h5, h6⟩ := repr1_of h3
  subst h6
  exact ev_repr (h _ _ _ _ h1 ⟨d, h4, h5, hr⟩)

/-! ### dicts of one's own -/
def isOD (i : Nat) (e : Env) : Option (List (Key × D)) := (e[i]?).bind Sl.dict
theorem isOD_of {i : Nat} {e : Env} {kvs : List (Key × D)} (h : isOD i e = some kvs) : ∃ s, e[i]? = some s ∧ s.dict = some kvs := by
  obtain ⟨s, h1, h2⟩ := bind_of' h
  exact ⟨s, h1, h2⟩
def mDGet (i : Nat) (a : M D) : M D := fun e => (isOD i e).bind fun _ => (a e).bind fun p => (isOD i p.2).bind fun kvs => (keyD p.1).bind fun k => (valD kvs k).bind fun d => some (d, p.2)
theorem se_dget {i : Nat} (ha : SimE W ta ma) : SimE W (tDGet (tVar i) ta) (mDGet i ma) := fun env R d e1 hm hr => by
  obtain ⟨k0, h0, hm⟩ := bind_of' hm
  obtain ⟨y, e2, h1, hm⟩ := bind_of hm
  obtain ⟨kvs, h2, hm⟩ := bind_of' hm
  obtain ⟨k, h3, hm⟩ := bind_of' hm
  obtain ⟨z, h4, hm⟩ := bind_of' hm
  cases hm
  obtain ⟨s0, a1, a2⟩ := isOD_of h0
  obtain ⟨s, b1, b2⟩ := isOD_of h2
  exact ev_dget ⟨s0, k0, a1, a2⟩ (ha _ _ _ _ h1 ⟨s, kvs, k, _, b1, b2, h3, h4, hr⟩)
end

/-! ### statements -/
section
variable {W : Wd} {ta tb tc te : TE} {ma mb mc me : M D} {t u : TT} {mt mu : M Bool} {tr : TA} {mr : M (List D)} {t1 t2 : TS} {m1 m2 : MS}
def mSeq (a b : MS) : MS := fun e => (a e).bind fun p => match p.1 with
  | .nx => b p.2
  | o => some (o, p.2)
def mRet (a : M D) : MS := fun e => (a e).bind fun p => some (.rt p.1, p.2)
def mRetN : MS := fun e => some (.rt .non, e)
def mNext : MS := fun e => some (.nx, e)
def mBrk : MS := fun e => some (.bk, e)
def mCont : MS := fun e => some (.ct, e)
def mDrop (a : M D) : MS := fun e => (a e).bind fun p => some (.nx, p.2)
def freeB (e : Env) (j : Nat) : Bool := match e[j]? with
  | some s => !s.pinned
  | none => true
theorem freeB_of {e : Env} {j : Nat} (h : freeB e j = true) : Free e j := fun s hs => by
  unfold freeB at h
  rw [hs] at h
  simpa using h
def mSet (j : Nat) (a : M D) : MS := fun e => (a e).bind fun p => if freeB p.2 j = true then some (.nx, p.2.set j (.d p.1)) else none
def mOwn (j : Nat) (a : M (List D)) : MS := fun e => (a e).bind fun p => if freeB p.2 j = true then some (.nx, p.2.set j (.ol p.1)) else none
def olOf : Sl → Option (List D)
  | .ol xs => some xs
  | _ => none
def isOL (i : Nat) (e : Env) : Option (List D) := (e[i]?).bind olOf
theorem isOL_of {i : Nat} {e : Env} {xs : List D} (h : isOL i e = some xs) : e[i]? = some (.ol xs) := by
  obtain ⟨s, h1, h2⟩ := bind_of' h
  cases s <;> first | (cases h2; done) | skip
  cases h2
  exact h1
def mApp (i : Nat) (a : M D) : MS := fun e => (isOL i e).bind fun _ => (a e).bind fun p => (isOL i p.2).bind fun xs => if xs.length < sizeLine then some (.nx, p.2.set i (.ol (xs ++ [p.1]))) else none
def dOf : Sl → Option D
  | .d x => some x
  | _ => none
def isD1 (j : Nat) (e : Env) : Option D := (e[j]?).bind dOf
theorem isD1_of {j : Nat} {e : Env} {x : D} (h : isD1 j e = some x) : e[j]? = some (.d x) := by
  obtain ⟨s, h1, h2⟩ := bind_of' h
  cases s <;> first | (cases h2; done) | skip
  cases h2
  exact h1
def mAug (j : Nat) (o : D → D → Option D) (a : M D) : MS := fun e => (isD1 j e).bind fun _ => (a e).bind fun p => (isD1 j p.2).bind fun x => (o x p.1).bind fun z => some (.nx, p.2.set j (.d z))
def mDPut (i : Nat) (k : Key) (a : M D) : MS := fun e => (a e).bind fun p => (p.2[i]?).bind fun s => s.dict.bind fun kvs => if kvs.length < sizeLine then some (.nx, p.2.set i (s.dictTo (putD kvs k p.1))) else none
theorem ss_seq (h1 : SimS W t1 m1) (h2 : SimS W t2 m2) : SimS W (tSeq t1 t2) (mSeq m1 m2) := fun env P o e1 hm hr => by
  obtain ⟨x, e2, k1, hm⟩ := bind_of hm
  refine run_seq (h1 _ _ _ _ k1 ?_)
  cases x with
  | nx => exact h2 _ _ _ _ hm hr
  | rt d => cases hm; exact hr
  | bk => cases hm; exact hr
  | ct => cases hm; exact hr
theorem ss_ret (ha : SimE W te me) : SimS W (tRet te) (mRet me) := fun env P o e1 hm hr => by
  obtain ⟨x, e2, h1, hm⟩ := bind_of hm
  cases hm
  exact run_ret (ha _ _ _ _ h1 hr)
theorem ss_retN : SimS W tRetN mRetN := fun env P o e1 hm hr => by cases hm; exact run_retN hr
theorem ss_next : SimS W tNext mNext := fun env P o e1 hm hr => by cases hm; exact run_next hr
theorem ss_brk : SimS W tBreak mBrk := fun env P o e1 hm hr => by cases hm; exact run_brk hr
theorem ss_cont : SimS W tCont mCont := fun env P o e1 hm hr => by cases hm; exact run_cont hr
theorem ss_drop (ha : SimE W te me) : SimS W (tDrop te) (mDrop me) := fun env P o e1 hm hr => by
  obtain ⟨x, e2, h1, hm⟩ := bind_of hm
  cases hm
  exact run_drop (ha _ _ _ _ h1 hr)
theorem ss_if (ht : SimT W t mt) (h1 : SimS W t1 m1) (h2 : SimS W t2 m2) : SimS W (tIfS t t1 t2) (mIf mt m1 m2) := fun env P o e1 hm hr => by
  obtain ⟨x, e2, k1, hm⟩ := bind_of hm
  refine run_if (ht _ _ _ _ k1 ?_)
  cases x with
  | false => exact h2 _ _ _ _ hm hr
  | true => exact h1 _ _ _ _ hm hr
theorem ss_set {j : Nat} (ha : SimE W te me) : SimS W (tAsg te (gName j)) (mSet j me) := fun env P o e1 hm hr => by
  obtain ⟨x, e2, h1, hm⟩ := bind_of hm
  split at hm
  · rename_i hz
    cases hm
    exact run_set (ha _ _ _ _ h1 ⟨freeB_of hz, hr⟩)
  · cases hm
theorem ss_own {j : Nat} {m : M (List D)} (ha : SimF W te m) : SimS W (tAsg te (gName j)) (mOwn j m) := fun env P o e1 hm hr => by
  obtain ⟨x, e2, h1, hm⟩ := bind_of hm
  split at hm
  · rename_i hz
    cases hm
    exact run_own (ha _ _ _ _ h1 ⟨freeB_of hz, hr⟩)
  · cases hm
theorem ss_app {i : Nat} (ha : SimE W te me) : SimS W (tDrop (tBM W.K "list" rAppend (tVar i) (tCons te tNil))) (mApp i me) := fun env P o e1 hm hr => by
  obtain ⟨ys, h0, hm⟩ := bind_of' hm
  obtain ⟨x, e2, h1, hm⟩ := bind_of hm
  obtain ⟨xs, h2, hm⟩ := bind_of' hm
  split at hm
  · rename_i hz
    cases hm
    exact run_app (ha _ _ _ _ h1 ⟨xs, isOL_of h2, hz, hr⟩) ⟨ys, isOL_of h0⟩
  · cases hm
theorem ss_dput {i : Nat} {ty : TE} {kd : D} {k : Key} (hy : SimE W ty (mC kd)) (hk : keyD kd = some k) (ha : SimE W te me) : SimS W (sDPut (tVar i) ty te) (mDPut i k me) := fun env P o e1 hm hr => by
  obtain ⟨x, e2, h1, hm⟩ := bind_of hm
  obtain ⟨s, h2, hm⟩ := bind_of' hm
  obtain ⟨kvs, h3, hm⟩ := bind_of' hm
  split at hm
  · rename_i hz
    cases hm
    exact run_dput (ha _ _ _ _ h1 ⟨⟨s, kvs, h2, h3⟩, hy _ _ _ _ rfl ⟨rfl, s, kvs, k, h2, h3, hk, hz, hr⟩⟩)
  · cases hm

/-! loops -/
def forGo (j : Nat) (b : MS) : List D → MS
  | [], e => some (.nx, e)
  | d :: ds, e => if freeB e j = true then (b (e.set j (.d d))).bind fun p => match p.1 with
    | .nx => forGo j b ds p.2
    | .ct => forGo j b ds p.2
    | .bk => some (.nx, p.2)
    | .rt d => some (.rt d, p.2) else none
def mFor (it : M (List D)) (j : Nat) (b : MS) : MS := fun e => (it e).bind fun p => forGo j b p.1 p.2
theorem forR_of {j : Nat} (hb : SimS W t1 m1) {P : Post} : ∀ (ds : List D) (env : Env) (o : Out) (e1 : Env), forGo j m1 ds env = some (o, e1) → Post.hit P o e1 → ForR W (gName j) t1 P ds env
  | [], env, o, e1, h, k => by cases h; exact k
  | d :: ds, env, o, e1, h, k => by
    have h : (if freeB env j = true then (m1 (env.set j (.d d))).bind fun p => match p.1 with
      | .nx => forGo j m1 ds p.2
      | .ct => forGo j m1 ds p.2
      | .bk => some (.nx, p.2)
      | .rt d => some (.rt d, p.2) else none) = some (o, e1) := h
    split at h
    · rename_i hz
      obtain ⟨x, e2, h1, h⟩ := bind_of h
      refine tg_name (freeB_of hz) (hb _ _ _ _ h1 ?_)
      cases x with
      | nx => exact forR_of hb ds _ o e1 h k
      | ct => exact forR_of hb ds _ o e1 h k
      | bk => cases h; exact k
      | rt d => cases h; exact k
    · cases h
theorem ss_for {wi : TI} {mi : M (List D)} {j : Nat} (hi : SimI W wi mi) (hb : SimS W t1 m1) : SimS W (tFor wi (gName j) t1) (mFor mi j m1) := fun env P o e1 hm hr => by
  obtain ⟨x, e2, h1, hm⟩ := bind_of hm
  exact run_for (hi _ _ _ _ h1 (forR_of hb _ _ _ _ hm hr))
def whGo (t : M Bool) (b : MS) : Nat → MS
  | 0, _ => none
  | n + 1, e => (t e).bind fun p => if p.1 = true then (b p.2).bind fun q => match q.1 with
    | .nx => whGo t b n q.2
    | .ct => whGo t b n q.2
    | .bk => some (.nx, q.2)
    | .rt d => some (.rt d, q.2) else some (.nx, p.2)
def mWhile (n : Nat) (t : M Bool) (b : MS) : MS := whGo t b n
theorem ss_while {n : Nat} (ht : SimT W t mt) (hb : SimS W t1 m1) : SimS W (tWhile t t1) (mWhile n mt m1) := fun env P o e1 hm hr => by
  refine run_while (fun m e => ∃ o e1, whGo mt m1 m e = some (o, e1) ∧ Post.hit P o e1) n ⟨o, e1, hm, hr⟩ ?_
  rintro m e ⟨o, e1, hm, hr⟩
  cases m with
  | zero => cases hm
  | succ m =>
    obtain ⟨x, e2, h1, hm⟩ := bind_of hm
    refine ht _ _ _ _ h1 ?_
    cases x with
    | false => cases hm; exact hr
    | true =>
      obtain ⟨y, e3, h2, hm⟩ := bind_of (show ((m1 e2).bind fun q => match q.1 with
        | .nx => whGo mt m1 m q.2
        | .ct => whGo mt m1 m q.2
        | .bk => some (.nx, q.2)
        | .rt d => some (.rt d, q.2)) = some (o, e1) from hm)
      refine hb _ _ _ _ h2 ?_
      cases y with
      | nx => exact ⟨m, Nat.lt_succ_self m, o, e1, hm, hr⟩
      | ct => exact ⟨m, Nat.lt_succ_self m, o, e1, hm, hr⟩
      | bk => cases hm; exact hr
      | rt d => cases hm; exact hr
theorem ss_aug {j : Nat} {r : R2} {o : D → D → Option D} (ho : OpD W r o) (ha : SimE W te me) : SimS W (tAug j te (fun x y H Q => r x y H Q)) (mAug j o me) := fun env P o e1 hm hr => by
  obtain ⟨x0, h0, hm⟩ := bind_of' hm
  obtain ⟨x, e2, h1, hm⟩ := bind_of hm
  obtain ⟨y, h2, hm⟩ := bind_of' hm
  obtain ⟨z, h3, hm⟩ := bind_of' hm
  cases hm
  exact run_aug ho (ha _ _ _ _ h1 ⟨y, z, isD1_of h2, h3, hr⟩) ⟨x0, isD1_of h0⟩

/-! ### calls, defs -/
abbrev Fm := List Sl → Option (D × List Sl)
def PhiF (c : Fm) : Fs := fun as R => ∃ d as', c as = some (d, as') ∧ R d as'
def mCall (n : Nat) (c : Fm) (a : M (List D)) : M D := fun e => (a e).bind fun p => if p.1.length = n then (c (p.1.map .d)).bind fun q => some (q.1, p.2) else none
theorem se_g {n : Nat} {c : Fm} (h : SimA W tr mr) : SimE W (tG (SpD W n (PhiF c)) tr) (mCall n c mr) := fun env R d e1 hm hr => by
  obtain ⟨x, e2, h1, hm⟩ := bind_of hm
  split at hm
  · rename_i hz
    obtain ⟨y, e3, h2, hm⟩ := bind_of hm
    cases hm
    exact ev_g (h _ _ _ _ h1 ⟨hz, _, _, h2, hr⟩)
  · cases hm
def mCallK (n m : Nat) (pm : List Nat) (c : Fm) (a : M (List D)) : M D := fun e => (a e).bind fun p => if p.1.length = m ∧ (permD pm p.1).length = n then (c ((permD pm p.1).map .d)).bind fun q => some (q.1, p.2) else none
theorem se_gK {n m : Nat} {pm : List Nat} {c : Fm} (h : SimA W tr mr) : SimE W (tGK m pm (SpD W n (PhiF c)) tr) (mCallK n m pm c mr) := fun env R d e1 hm hr => by
  obtain ⟨x, e2, h1, hm⟩ := bind_of hm
  split at hm
  · rename_i hz
    obtain ⟨y, e3, h2, hm⟩ := bind_of hm
    cases hm
    exact ev_gK (h _ _ _ _ h1 ⟨hz.1, hz.2, _, _, h2, hr⟩)
  · cases hm
def isOwn (i : Nat) (e : Env) : Option Sl := (e[i]?).bind fun s => if s.owned = true then some s else none
theorem isOwn_of {i : Nat} {e : Env} {s : Sl} (h : isOwn i e = some s) : e[i]? = some s ∧ s.owned = true := by
  obtain ⟨x, h1, h2⟩ := bind_of' h
  split at h2
  · rename_i hz
    cases h2
    exact ⟨h1, hz⟩
  · cases h2
def mCallP (n i : Nat) (c : Fm) (a : M (List D)) : M D := fun e => (isOwn i e).bind fun _ => (a e).bind fun p => (isOwn i p.2).bind fun s => if p.1.length + 1 = n then (c (s.lend :: p.1.map .d)).bind fun q => (q.2[0]?).bind fun s' => some (q.1, p.2.set i (s.back s')) else none
theorem se_gp {n i : Nat} {c : Fm} (h : SimA W tr mr) : SimE W (tG (SpD W n (PhiF c)) (tCons (tVar i) tr)) (mCallP n i c mr) := fun env R d e1 hm hr => by
  obtain ⟨s0, h0, hm⟩ := bind_of' hm
  obtain ⟨x, e2, h1, hm⟩ := bind_of hm
  obtain ⟨s, h2, hm⟩ := bind_of' hm
  split at hm
  · rename_i hz
    obtain ⟨y, e3, h3, hm⟩ := bind_of hm
    obtain ⟨s', h4, hm⟩ := bind_of' hm
    cases hm
    obtain ⟨a1, a2⟩ := isOwn_of h0
    obtain ⟨b1, b2⟩ := isOwn_of h2
    exact ev_gp ⟨s0, a1, a2⟩ (h _ _ _ _ h1 ⟨hz, s, b1, b2, _, _, h3, s', h4, hr⟩)
  · cases hm
/-- a def's mirror by its body's -/
def defM (n N : Nat) (b : MS) : Fm := fun as => if as.length = n then (b (as ++ List.replicate (N - n) .no)).bind fun p => match p.1 with
  | .rt d => some (d, mergeS as p.2)
  | .nx => some (.non, mergeS as p.2)
  | _ => none else none
end
section
variable {P : Program} {w : World} {mg : Str → Option Value} {base : Heap} {k : Nat} {f : Addr} {fd : FuncData} {ps : List Str} {W : Wd}
theorem fn_m {x qual : Str} {st : Stmt} {N : List Str} {n nN : Nat} {m : MS} (F : Fun W.K x qual st f fd) (S : FnScope N ps (defScope st)) (hn : ps.length = n) (hN : N.length = nN)
    (hbody : ∀ (cdv : Value) (A : Around) (outer : List PySem.Env) (s : Shared) (H : Hp) (E : XK), (Bx P w W.K mg base N qual st f cdv A outer s H E).A.guards = some [] → Room k (Bx P w W.K mg base N qual st f cdv A outer s H E).A →
      ∃ t, PSs (Bx P w W.K mg base N qual st f cdv A outer s H E) (defBody st) t ∧ SimS W t m) :
    FnG P w W.K mg base (k + 1) f fd ps (SpD W n (PhiF (defM n nN m))) := by
  subst hn
  subst hN
  refine fn_d F S fun cdv A outer s H E hg hr => ?_
  obtain ⟨t, h1, h2⟩ := hbody cdv A outer s H E hg hr
  refine ⟨t, h1, fun as R hl ⟨d, as', hc, hR⟩ => ?_⟩
  unfold defM at hc
  rw [if_pos hl] at hc
  obtain ⟨o, e1, h3, hc⟩ := bind_of hc
  refine h2 _ _ _ _ h3 ?_
  cases o with
  | nx => cases hc; exact hR
  | rt d => cases hc; exact hR
  | bk => cases hc
  | ct => cases hc
end
end Nv

set_option Elab.async false
set_option linter.all false
set_option maxRecDepth 100000
set_option maxHeartbeats 4000000
/-! NvW: the pen of a law (a dict of one's own, made by a def from the script). -/
namespace Nv
open PySem L2 PyProof.Rows PySem.Spec

section
variable {W : Wd} {G H : Hp} {σ : L2.St} {env : List Sl}
theorem St.takeS (S : St W G H σ env) {j : Nat} {p : Addr} {s : Sl} (ok : OkS W G H (some (some (.ref p))) s) (no : ¬ own σ env p) : St W G H (σ.set j (some (.ref p))) (env.set j s) := by
  by_cases jl : j < env.length
  · refine ⟨S.gh, by rw [List.length_set, List.length_set]; exact S.len, fun k t f => ?_, fun a b s1 t1 m e1 o1 v1 e2 o2 v2 => ?_⟩
    · by_cases z : j = k
      · subst z
        rw [List.getElem?_set_self jl] at f
        cases f
        rw [List.getElem?_set_self (by rw [S.len]; exact jl)]
        exact ok
      · rw [List.getElem?_set_ne z] at f
        rw [List.getElem?_set_ne z]
        exact S.ok k t f
    · have at_j : ∀ {m : Addr}, (σ.set j (some (V.ref p)))[j]? = some (some (.ref m)) → m = p := fun {m} v => by
        rw [List.getElem?_set_self (by rw [S.len]; exact jl)] at v
        cases v
        rfl
      by_cases za : j = a
      · subst za
        by_cases zb : j = b
        · exact zb
        · rw [List.getElem?_set_ne zb] at e2 v2
          rw [at_j v1] at v2
          exact absurd ⟨b, t1, e2, o2, v2⟩ no
      · rw [List.getElem?_set_ne za] at e1 v1
        by_cases zb : j = b
        · subst zb
          rw [at_j v2] at v1
          exact absurd ⟨a, s1, e1, o1, v1⟩ no
        · rw [List.getElem?_set_ne zb] at e2 v2
          exact S.ds a b s1 t1 m e1 o1 v1 e2 o2 v2
  · rw [List.set_eq_of_length_le (by rw [S.len]; omega), List.set_eq_of_length_le (by omega)]
    exact S
theorem Tr.takeS {j : Nat} {p : Addr} {s : Sl} (hf : Free env j) {G0 H0 : Hp} {σ0 : L2.St} {env0 : List Sl} (T : Tr σ0 env0 G0 H0 σ env G H) (h0 : H0 p = none) : Tr σ0 env0 G0 H0 (σ.set j (some (.ref p))) (env.set j s) G H := by
  refine ⟨T.gg, T.fr, T.nw, fun b ⟨k, t, f, q, v⟩ => ?_, T.kp, fun i s e h => ?_⟩
  · by_cases z : j = k
    · subst z
      by_cases jl : j < σ.length
      · rw [List.getElem?_set_self jl] at v
        cases v
        exact .inr h0
      · rw [List.getElem?_eq_none (by rw [List.length_set]; omega)] at v
        cases v
    · rw [List.getElem?_set_ne z] at f v
      exact T.ow b ⟨k, t, f, q, v⟩
  · obtain ⟨e1, s', e2, h2⟩ := T.pn i s e h
    have ne : j ≠ i := fun z => by
      subst z
      rw [hf s' e2] at h2
      cases h2
    rw [List.getElem?_set_ne ne, List.getElem?_set_ne ne]
    exact ⟨e1, s', e2, h2⟩
end
def pen0 (xs : List D) : List (Key × D) := [(.inr "cells", .lst (xs.take 63)), (.inr "at", .int 0), (.inr "left", .int 0)]
def SpPen (W : Wd) : Sp := fun vs H Q _ => ∃ (G : Hp) (x : V) (xs : List D), vs = [x] ∧ Same G H ∧ Rp W G x (.frl xs) ∧
  ∀ (p : Addr) (kvs : List (Key × V)) (G' H' : Hp), Gr G H G' H' → H p = none → H' p = some (.dK kvs) → G' p = none → kvs.map (·.1) = (pen0 xs).map (·.1) → RpAll W G' (kvs.map (·.2)) ((pen0 xs).map (·.2)) → Q (.ref p) H'
def tPen (K : PySem.W.Frag) : TE := tDisp [(tC (.str "cells"), tCB (fun xs H Q => ∃ p ys, xs = [.ref p] ∧ (SqL K H p ys ∨ SqT K H p ys) ∧ ∀ l, H l = none → Q (.ref l) (upd H l (.lst ys))) (tCons (tSl (rSlU K) (tVar 0) tNoPart (tPart (tC (.int 63)))) tNil)), (tC (.str "at"), tC (.int 0)), (tC (.str "left"), tC (.int 0))]
theorem cut63 (xs : List D) : cut xs none (some 63) = xs.take 63 := by
  unfold cut
  have h0 : HT.sIx xs.length 0 none = 0 := rfl
  rw [h0, List.drop_zero, Nat.sub_zero]
  have h1 : HT.sIx xs.length xs.length (some 63) = min 63 xs.length := by
    unfold HT.sIx
    simp
    try omega
  rw [h1]
  by_cases h : xs.length ≤ 63
  · rw [Nat.min_eq_right h, List.take_of_length_le h, List.take_of_length_le (Nat.le_refl _)]
  · rw [Nat.min_eq_left (by omega)]
section
variable {P : Program} {w : World} {mg : Str → Option Value} {base : Heap} {k : Nat} {f : Addr} {fd : FuncData} {ps : List Str} {W : Wd}
theorem tPairs_c {kv : V} {tv : TE} {r : List (TE × TE)} {σ : L2.St} {H : Hp} {Q : List (V × V) → Hp → Prop} (h : tv σ H fun y H2 => tPairs r σ H2 fun ps H3 => Q ((kv, y) :: ps) H3) : tPairs ((tC kv, tv) :: r) σ H Q := h
theorem tPairs_cc {kv lv : V} {r : List (TE × TE)} {σ : L2.St} {H : Hp} {Q : List (V × V) → Hp → Prop} (h : tPairs r σ H fun ps H3 => Q ((kv, lv) :: ps) H3) : tPairs ((tC kv, tC lv) :: r) σ H Q := h
theorem pen_ok {G H : Hp} {x : V} {xs : List D} {Q : VK} (e : Same G H) (r : Rp W G x (.frl xs))
    (q : ∀ (p : Addr) (kvs : List (Key × V)) (G' H' : Hp), Gr G H G' H' → H p = none → H' p = some (.dK kvs) → G' p = none → kvs.map (·.1) = (pen0 xs).map (·.1) → RpAll W G' (kvs.map (·.2)) ((pen0 xs).map (·.2)) → Q (.ref p) H') :
    tPen W.K [some x] H Q := by
  have S0 : St W G H [some x] [.d (.frl xs)] := St.data (vs := [x]) (ds := [.frl xs]) e (.cons r .nil)
  intro p hp
  have gp : G p = none := e.free hp
  have no : ¬ own [some x] [Sl.d (.frl xs)] p := not_own_data (vs := [x]) (ds := [.frl xs])
  have S1 : St W G (upd H p (.dK [])) [some x] [.d (.frl xs)] := S0.mut gp no
  have hm : mLst (mList (mCons (mSl (mVar 0) mONone (mOSome (mC (.int 63)))) mNil)) [Sl.d (.frl xs)] = some (.lst (xs.take 63), [Sl.d (.frl xs)]) := by
    have : mLst (mList (mCons (mSl (mVar 0) mONone (mOSome (mC (.int 63)))) mNil)) [Sl.d (.frl xs)] = some (.lst (cut xs none (some 63)), [Sl.d (.frl xs)]) := rfl
    rw [this, cut63]
  refine tPairs_c ?_
  refine (se_f (sf_list (sa_cons (se_sl se_var so_none (so_some se_int)) sa_nil))) _ (fun d e1 => d = .lst (xs.take 63) ∧ e1 = [Sl.d (.frl xs)]) _ _ hm ⟨rfl, rfl⟩ G _ _ S1 _ fun v d G2 H2 e2 S2 T2 rv ⟨hd, he⟩ => ?_
  subst hd he
  have hp2 : H2 p = some (.dK []) := T2.fr p _ no upd_same
  have gp2 : G2 p = none := T2.nw p no (by rw [upd_same]; exact fun z => nomatch z) gp
  refine tPairs_cc (tPairs_cc ?_)
  refine ⟨hp2, [(.inr "cells", v), (.inr "at", .int 0), (.inr "left", .int 0)], rfl, (by show 3 ≤ 15; omega), ?_⟩
  refine q p [(.inr "cells", v), (.inr "at", .int 0), (.inr "left", .int 0)] G2 _ ⟨T2.gg, fun b u hb => ?_, fun b u hb => ?_, fun b hb hg => ?_⟩ hp ?_ gp2 rfl (.cons rv (.cons (.int 0) (.cons (.int 0) .nil)))
  · rw [upd_ne (ne_of_none hb gp2)]
    exact S2.gh b u hb
  · have ne : b ≠ p := ne_of_none hb hp
    rw [upd_ne ne]
    exact T2.fr b u (not_own_data (vs := [x]) (ds := [.frl xs])) (by rw [upd_ne ne]; exact hb)
  · have ne : b ≠ p := fun z => hb (by rw [z]; exact hp)
    exact T2.nw b (not_own_data (vs := [x]) (ds := [.frl xs])) (by rw [upd_ne ne]; exact hb) hg
  · rw [upd_same]
    rfl
theorem fn_pen {x qual : Str} {st : Stmt} {y : Str} (F : Fun W.K x qual st f fd) (S : FnScope [y] [y] (defScope st))
    (hbody : ∀ (cdv : Value) (A : Around) (outer : List PySem.Env) (s : Shared) (H : Hp) (E : XK), (Bx P w W.K mg base [y] qual st f cdv A outer s H E).A.guards = some [] → Room k (Bx P w W.K mg base [y] qual st f cdv A outer s H E).A →
      PSs (Bx P w W.K mg base [y] qual st f cdv A outer s H E) (defBody st) (tRet (tPen W.K))) : FnG P w W.K mg base (k + 1) f fd [y] (SpPen W) := by
  refine fn_g F S (fun vs H Q E h => ?_) fun cdv A outer s H vs Q E hg hr h => ?_
  · obtain ⟨_, _, _, l, _⟩ := h
    rw [l]
    rfl
  · obtain ⟨G, x, xs, hl, e, r, q⟩ := h
    subst hl
    exact ⟨_, (hbody cdv A outer s H E hg hr).nox, pen_ok e r q⟩
end
def frlOf : Sl → Option (List D)
  | .d (.frl xs) => some xs
  | _ => none
def mPen (i j : Nat) : MS := fun e => ((e[i]?).bind frlOf).bind fun xs => if freeB e j = true then some (.nx, e.set j (.od (pen0 xs))) else none
theorem ss_pen {W : Wd} {i j : Nat} : SimS W (tAsg (tG (SpPen W) (tCons (tVar i) tNil)) (gName j)) (mPen i j) := fun env P o e1 hm hr => by
  obtain ⟨xs, h1, hm⟩ := bind_of' hm
  obtain ⟨s, h2, h3⟩ := bind_of' h1
  split at hm
  · rename_i hz
    cases hm
    have hs : s = .d (.frl xs) := by
      unfold frlOf at h3
      split at h3
      · cases h3; rfl
      · cases h3
    subst hs
    intro G H σ E S n r b c
    obtain ⟨v, ev, rv⟩ := S.ok i _ h2
    refine ⟨v, ev, G, v, xs, rfl, S.gh, rv, fun p kvs G' H' g hp hp' gp' ke ra => ?_⟩
    have S1 := S.up g
    have no : ¬ own σ env p := fun z => by
      obtain ⟨_, o, ho⟩ := S.own_at z
      rw [hp] at ho
      cases ho
    exact n G' H' _ _ (S1.takeS (s := .od (pen0 xs)) ⟨p, kvs, rfl, gp', hp', ke, ra⟩ no) (Tr.takeS (freeB_of hz) (Tr.up S g) hp) hr
  · cases hm
end Nv

set_option Elab.async false
set_option linter.all false
set_option maxRecDepth 100000
set_option maxHeartbeats 4000000
/-! NvQ: == of data. -/
namespace Nv
open PySem L2 PyProof.Rows PySem.Spec
mutual
def D.deep : D → Bool
  | .lst xs => deepAll xs
  | .tup xs => deepAll xs
  | .dct _ => false
  | .ins _ _ => false
  | .ty _ => false
  | .frl _ => false
  | _ => true
def deepAll : List D → Bool
  | [] => true
  | d :: ds => d.deep && deepAll ds
end
mutual
theorem dp_of {W : Wd} {G : Hp} : ∀ (d : D) (v : V), Rp W G v d → d.deep = true → Dp W.K G v d.py
  | .non, _, r, _ => by rw [r.non_inv]; exact .non
  | .bl b, _, r, _ => by rw [r.bl_inv]; exact .bl b
  | .int i, _, r, _ => by rw [r.int_inv]; exact .int i
  | .str x, _, r, _ => by rw [r.str_inv]; exact .str x
  | .lst xs, _, r, h => by
    obtain ⟨a, vs, rfl, hs, ra⟩ := r.lst_inv
    exact .lst (.inl (.inl hs)) (dp_all xs vs ra h)
  | .tup xs, _, r, h => by
    obtain ⟨a, vs, rfl, hs, ra⟩ := r.tup_inv
    exact .tup hs (dp_all xs vs ra h)
  | .dct _, _, _, h => nomatch h
  | .ins _ _, _, _, h => nomatch h
  | .ty _, _, _, h => nomatch h
  | .frl _, _, _, h => nomatch h
theorem dp_all {W : Wd} {G : Hp} : ∀ (ds : List D) (vs : List V), RpAll W G vs ds → deepAll ds = true → DpAll W.K G vs (pyAll ds)
  | [], _, r, _ => by cases r; exact .nil
  | d :: ds, _, r, h => by
    have h : (d.deep && deepAll ds) = true := h
    rw [Bool.and_eq_true] at h
    cases r with
    | cons r1 r2 => exact .cons (dp_of d _ r1 h.1) (dp_all ds _ r2 h.2)
end
mutual
theorem dp_up {K : PySem.W.Frag} {G H : Hp} (e : Same G H) : ∀ (d : PyData) (v : V), Dp K G v d → Dp K H v d
  | .none, _, h => by cases h; exact .non
  | .bool b, _, h => by cases h; exact .bl b
  | .int i, _, h => by cases h; exact .int i
  | .str x, _, h => by cases h; exact .str x
  | .list ds, _, h => by
    cases h with
    | lst hs ha => exact .lst (Same.lst e hs) (dp_upAll e ds _ ha)
  | .tuple ds, _, h => by
    cases h with
    | tup hs ha => exact .tup (Same.tup e hs) (dp_upAll e ds _ ha)
  | .dict _, _, h => by cases h
theorem dp_upAll {K : PySem.W.Frag} {G H : Hp} (e : Same G H) : ∀ (ds : List PyData) (vs : List V), DpAll K G vs ds → DpAll K H vs ds
  | [], _, h => by cases h; exact .nil
  | d :: ds, _, h => by
    cases h with
    | cons h1 h2 => exact .cons (dp_up e d _ h1) (dp_upAll e ds _ h2)
end
def rEqX (K : PySem.W.Frag) : R2 := fun x y H Q => rEq x y H Q ∨ rEqD K x y H Q
def rNeX (K : PySem.W.Frag) : R2 := fun x y H Q => rNe x y H Q ∨ rNeD K x y H Q
theorem ka_eq {X : Cx} {K : PySem.W.Frag} (hu : X.A.units + 64 < cLine) (h : X.K = K) : OpR X (compareOp .Eq) (rEqX K) := h ▸ opr_or op_eq (op_eqD hu)
theorem ka_ne {X : Cx} {K : PySem.W.Frag} (hu : X.A.units + 64 < cLine) (h : X.K = K) : OpR X (compareOp .NotEq) (rNeX K) := h ▸ opr_or op_ne (op_neD hu)
def shp (d : D) : Bool := d.deep && SeqAt.shaped d.py
def eqX (x y : D) : Option Bool := match eqS x y with
  | some b => some b
  | none => if (shp x && shp y) = true then some (PyData.eqv x.py y.py) else none
def eqXD (x y : D) : Option D := (eqX x y).map .bl
def neXD (x y : D) : Option D := (eqX x y).map fun b => .bl (!b)
theorem opd_eqX {W : Wd} : OpD W (rEqX W.K) eqXD := by
  intro G H x y dx dy dz e rx ry ho Q q
  unfold eqXD at ho
  cases h : eqX dx dy with
  | none => rw [h] at ho; cases ho
  | some b =>
    rw [h] at ho
    cases ho
    unfold eqX at h
    cases h2 : eqS dx dy with
    | some c =>
      rw [h2] at h
      cases h
      exact .inl (opd_eq G H x y dx dy (.bl b) e rx ry (by unfold eqD; rw [h2]; rfl) Q q)
    | none =>
      rw [h2] at h
      have h : (if (shp dx && shp dy) = true then some (PyData.eqv dx.py dy.py) else none) = some b := h
      split at h
      · rename_i hz
        cases h
        unfold shp at hz
        simp only [Bool.and_eq_true] at hz
        exact .inr ⟨_, _, dp_up e _ _ (dp_of dx x rx hz.1.1), dp_up e _ _ (dp_of dy y ry hz.2.1), hz.1.2, hz.2.2, q _ G H (Gr.refl e) (.bl _)⟩
      · cases h
theorem opd_neX {W : Wd} : OpD W (rNeX W.K) neXD := by
  intro G H x y dx dy dz e rx ry ho Q q
  unfold neXD at ho
  cases h : eqX dx dy with
  | none => rw [h] at ho; cases ho
  | some b =>
    rw [h] at ho
    cases ho
    unfold eqX at h
    cases h2 : eqS dx dy with
    | some c =>
      rw [h2] at h
      cases h
      exact .inl (opd_ne G H x y dx dy (.bl (!b)) e rx ry (by unfold neD; rw [h2]; rfl) Q q)
    | none =>
      rw [h2] at h
      have h : (if (shp dx && shp dy) = true then some (PyData.eqv dx.py dy.py) else none) = some b := h
      split at h
      · rename_i hz
        cases h
        unfold shp at hz
        simp only [Bool.and_eq_true] at hz
        exact .inr ⟨_, _, dp_up e _ _ (dp_of dx x rx hz.1.1), dp_up e _ _ (dp_of dy y ry hz.2.1), hz.1.2, hz.2.2, q _ G H (Gr.refl e) (.bl _)⟩
      · cases h
/-! ### what no def is promised at the depth 0 -/
theorem fn_none {P : Program} {w : World} {W : Wd} {mg : Str → Option Value} {base : Heap} {f : Addr} {fd : FuncData} {ps : List Str} {n : Nat} (hn : ps.length = n) : FnG P w W.K mg base 0 f fd ps (SpD W n (PhiF fun _ => none)) := by
  subst hn
  refine ⟨fun vs H Q E h => ?_, fun A outer s H args us vs Q E hg hr he hb hv hs => ?_⟩
  · obtain ⟨_, _, _, l, _⟩ := h
    exact l
  · obtain ⟨_, _, _, _, _, _, ⟨_, _, z, _⟩, _⟩ := hs
    cases z
end Nv
namespace Nv
open PySem L2 PyProof.Rows PySem.Spec
def ltD : D → D → Option D := intD fun i j => some (.bl (decide (i < j)))
def leD : D → D → Option D := intD fun i j => some (.bl (decide (i ≤ j)))
def gtD : D → D → Option D := intD fun i j => some (.bl (decide (j < i)))
def geD : D → D → Option D := intD fun i j => some (.bl (decide (j ≤ i)))
def iaddD : D → D → Option D := intD fun i j => some (.int (i + j))
def mYes : M Bool := fun e => some (true, e)
/-! ### a dict display, as data -/
def mergeD (kvs more : List (Key × D)) : List (Key × D) := more.foldl (fun acc kv => putD acc kv.1 kv.2) kvs
def mPNil : M (List (Key × D)) := fun e => some ([], e)
def mPCons (k : Key) (a : M D) (r : M (List (Key × D))) : M (List (Key × D)) := fun e => (a e).bind fun p => (r p.2).bind fun q => some ((k, p.1) :: q.1, q.2)
def mDisp (r : M (List (Key × D))) : M D := fun e => (r e).bind fun p => if p.1.length ≤ 15 then some (.dct (mergeD [] p.1), p.2) else none
section
variable {W : Wd} {env : List Sl}
def KvR (W : Wd) (G : Hp) (kvs : List (Key × V)) (kds : List (Key × D)) : Prop := kvs.map (·.1) = kds.map (·.1) ∧ RpAll W G (kvs.map (·.2)) (kds.map (·.2))
theorem KvR.merge {G : Hp} : ∀ {more : List (Key × V)} {mds : List (Key × D)} {kvs : List (Key × V)} {kds : List (Key × D)}, KvR W G more mds → KvR W G kvs kds → KvR W G (mergeK kvs more) (mergeD kds mds)
  | [], [], _, _, _, h => h
  | [], _ :: _, _, _, h, _ => by cases h.1
  | _ :: _, [], _, _, h, _ => by cases h.1
  | (a, v) :: more, (b, x) :: mds, kvs, kds, h, k => by
    have e1 : a = b := (List.cons.inj h.1).1
    subst e1
    obtain ⟨h1, h2⟩ := h
    cases h2 with
    | cons r0 r1 => exact KvR.merge (more := more) (mds := mds) ⟨(List.cons.inj h1).2, r1⟩ (put_of (k := a) r0 k.1 k.2)
def EvP (W : Wd) (trs : List (TE × TE)) (env : List Sl) (R : List (Key × D) → List Sl → Prop) : Prop :=
  ∀ (G H : Hp) (σ : L2.St), St W G H σ env → ∀ Q : List (V × V) → Hp → Prop, (∀ kvs kds G' H' env', St W G' H' σ env' → Tr σ env G H σ env' G' H' → KvR W G' kvs kds → R kds env' → Q (kvs.map fun kv => (kV kv.1, kv.2)) H') → tPairs trs σ H Q
def SimP (W : Wd) (trs : List (TE × TE)) (m : M (List (Key × D))) : Prop := ∀ env R ds e1, m env = some (ds, e1) → R ds e1 → EvP W trs env R
theorem sp_nil : SimP W [] mPNil := fun env R x e1 hm hr => by
  cases hm
  exact fun G H σ S Q q => q [] [] G H env S (Tr.refl S) ⟨rfl, .nil⟩ hr
theorem sp_key {k : Key} {tv : TE} {mv : M D} {trs : List (TE × TE)} {mr : M (List (Key × D))} (ha : SimE W tv mv) (h : SimP W trs mr) : SimP W ((tC (kV k), tv) :: trs) (mPCons k mv mr) := fun env R d e1 hm hr => by
  obtain ⟨x, e2, h1, hm⟩ := bind_of hm
  obtain ⟨y, e3, h2, hm⟩ := bind_of hm
  cases hm
  intro G H σ S Q q
  refine tPairs_c ?_
  refine ha _ (fun d e => d = x ∧ e = e2) _ _ h1 ⟨rfl, rfl⟩ G H σ S _ fun v d G1 H1 e4 S1 T1 r1 ⟨z1, z2⟩ => ?_
  subst z1 z2
  refine h _ (fun kds e => kds = y ∧ e = e3) _ _ h2 ⟨rfl, rfl⟩ G1 H1 σ S1 _ fun kvs kds G2 H2 e5 S2 T2 r2 ⟨z3, z4⟩ => ?_
  subst z3 z4
  exact q ((k, v) :: kvs) ((k, d) :: kds) G2 H2 _ S2 (T1.trans' T2) ⟨by rw [List.map_cons, List.map_cons, r2.1], .cons (r1.up T2.gg) r2.2⟩ hr
theorem sp_str {x : Str} {tv : TE} {mv : M D} {trs : List (TE × TE)} {mr : M (List (Key × D))} (ha : SimE W tv mv) (h : SimP W trs mr) : SimP W ((tC (.str x), tv) :: trs) (mPCons (.inr x) mv mr) := sp_key (k := .inr x) ha h
theorem sp_int {x : Int} {tv : TE} {mv : M D} {trs : List (TE × TE)} {mr : M (List (Key × D))} (ha : SimE W tv mv) (h : SimP W trs mr) : SimP W ((tC (.int x), tv) :: trs) (mPCons (.inl x) mv mr) := sp_key (k := .inl x) ha h
theorem se_disp {trs : List (TE × TE)} {mr : M (List (Key × D))} (h : SimP W trs mr) : SimE W (tDisp trs) (mDisp mr) := fun env R d e1 hm hr => by
  obtain ⟨x, e2, h1, hm⟩ := bind_of hm
  split at hm
  · rename_i hz
    cases hm
    intro G H σ S Q q p hp
    have no : ¬ own σ env p := fun z => by
      obtain ⟨_, o, ho⟩ := S.own_at z
      rw [hp] at ho
      cases ho
    have S1 : St W G (upd H p (.dK [])) σ env := S.mut (S.gh.free hp) no
    refine h _ (fun kds e => kds = x ∧ e = e2) _ _ h1 ⟨rfl, rfl⟩ G _ σ S1 _ fun kvs kds G2 H2 e3 S2 T2 r2 ⟨z1, z2⟩ => ?_
    subst z1 z2
    have hp2 : H2 p = some (.dK []) := T2.fr p _ no upd_same
    have gp2 : G2 p = none := T2.nw p no (by rw [upd_same]; exact fun z => nomatch z) (S.gh.free hp)
    have no2 : ¬ own σ e3 p := fun z => by
      rcases T2.ow p z with y | y
      · exact no y
      · rw [upd_same] at y
        cases y
    have lk : kvs.length = kds.length := by
      have := congrArg List.length r2.1
      simpa using this
    obtain ⟨m1, m2⟩ := KvR.merge (kvs := []) (kds := []) r2 ⟨rfl, .nil⟩
    refine ⟨hp2, kvs, rfl, by rw [lk]; exact hz, ?_⟩
    have S3 : St W G2 (upd H2 p (.dK (mergeK [] kvs))) σ e3 := S2.mut gp2 no2
    have S4 := S3.freeze (p := p) (o := .dK (mergeK [] kvs)) upd_same gp2 no2
    have gg : Same G2 (upd G2 p (.dK (mergeK [] kvs))) := fun b u z => by
      rw [upd_ne (ne_of_none z gp2)]
      exact z
    have T3 : Tr σ env G H σ e3 G2 (upd H2 p (.dK (mergeK [] kvs))) := by
      have z := T2.del (A := p)
      rw [del_upd, del_off hp] at z
      have y := z.late (o := .dK (mergeK [] kvs)) hp
      have w : upd (Nv.del p H2) p (.dK (mergeK [] kvs)) = upd H2 p (.dK (mergeK [] kvs)) := by
        funext b
        by_cases hb : b = p
        · subst hb
          rw [upd_same, upd_same]
        · rw [upd_ne hb, upd_ne hb, del_ne hb]
      rw [w] at y
      exact y
    exact q _ _ _ _ e3 S4 (Tr.told S T3 hp) (.dct (.inl upd_same) m1 (m2.up gg)) hr
  · cases hm
end
end Nv
namespace Nv
open PySem L2 PyProof.Rows PySem.Spec
theorem u64 {k : Nat} {A : Around} (r : Room k A) : A.units + 64 < cLine := by have := r.un; omega
theorem u1 {k : Nat} {A : Around} (r : Room k A) : A.units + 1 < cLine := by have := r.un; omega
end Nv

set_option Elab.async false
set_option linter.all false
set_option maxRecDepth 100000
set_option maxHeartbeats 4000000
/-! NvT: is not None; texts joined; lists of one's own read and stored into by place. -/
namespace Nv
open PySem L2 PyProof.Rows PySem.Spec
section
variable {W : Wd} {G H : Hp} {σ : L2.St} {env : List Sl}
theorem op_noU {X : Cx} : OpR X (compareOp .IsNot) rNoU := opr_or op_notN1 op_notBl
theorem opd_no : OpD W rNoU noD := by
  intro G H x y dx dy dz e rx ry ho Q q
  cases dy with
  | non =>
    have ho : some (D.bl (!isNon dx)) = some dz := by cases dx <;> exact ho
    cases ho
    rw [ry.non_inv]
    exact .inl ⟨rfl, by rw [isNon_of rx]; exact q _ G H (Gr.refl e) (.bl _)⟩
  | bl b =>
    cases dx <;> first | (cases ho; done) | skip
    cases ho
    rw [rx.bl_inv, ry.bl_inv]
    exact .inr ⟨_, b, rfl, rfl, q _ G H (Gr.refl e) (.bl _)⟩
  | _ => cases dx <;> cases ho
/-! ### s.join(xs) -/
def strsOf : List D → Option (List Str)
  | [] => some []
  | .str s :: r => (strsOf r).map (s :: ·)
  | _ => none
theorem strsOf_of : ∀ {ds : List D} {ss : List Str}, strsOf ds = some ss → ds = ss.map D.str
  | [], _, h => by cases h; rfl
  | d :: ds, ss, h => by
    cases d <;> first | (cases h; done) | skip
    rename_i s
    have h : (strsOf ds).map (s :: ·) = some ss := h
    cases q : strsOf ds with
    | none => rw [q] at h; cases h
    | some cs =>
      rw [q] at h
      cases h
      rw [strsOf_of q]
      rfl
theorem rp_strs_inv {G : Hp} : ∀ {vs : List V} {ss : List Str}, RpAll W G vs (ss.map D.str) → vs = ss.map V.str
  | _, [], r => by cases r; rfl
  | _, s :: ss, r => by
    cases r with
    | cons h k =>
      rw [h.str_inv, rp_strs_inv k]
      rfl
def joinB (a : Str) (ys : List Str) : Bool := decide ((ys.map (·.length)).sum + ys.length * a.length ≤ 16777216)
def joinD : D → D → Option D
  | .str a, .lst xs => (strsOf xs).bind fun ys => if joinB a ys = true then some (.str (Txt.join a ys)) else none
  | .str a, .tup xs => (strsOf xs).bind fun ys => if joinB a ys = true then some (.str (Txt.join a ys)) else none
  | _, _ => none
theorem md_join : MetD W (fun x xs H Q => ∃ a p, ∃ ys : List Str, x = .str a ∧ xs = [.ref p] ∧ (SqL W.K H p (ys.map V.str) ∨ SqT W.K H p (ys.map V.str)) ∧
      (ys.map (·.length)).sum + ys.length * a.length ≤ 16777216 ∧ Q (.str (Txt.join a ys)) H) joinD := by
  intro G H x y dx dy dz e rx ry ho Q q
  cases dx <;> first | (cases ho; done) | skip
  cases dy <;> first | (cases ho; done) | skip
  all_goals
    rename_i a xs
    have ho : ((strsOf xs).bind fun ys => if joinB a ys = true then some (D.str (Txt.join a ys)) else none) = some dz := ho
    obtain ⟨ys, h1, h2⟩ := bind_of' ho
    split at h2
    · rename_i hz
      cases h2
      have ex := strsOf_of h1
      subst ex
      have hb := of_decide_eq_true hz
      first
        | (obtain ⟨p, vs, rfl, hs, ra⟩ := ry.lst_inv
           rw [rp_strs_inv ra] at hs
           rw [rx.str_inv]
           exact ⟨a, p, ys, rfl, rfl, .inl (.inl (.inl (e _ _ hs))), hb, q _ G H (Gr.refl e) (.str _)⟩)
        | (obtain ⟨p, vs, rfl, hs, ra⟩ := ry.tup_inv
           rw [rp_strs_inv ra] at hs
           rw [rx.str_inv]
           exact ⟨a, p, ys, rfl, rfl, .inr (Same.tup e hs), hb, q _ G H (Gr.refl e) (.str _)⟩)
    · cases h2

/-! ### xs[i], xs[i] = v, xs one's own -/
def Sl.list : Sl → Option (List D)
  | .ol xs => some xs
  | .pl xs => some xs
  | _ => none
def Sl.listTo : Sl → List D → Sl
  | .pl _, xs => .pl xs
  | _, xs => .ol xs
theorem OkS.list {ov : Option (Option V)} {s : Sl} {xs : List D} (h : OkS W G H ov s) (e : s.list = some xs) : ∃ l vs, ov = some (some (.ref l)) ∧ G l = none ∧ H l = some (.lst vs) ∧ RpAll W G vs xs := by
  cases s <;> first | (cases e; done) | skip
  all_goals
    cases e
    exact h
theorem list_owned {s : Sl} {xs : List D} (e : s.list = some xs) : s.owned = true := by
  cases s <;> first | rfl | cases e
def isL (i : Nat) (e : Env) : Option (List D) := (e[i]?).bind Sl.list
theorem isL_of {i : Nat} {e : Env} {xs : List D} (h : isL i e = some xs) : ∃ s, e[i]? = some s ∧ s.list = some xs := by
  obtain ⟨s, h1, h2⟩ := bind_of' h
  exact ⟨s, h1, h2⟩
def mLGet (i : Nat) (a : M D) : M D := fun e => (isL i e).bind fun _ => (a e).bind fun p => (isL i p.2).bind fun xs => (isInt p.1).bind fun k => (atI xs k).bind fun d => some (d, p.2)
theorem se_lget {i : Nat} {ta : TE} {ma : M D} (ha : SimE W ta ma) : SimE W (tOp (rIxU W.K) (tVar i) ta) (mLGet i ma) := fun env R d e1 hm hr => by
  obtain ⟨k0, h0, hm⟩ := bind_of' hm
  obtain ⟨y, e2, h1, hm⟩ := bind_of hm
  obtain ⟨xs, h2, hm⟩ := bind_of' hm
  obtain ⟨k, h3, hm⟩ := bind_of' hm
  obtain ⟨z, h4, hm⟩ := bind_of' hm
  cases hm
  obtain ⟨s0, a1, a2⟩ := isL_of h0
  obtain ⟨s, b1, b2⟩ := isL_of h2
  intro G H σ S Q q
  obtain ⟨p, _, ev, _⟩ := (S.ok i _ a1).list a2
  refine ⟨.ref p, ev, ha _ (fun x e => x = y ∧ e = e2) _ _ h1 ⟨rfl, rfl⟩ G H σ S _ fun v dv G1 H1 e3 S1 T1 rv ⟨z1, z2⟩ => ?_⟩
  subst z1 z2
  obtain ⟨p', vs, ev', g1, hh, ra⟩ := (S1.ok i _ b1).list b2
  rw [ev] at ev'
  cases ev'
  obtain ⟨w, w1, w2⟩ := ra.atI h4
  have ek : dv = .int k := isInt_of h3
  rw [ek] at rv
  rw [rv.int_inv]
  exact .inl ⟨p, vs, k, w, rfl, rfl, .inl (.inl hh), w1, q w _ G1 H1 _ S1 T1 w2 hr⟩
def mLPut (i : Nat) (k : Int) (a : M D) : MS := fun e => (a e).bind fun p => (p.2[i]?).bind fun s => s.list.bind fun xs => (ixN xs.length k).bind fun j => some (.nx, p.2.set i (s.listTo (xs.set j p.1)))
theorem ss_lput {i : Nat} {k : Int} {te : TE} {me : M D} (ha : SimE W te me) : SimS W (tAsg te (gSub (tVar i) (tC (.int k)) rSetL)) (mLPut i k me) := fun env P o e1 hm hr => by
  obtain ⟨x, e2, h1, hm⟩ := bind_of hm
  obtain ⟨s, h2, hm⟩ := bind_of' hm
  obtain ⟨xs, h3, hm⟩ := bind_of' hm
  obtain ⟨j, h4, hm⟩ := bind_of' hm
  cases hm
  intro G H σ E S n r b c
  refine ha _ (fun y e => y = x ∧ e = e2) _ _ h1 ⟨rfl, rfl⟩ G H σ S _ fun v d G1 H1 e3 S1 T1 rv ⟨z1, z2⟩ => ?_
  subst z1 z2
  obtain ⟨p, vs, ev, g1, hh, ra⟩ := (S1.ok i _ h2).list h3
  have os := list_owned h3
  refine ⟨.ref p, ev, p, vs, k, j, rfl, rfl, hh, by rw [ra.length]; exact h4, n G1 _ σ _ (S1.chg (o := .lst (vs.set j v)) h2 os ev ?_) (T1.trans S (Tr.chg S1 h2 os ev ?_)) hr⟩
  · cases s <;> first | (cases h3; done) | skip
    all_goals
      cases h3
      exact ⟨p, _, rfl, g1, upd_same, ra.set rv j⟩
  · cases s <;> first | (cases h3; done) | skip
    all_goals
      intro y
      first | rfl | cases y
end
end Nv

set_option Elab.async false
set_option linter.all false
set_option maxRecDepth 100000
set_option maxHeartbeats 4000000
/-! NvU: what is one's own is looked at and stays one's own; calls that hand on several things of one's own. -/
namespace Nv
open PySem L2 PyProof.Rows PySem.Spec

/-! ### looked at -/
def Sl.frz : Sl → Sl
  | .no => .no
  | .d x => .d x
  | .ol xs => .d (.lst xs)
  | .pl xs => .d (.lst xs)
  | .od kvs => .d (.dct kvs)
  | .pd kvs => .d (.dct kvs)
theorem Sl.frz_owned (s : Sl) : s.frz.owned = false := by cases s <;> rfl
theorem Sl.frz_pinned (s : Sl) : s.frz.pinned = false := by cases s <;> rfl
section
variable {W : Wd} {G H : Hp} {σ : L2.St} {env : List Sl}
theorem frz_get {i : Nat} {s : Sl} (e : (env.map Sl.frz)[i]? = some s) : ∃ t, env[i]? = some t ∧ s = t.frz := by
  rw [List.getElem?_map] at e
  cases q : env[i]? with
  | none => rw [q] at e; cases e
  | some t =>
    rw [q] at e
    cases e
    exact ⟨t, rfl, rfl⟩
open Classical in
theorem St.frzAll (S : St W G H σ env) : ∃ G2, Same G G2 ∧ St W G2 H σ (env.map Sl.frz) := by
  refine ⟨fun b => if own σ env b then H b else G b, fun b o h => ?_, fun b o h => ?_, by rw [List.length_map]; exact S.len, fun i s e => ?_, fun i j s t l e1 o1 => ?_⟩
  · show (if own σ env b then H b else G b) = some o
    split
    · exact S.gh b o h
    · exact h
  · have h : (if own σ env b then H b else G b) = some o := h
    split at h
    · exact h
    · exact S.gh b o h
  · obtain ⟨t, e0, rfl⟩ := frz_get e
    have q := S.ok i t e0
    have gg : Same G (fun b => if own σ env b then H b else G b) := fun b o h => by
      show (if own σ env b then H b else G b) = some o
      split
      · exact S.gh b o h
      · exact h
    have at_ : ∀ (l : Addr), σ[i]? = some (some (.ref l)) → t.owned = true → (if own σ env l then H l else G l) = H l := fun l e1 e2 => if_pos ⟨i, t, e0, e2, e1⟩
    cases t with
    | no => exact trivial
    | d x =>
      obtain ⟨v, e1, r⟩ := q
      exact ⟨v, e1, r.up gg⟩
    | ol xs =>
      obtain ⟨l, vs, e1, a, b, r⟩ := q
      exact ⟨.ref l, e1, .lst ((at_ l e1 rfl).trans b) (r.up gg)⟩
    | pl xs =>
      obtain ⟨l, vs, e1, a, b, r⟩ := q
      exact ⟨.ref l, e1, .lst ((at_ l e1 rfl).trans b) (r.up gg)⟩
    | od kvs =>
      obtain ⟨l, vs, e1, a, b, c, r⟩ := q
      exact ⟨.ref l, e1, .dct (.inl ((at_ l e1 rfl).trans b)) c (r.up gg)⟩
    | pd kvs =>
      obtain ⟨l, vs, e1, a, b, c, r⟩ := q
      exact ⟨.ref l, e1, .dct (.inl ((at_ l e1 rfl).trans b)) c (r.up gg)⟩
  · obtain ⟨t, _, rfl⟩ := frz_get e1
    rw [Sl.frz_owned] at o1
    cases o1
theorem not_own_frz {b : Addr} : ¬ own σ (env.map Sl.frz) b := fun ⟨i, s, e, o, _⟩ => by
  obtain ⟨t, _, rfl⟩ := frz_get e
  rw [Sl.frz_owned] at o
  cases o
theorem Gr.peek {G2 G' H' : Hp} {e' : List Sl} (S : St W G H σ env) (T : Tr σ (env.map Sl.frz) G2 H σ e' G' H') : Gr G H G H' := by
  have hh : Same H H' := fun b o h => T.fr b o not_own_frz h
  exact ⟨Same.refl G, fun b o h => hh b o (S.gh b o h), hh, fun _ _ h => h⟩
def scalB : D → Bool
  | .non => true
  | .bl _ => true
  | .int _ => true
  | .str _ => true
  | _ => false
theorem rp_scal {G' : Hp} {v : V} {d : D} (h : scalB d = true) (r : Rp W G' v d) : Rp W G v d := by
  cases d <;> first | (cases h; done) | skip
  · rw [r.non_inv]; exact .non
  · rw [r.bl_inv]; exact .bl _
  · rw [r.int_inv]; exact .int _
  · rw [r.str_inv]; exact .str _
end
def mPeek (m : M D) : M D := fun e => (m (e.map Sl.frz)).bind fun p => if scalB p.1 = true then some (p.1, e) else none
theorem se_peek {W : Wd} {te : TE} {m : M D} (h : SimE W te m) : SimE W te (mPeek m) := fun env R d e1 hm hr => by
  obtain ⟨x, e2, h1, hm⟩ := bind_of hm
  split at hm
  · rename_i hz
    cases hm
    intro G H σ S Q q
    obtain ⟨G2, gg, S2⟩ := S.frzAll
    refine h _ (fun y _ => y = x) _ _ h1 rfl G2 H σ S2 Q fun v d G' H' e' S' T' r hd => ?_
    subst hd
    have g := Gr.peek S T'
    exact q v d G H' env (S.up g) (Tr.up S g) (rp_scal hz r) hr
  · cases hm
def mPeekT (m : M Bool) : M Bool := fun e => (m (e.map Sl.frz)).bind fun p => some (p.1, e)
theorem st_peek {W : Wd} {tt : TT} {m : M Bool} (h : SimT W tt m) : SimT W tt (mPeekT m) := fun env R d e1 hm hr => by
  obtain ⟨x, e2, h1, hm⟩ := bind_of hm
  cases hm
  intro G H σ S Q q
  obtain ⟨G2, gg, S2⟩ := S.frzAll
  refine h _ (fun y _ => y = x) _ _ h1 rfl G2 H σ S2 Q fun b G' H' e' S' T' hb => ?_
  subst hb
  have g := Gr.peek S T'
  exact q b G H' env (S.up g) (Tr.up S g) hr

/-! ### calls with several things of one's own -/
inductive Am where
  | dat (d : D)
  | own (i : Nat)
def AmOk (W : Wd) (G : Hp) (σ : L2.St) (v : V) : Am → Prop
  | .dat d => Rp W G v d
  | .own i => σ[i]? = some (some v)
def AmAll (W : Wd) (G : Hp) (σ : L2.St) : List V → List Am → Prop
  | [], [] => True
  | v :: vs, a :: as => AmOk W G σ v a ∧ AmAll W G σ vs as
  | _, _ => False
theorem AmAll.up {W : Wd} {G G' : Hp} {σ : L2.St} (e : Same G G') : ∀ {vs : List V} {as : List Am}, AmAll W G σ vs as → AmAll W G' σ vs as
  | [], [], _ => trivial
  | [], _ :: _, h => h
  | _ :: _, [], h => h
  | _ :: _, .dat d :: _, ⟨h, k⟩ => ⟨Rp.up e h, AmAll.up e k⟩
  | _ :: _, .own i :: _, ⟨h, k⟩ => ⟨h, AmAll.up e k⟩
theorem AmAll.length {W : Wd} {G : Hp} {σ : L2.St} : ∀ {vs : List V} {as : List Am}, AmAll W G σ vs as → vs.length = as.length
  | [], [], _ => rfl
  | [], _ :: _, h => h.elim
  | _ :: _, [], h => h.elim
  | _ :: _, _ :: _, ⟨_, k⟩ => congrArg Nat.succ (AmAll.length k)
theorem AmAll.get {W : Wd} {G : Hp} {σ : L2.St} : ∀ {vs : List V} {as : List Am} {k : Nat} {a : Am}, AmAll W G σ vs as → as[k]? = some a → ∃ v, vs[k]? = some v ∧ AmOk W G σ v a
  | [], [], _, _, _, e => by simp at e
  | [], _ :: _, _, _, h, _ => h.elim
  | _ :: _, [], _, _, h, _ => h.elim
  | v :: _, a :: _, 0, _, ⟨h, _⟩, e => by
    simp at e
    subst e
    exact ⟨v, rfl, h⟩
  | _ :: _, _ :: _, k + 1, _, ⟨_, h⟩, e => by
    obtain ⟨w, q, r⟩ := h.get (k := k) (by simpa using e)
    exact ⟨w, by simpa using q, r⟩
/-- the slot that an argument is for the callee -/
def Am.slot (e : Env) : Am → Option Sl
  | .dat d => some (.d d)
  | .own i => (isOwn i e).map Sl.lend
def slots (e : Env) : List Am → Option (List Sl)
  | [] => some []
  | a :: as => (a.slot e).bind fun s => (slots e as).map (s :: ·)
def ownsOf : List Am → List Nat
  | [] => []
  | .dat _ :: as => ownsOf as
  | .own i :: as => i :: ownsOf as
def distinctB : List Nat → Bool
  | [] => true
  | i :: is => !is.contains i && distinctB is
def backs : List Am → List Sl → Env → Env
  | .own i :: as, s' :: ss, e => backs as ss (e.set i (((e[i]?).getD .no).back s'))
  | .dat _ :: as, _ :: ss, e => backs as ss e
  | _, _, e => e
theorem backs_len : ∀ (as : List Am) (ss : List Sl) (e : Env), (backs as ss e).length = e.length
  | [], _, _ => by unfold backs; rfl
  | .own i :: as, [], _ => rfl
  | .dat _ :: as, [], _ => rfl
  | .own i :: as, s :: ss, e => by
    show (backs as ss _).length = _
    rw [backs_len, List.length_set]
  | .dat _ :: as, _ :: ss, e => backs_len as ss e
theorem backs_off {i : Nat} : ∀ (as : List Am) (ss : List Sl) (e : Env), i ∉ ownsOf as → (backs as ss e)[i]? = e[i]?
  | [], _, _, _ => by unfold backs; rfl
  | .own j :: as, [], _, _ => rfl
  | .dat _ :: as, [], _, _ => rfl
  | .own j :: as, s :: ss, e, h => by
    show (backs as ss _)[i]? = _
    have hj : j ≠ i := fun z => h (by subst z; exact List.mem_cons_self)
    rw [backs_off as ss _ (fun z => h (List.mem_cons_of_mem _ z)), List.getElem?_set_ne hj]
  | .dat _ :: as, _ :: ss, e, h => backs_off as ss e h
theorem backs_at {i : Nat} {t s' : Sl} : ∀ (as : List Am) (ss : List Sl) (e : Env) (k : Nat), distinctB (ownsOf as) = true → as[k]? = some (.own i) → ss[k]? = some s' → e[i]? = some t → (backs as ss e)[i]? = some (t.back s')
  | [], _, _, _, _, h, _, _ => by simp at h
  | _ :: _, [], _, _, _, _, h, _ => by simp at h
  | .own j :: as, s :: ss, e, 0, hd, h1, h2, h3 => by
    simp at h1 h2
    subst h1 h2
    have hd : (!(ownsOf as).contains j && distinctB (ownsOf as)) = true := hd
    rw [Bool.and_eq_true] at hd
    have hn : j ∉ ownsOf as := by
      have := hd.1
      simpa using this
    show (backs as ss _)[j]? = _
    rw [backs_off as ss _ hn, List.getElem?_set_self (List.getElem?_eq_some_iff.mp h3).1, h3]
    rfl
  | .dat _ :: as, s :: ss, e, 0, hd, h1, h2, h3 => by simp at h1
  | .own j :: as, s :: ss, e, k + 1, hd, h1, h2, h3 => by
    have hd : (!(ownsOf as).contains j && distinctB (ownsOf as)) = true := hd
    rw [Bool.and_eq_true] at hd
    have hn : j ∉ ownsOf as := by
      have := hd.1
      simpa using this
    have hm : ∀ (as : List Am) (k : Nat), as[k]? = some (.own i) → i ∈ ownsOf as := by
      intro as
      induction as with
      | nil => intro k h; simp at h
      | cons a as ih =>
        intro k h
        cases k with
        | zero =>
          simp at h
          subst h
          exact List.mem_cons_self
        | succ k =>
          have := ih k (by simpa using h)
          cases a with
          | dat d => exact this
          | own m => exact List.mem_cons_of_mem _ this
    have h1 : as[k]? = some (.own i) := by simpa using h1
    have hj : j ≠ i := fun z => hn (by subst z; exact hm as k h1)
    show (backs as ss _)[i]? = _
    exact backs_at as ss _ k hd.2 h1 (by simpa using h2) (by rw [List.getElem?_set_ne hj]; exact h3)
  | .dat _ :: as, s :: ss, e, k + 1, hd, h1, h2, h3 => backs_at as ss e k hd (by simpa using h1) (by simpa using h2) h3
theorem owns_at {i : Nat} : ∀ {as : List Am}, i ∈ ownsOf as → ∃ k : Nat, as[k]? = some (Am.own i)
  | [], h => by cases h
  | .dat _ :: as, h => by
    obtain ⟨k, e⟩ := owns_at (as := as) h
    exact ⟨k + 1, by simpa using e⟩
  | .own j :: as, h => by
    rcases List.mem_cons.mp h with z | z
    · exact ⟨0, by rw [z]; rfl⟩
    · obtain ⟨k, e⟩ := owns_at (as := as) z
      exact ⟨k + 1, by simpa using e⟩
theorem owns_mem {i : Nat} : ∀ {as : List Am} {k : Nat}, as[k]? = some (.own i) → i ∈ ownsOf as
  | [], k, h => by simp at h
  | .dat _ :: as, 0, h => by simp at h
  | .dat _ :: as, k + 1, h => owns_mem (as := as) (k := k) (by simpa using h)
  | .own j :: as, 0, h => by
    simp at h
    subst h
    exact List.mem_cons_self
  | .own j :: as, k + 1, h => List.mem_cons_of_mem _ (owns_mem (as := as) (k := k) (by simpa using h))
theorem owns_inj {i : Nat} : ∀ {as : List Am} {k l : Nat}, distinctB (ownsOf as) = true → as[k]? = some (.own i) → as[l]? = some (.own i) → k = l
  | [], k, l, _, h, _ => by simp at h
  | .dat _ :: as, 0, _, _, h, _ => by simp at h
  | .dat _ :: as, _, 0, _, _, h => by simp at h
  | .dat _ :: as, k + 1, l + 1, hd, h1, h2 => congrArg Nat.succ (owns_inj (as := as) hd (by simpa using h1) (by simpa using h2))
  | .own j :: as, 0, 0, _, _, _ => rfl
  | .own j :: as, 0, l + 1, hd, h1, h2 => by
    simp at h1
    subst h1
    have hd : (!(ownsOf as).contains j && distinctB (ownsOf as)) = true := hd
    rw [Bool.and_eq_true] at hd
    have hn : j ∉ ownsOf as := by
      have := hd.1
      simpa using this
    exact absurd (owns_mem (as := as) (k := l) (by simpa using h2)) hn
  | .own j :: as, k + 1, 0, hd, h1, h2 => by
    simp at h2
    subst h2
    have hd : (!(ownsOf as).contains j && distinctB (ownsOf as)) = true := hd
    rw [Bool.and_eq_true] at hd
    have hn : j ∉ ownsOf as := by
      have := hd.1
      simpa using this
    exact absurd (owns_mem (as := as) (k := k) (by simpa using h1)) hn
  | .own j :: as, k + 1, l + 1, hd, h1, h2 => by
    have hd : (!(ownsOf as).contains j && distinctB (ownsOf as)) = true := hd
    rw [Bool.and_eq_true] at hd
    exact congrArg Nat.succ (owns_inj (as := as) hd.2 (by simpa using h1) (by simpa using h2))
theorem slots_len {e : Env} : ∀ {as : List Am} {ss : List Sl}, slots e as = some ss → ss.length = as.length
  | [], _, h => by cases h; rfl
  | a :: as, ss, h => by
    obtain ⟨s, h1, h2⟩ := bind_of' (show (a.slot e).bind (fun s => (slots e as).map (s :: ·)) = some ss from h)
    cases q : slots e as with
    | none => rw [q] at h2; cases h2
    | some r =>
      rw [q] at h2
      cases h2
      exact congrArg Nat.succ (slots_len q)
theorem slots_get {e : Env} : ∀ {as : List Am} {ss : List Sl} {k : Nat} {s : Sl}, slots e as = some ss → ss[k]? = some s → ∃ a, as[k]? = some a ∧ a.slot e = some s
  | [], _, k, _, h, e1 => by cases h; simp at e1
  | a :: as, ss, k, s, h, e1 => by
    obtain ⟨s0, h1, h2⟩ := bind_of' (show (a.slot e).bind (fun s => (slots e as).map (s :: ·)) = some ss from h)
    cases q : slots e as with
    | none => rw [q] at h2; cases h2
    | some r =>
      rw [q] at h2
      cases h2
      cases k with
      | zero =>
        have e1 : some s0 = some s := e1
        cases e1
        exact ⟨a, rfl, h1⟩
      | succ k =>
        obtain ⟨b, h3, h4⟩ := slots_get (k := k) q (by simpa using e1)
        exact ⟨b, by simpa using h3, h4⟩
theorem slot_own {e : Env} {i : Nat} {s : Sl} (h : (Am.own i).slot e = some s) : ∃ t, e[i]? = some t ∧ t.owned = true ∧ s = t.lend := by
  have h : (isOwn i e).map Sl.lend = some s := h
  cases q : isOwn i e with
  | none => rw [q] at h; cases h
  | some t =>
    rw [q] at h
    cases h
    obtain ⟨a, b⟩ := isOwn_of q
    exact ⟨t, a, b, rfl⟩
section
variable {W : Wd} {G H : Hp} {σ : L2.St} {env : List Sl} {n : Nat} {Phi : Fs}
theorem args_st {vs : List V} {ms : List Am} {as : List Sl} (S : St W G H σ env) (ha : AmAll W G σ vs ms) (hs : slots env ms = some as) (hd : distinctB (ownsOf ms) = true) :
    St W G H (vs.map some) as ∧ (∀ s ∈ as, ArgOk s) ∧ (∀ b, own (vs.map some) as b → own σ env b) ∧ (∀ b, own (vs.map some) as b → ∃ i ∈ ownsOf ms, σ[i]? = some (some (.ref b))) := by
  have lv : vs.length = as.length := by rw [ha.length, slots_len hs]
  have own_at : ∀ {k : Nat} {s : Sl} {l : Addr}, as[k]? = some s → s.owned = true → (vs.map some)[k]? = some (some (.ref l)) → ∃ i t, ms[k]? = some (.own i) ∧ env[i]? = some t ∧ t.owned = true ∧ s = t.lend ∧ σ[i]? = some (some (.ref l)) := fun {k s l} e o v => by
    obtain ⟨a, h1, h2⟩ := slots_get hs e
    obtain ⟨w, h3, h4⟩ := ha.get h1
    cases a with
    | dat d =>
      cases h2
      cases o
    | own i =>
      obtain ⟨t, h5, h6, h7⟩ := slot_own h2
      rw [List.getElem?_map, h3] at v
      have v : some (some w) = some (some (V.ref l)) := v
      cases v
      exact ⟨i, t, h1, h5, h6, h7, h4⟩
  refine ⟨⟨S.gh, by rw [List.length_map, lv], fun k s e => ?_, fun k l s t b e1 o1 v1 e2 o2 v2 => ?_⟩, fun s hm => ?_, fun b ⟨k, s, e, o, v⟩ => ?_, fun b ⟨k, s, e, o, v⟩ => ?_⟩
  · obtain ⟨a, h1, h2⟩ := slots_get hs e
    obtain ⟨w, h3, h4⟩ := ha.get h1
    rw [List.getElem?_map, h3]
    cases a with
    | dat d =>
      cases h2
      exact ⟨w, rfl, h4⟩
    | own i =>
      obtain ⟨t, h5, h6, rfl⟩ := slot_own h2
      have q := (S.ok i t h5).lend
      rw [show σ[i]? = some (some w) from h4] at q
      exact q
  · obtain ⟨i, t1, a1, a2, a3, _, a5⟩ := own_at e1 o1 v1
    obtain ⟨j, t2, b1, b2, b3, _, b5⟩ := own_at e2 o2 v2
    have : i = j := S.ds i j t1 t2 b a2 a3 a5 b2 b3 b5
    subst this
    exact owns_inj hd a1 b1
  · obtain ⟨k, hk⟩ := List.getElem?_of_mem hm
    obtain ⟨a, h1, h2⟩ := slots_get hs hk
    cases a with
    | dat d =>
      cases h2
      exact trivial
    | own i =>
      obtain ⟨t, h5, h6, rfl⟩ := slot_own h2
      cases t <;> first | exact trivial | cases h6
  · obtain ⟨i, t, a1, a2, a3, _, a5⟩ := own_at e o v
    exact ⟨i, t, a2, a3, a5⟩
  · obtain ⟨i, t, a1, a2, a3, _, a5⟩ := own_at e o v
    exact ⟨i, owns_mem a1, a5⟩
theorem Sl.back_owned {t s' : Sl} (h : s'.pinned = true) : (t.back s').owned = true := by
  unfold Sl.back
  split
  · exact Sl.pinned_owned h
  · cases s' <;> first | rfl | cases h
/-- the callee's promise at such arguments -/
theorem sp_args {vs : List V} {ms : List Am} {as : List Sl} {R : D → List Sl → Prop} {Q : VK} {E : XK} (S : St W G H σ env) (ha : AmAll W G σ vs ms) (hs : slots env ms = some as) (hd : distinctB (ownsOf ms) = true) (hl : ms.length = n)
    (hP : Phi as fun d as' => R d (backs ms as' env)) (q : ∀ v d G' H' env', St W G' H' σ env' → Tr σ env G H σ env' G' H' → Rp W G' v d → R d env' → env'.length = env.length → (∀ i ∈ ownsOf ms, ∃ t, env'[i]? = some t ∧ t.owned = true) → Q v H') : SpD W n Phi vs H Q E := by
  obtain ⟨SA, hok, hown, hidx⟩ := args_st S ha hs hd
  refine ⟨G, as, _, by rw [ha.length, hl], SA, hok, hP, fun v d G' H' as' S' T' rv k => ?_⟩
  let A : Addr → Prop := fun b => own (vs.map some) as b
  have hh : ∀ b o, ¬ A b → H b = some o → H' b = some o := fun b o n h => T'.fr b o n h
  have nw : ∀ b, ¬ A b → H b ≠ none → G b = none → G' b = none := fun b n => T'.nw b n
  -- a slot that was handed on
  have lent : ∀ {i : Nat}, i ∈ ownsOf ms → ∃ t l s', env[i]? = some t ∧ t.owned = true ∧ σ[i]? = some (some (.ref l)) ∧ (backs ms as' env)[i]? = some (t.back s') ∧ OkS W G' H' (some (some (.ref l))) s' ∧ s'.pinned = true := fun {i} hi => by
    obtain ⟨k, hk⟩ := owns_at hi
    obtain ⟨w, h3, h4⟩ := ha.get hk
    have lk : k < as.length := by
      rw [slots_len hs]
      exact (List.getElem?_eq_some_iff.mp hk).1
    have hk2 : as[k]? = some as[k] := by simp [lk]
    obtain ⟨a, h1, h2⟩ := slots_get hs hk2
    rw [hk] at h1
    cases h1
    obtain ⟨t, h5, h6, h7⟩ := slot_own h2
    obtain ⟨l, hl⟩ := (S.ok i t h5).addr h6
    have hw : w = .ref l := by
      have := h4.symm.trans hl
      cases this
      rfl
    subst hw
    have lp : as[k].pinned = true := by rw [h7]; exact Sl.lend_pinned h6
    obtain ⟨e1, s', e2, p2⟩ := T'.pn k as[k] hk2 lp
    have ok2 := S'.ok k s' e2
    rw [List.getElem?_map, h3] at ok2
    exact ⟨t, l, s', h5, h6, hl, backs_at ms as' env k hd hk e2 h5, ok2, p2⟩
  have S2 : St W G' H' σ (backs ms as' env) := S.swap A T'.gg S'.gh hh nw (backs_len _ _ _) fun i s e => by
    by_cases z : i ∈ ownsOf ms
    · obtain ⟨t, l, s', h5, h6, hl, hb, ok2, _⟩ := lent z
      rw [hb] at e
      cases e
      exact .inr ⟨by rw [hl]; exact ok2.back, t, h5, h6⟩
    · rw [backs_off _ _ _ z] at e
      refine .inl ⟨e, fun o l hl hA => ?_⟩
      obtain ⟨j, hj, hjl⟩ := hidx l hA
      obtain ⟨t, l2, s', h5, h6, hl2, _⟩ := lent hj
      rw [hjl] at hl2
      cases hl2
      have : i = j := S.ds i j s t l e o hl h5 h6 hjl
      subst this
      exact z hj
  have T2 : Tr σ env G H σ (backs ms as' env) G' H' := Tr.swap A T'.gg hh nw T'.kp (fun b hb => hown b hb) (fun i s e o => by
      by_cases z : i ∈ ownsOf ms
      · obtain ⟨t, l, s', h5, h6, _⟩ := lent z
        exact ⟨t, h5, h6⟩
      · rw [backs_off _ _ _ z] at e
        exact ⟨s, e, o⟩) fun i s e o => by
      by_cases z : i ∈ ownsOf ms
      · obtain ⟨t, l, s', h5, h6, hl, hb, _, p2⟩ := lent z
        rw [e] at h5
        cases h5
        refine ⟨_, hb, ?_⟩
        unfold Sl.back
        rw [if_pos o]
        exact p2
      · exact ⟨s, by rw [backs_off _ _ _ z]; exact e, o⟩
  exact q v d G' H' _ S2 T2 rv k (backs_len _ _ _) fun i hi => by
    obtain ⟨t, l, s', h5, h6, hl, hb, _, p2⟩ := lent hi
    exact ⟨_, hb, Sl.back_owned p2⟩
end
/-- arguments: data, or what is one's own, handed on -/
def EvL (W : Wd) (ta : TA) (env : List Sl) (R : List Am → List Sl → Prop) : Prop :=
  ∀ (G H : Hp) (σ : L2.St), St W G H σ env → ∀ Q : List V → Hp → Prop, (∀ vs ms G' H' env', St W G' H' σ env' → Tr σ env G H σ env' G' H' → AmAll W G' σ vs ms → R ms env' → Q vs H') → ta σ H Q
def SimL (W : Wd) (ta : TA) (m : M (List Am)) : Prop := ∀ env R ds e1, m env = some (ds, e1) → R ds e1 → EvL W ta env R
def mLNil : M (List Am) := fun e => some ([], e)
def mLDat (a : M D) (r : M (List Am)) : M (List Am) := fun e => (a e).bind fun p => (r p.2).bind fun q => some (.dat p.1 :: q.1, q.2)
def mLOwn (i : Nat) (r : M (List Am)) : M (List Am) := fun e => (isOwn i e).bind fun _ => (r e).bind fun q => some (.own i :: q.1, q.2)
section
variable {W : Wd} {te : TE} {me : M D} {tr : TA} {mr : M (List Am)}
theorem sl_nil : SimL W tNil mLNil := fun env R d e1 hm hr => by
  cases hm
  exact fun G H σ S Q q => q [] [] G H env S (Tr.refl S) trivial hr
theorem sl_dat (h1 : SimE W te me) (h2 : SimL W tr mr) : SimL W (tCons te tr) (mLDat me mr) := fun env R d e1 hm hr => by
  obtain ⟨x, e2, a1, hm⟩ := bind_of hm
  obtain ⟨y, e3, a2, hm⟩ := bind_of hm
  cases hm
  intro G H σ S Q q
  refine h1 _ (fun x' e' => x' = x ∧ e' = e2) _ _ a1 ⟨rfl, rfl⟩ G H σ S _ fun v d G1 H1 e1' S1 T1 r1 ⟨z1, z2⟩ => ?_
  subst z1 z2
  refine h2 _ (fun y' e' => y' = y ∧ e' = e3) _ _ a2 ⟨rfl, rfl⟩ G1 H1 σ S1 _ fun vs ms G2 H2 e2' S2 T2 r2 ⟨z3, z4⟩ => ?_
  subst z3 z4
  exact q (v :: vs) (.dat d :: ms) G2 H2 _ S2 (T1.trans S T2) ⟨r1.up T2.gg, r2⟩ hr
theorem sl_own {i : Nat} (h2 : SimL W tr mr) : SimL W (tCons (tVar i) tr) (mLOwn i mr) := fun env R d e1 hm hr => by
  obtain ⟨s0, a0, hm⟩ := bind_of' hm
  obtain ⟨y, e3, a2, hm⟩ := bind_of hm
  cases hm
  intro G H σ S Q q
  obtain ⟨b1, b2⟩ := isOwn_of a0
  obtain ⟨l, hl⟩ := (S.ok i _ b1).addr b2
  refine ⟨.ref l, hl, h2 _ (fun y' e' => y' = y ∧ e' = e3) _ _ a2 ⟨rfl, rfl⟩ G H σ S _ fun vs ms G2 H2 e2' S2 T2 r2 ⟨z3, z4⟩ => ?_⟩
  subst z3 z4
  exact q (.ref l :: vs) (.own i :: ms) G2 H2 _ S2 T2 ⟨hl, r2⟩ hr
def mCallL (n : Nat) (c : Fm) (a : M (List Am)) : M D := fun e => (a e).bind fun p => if p.1.length = n ∧ distinctB (ownsOf p.1) = true then (slots p.2 p.1).bind fun as => (c as).bind fun q => some (q.1, backs p.1 q.2 p.2) else none
theorem se_gl {n : Nat} {c : Fm} (h : SimL W tr mr) : SimE W (tG (SpD W n (PhiF c)) tr) (mCallL n c mr) := fun env R d e1 hm hr => by
  obtain ⟨ms, e2, h1, hm⟩ := bind_of hm
  split at hm
  · rename_i hz
    obtain ⟨as, h2, hm⟩ := bind_of' hm
    obtain ⟨y, as', h3, hm⟩ := bind_of hm
    cases hm
    intro G H σ S Q q
    refine h _ (fun ms' e' => ms' = ms ∧ e' = e2) _ _ h1 ⟨rfl, rfl⟩ G H σ S _ fun vs ms' G1 H1 e1' S1 T1 ra ⟨z1, z2⟩ => ?_
    subst z1 z2
    exact sp_args S1 ra h2 hz.2 hz.1 ⟨_, _, h3, hr⟩ fun v d G' H' env' S' T' r k _ _ => q v d G' H' env' S' (T1.trans S T') r k
  · cases hm

/-! ### a new list as the last argument, which the callee changes -/
theorem St.ext {G H : Hp} {σ : L2.St} {env : List Sl} {p : Addr} {vs : List V} {xs : List D} (S : St W G H σ env) (hh : H p = some (.lst vs)) (hg : G p = none) (no : ¬ own σ env p) (r : RpAll W G vs xs) : St W G H (σ ++ [some (.ref p)]) (env ++ [.ol xs]) := by
  have le := S.len
  have low : ∀ {i : Nat} {s : Sl}, (env ++ [Sl.ol xs])[i]? = some s → (env[i]? = some s ∧ (σ ++ [some (V.ref p)])[i]? = σ[i]?) ∨ (i = env.length ∧ s = .ol xs) := fun {i s} e => by
    by_cases z : i < env.length
    · rw [List.getElem?_append_left z] at e
      exact .inl ⟨e, List.getElem?_append_left (by rw [le]; exact z)⟩
    · rw [List.getElem?_append_right (by omega)] at e
      by_cases y : i = env.length
      · subst y
        rw [Nat.sub_self] at e
        simp at e
        exact .inr ⟨rfl, e.symm⟩
      · have : (i - env.length) ≠ 0 := by omega
        obtain ⟨k, hk⟩ := Nat.exists_eq_succ_of_ne_zero this
        rw [hk] at e
        simp at e
  have last : (σ ++ [some (V.ref p)])[env.length]? = some (some (.ref p)) := by
    rw [List.getElem?_append_right (by omega), le, Nat.sub_self]
    rfl
  refine ⟨S.gh, by rw [List.length_append, List.length_append, le]; rfl, fun i s e => ?_, fun i j s t l e1 o1 v1 e2 o2 v2 => ?_⟩
  · rcases low e with ⟨f, g⟩ | ⟨rfl, rfl⟩
    · rw [g]
      exact S.ok i s f
    · rw [last]
      exact ⟨p, vs, rfl, hg, hh, r⟩
  · rcases low e1 with ⟨f1, g1⟩ | ⟨rfl, rfl⟩
    · rcases low e2 with ⟨f2, g2⟩ | ⟨rfl, rfl⟩
      · rw [g1] at v1
        rw [g2] at v2
        exact S.ds i j s t l f1 o1 v1 f2 o2 v2
      · rw [last] at v2
        cases v2
        rw [g1] at v1
        exact absurd ⟨i, s, f1, o1, v1⟩ no
    · rcases low e2 with ⟨f2, g2⟩ | ⟨rfl, rfl⟩
      · rw [last] at v1
        cases v1
        rw [g2] at v2
        exact absurd ⟨j, t, f2, o2, v2⟩ no
      · rfl
theorem St.cutL {G H : Hp} {σ : L2.St} {env : List Sl} {x : Option V} {s : Sl} (S : St W G H (σ ++ [x]) (env ++ [s])) : St W G H σ env := by
  have le : σ.length = env.length := by
    have := S.len
    rw [List.length_append, List.length_append] at this
    simpa using this
  have up : ∀ {i : Nat} {t : Sl}, env[i]? = some t → (env ++ [s])[i]? = some t ∧ (σ ++ [x])[i]? = σ[i]? := fun {i t} e => by
    have z := (List.getElem?_eq_some_iff.mp e).1
    exact ⟨by rw [List.getElem?_append_left z]; exact e, List.getElem?_append_left (by rw [le]; exact z)⟩
  refine ⟨S.gh, le, fun i t e => ?_, fun i j t u l e1 o1 v1 e2 o2 v2 => ?_⟩
  · obtain ⟨f, g⟩ := up e
    rw [← g]
    exact S.ok i t f
  · obtain ⟨f1, g1⟩ := up e1
    obtain ⟨f2, g2⟩ := up e2
    exact S.ds i j t u l f1 o1 (by rw [g1]; exact v1) f2 o2 (by rw [g2]; exact v2)
theorem Tr.cutL {GA HA G H : Hp} {σ : L2.St} {envA env0 env : List Sl} {p : Addr} {s s0 : Sl} (le0 : env0.length = σ.length) (le : env.length = σ.length) (hp : HA p = none) {Gm Hm : Hp} (T0 : Tr σ envA GA HA σ env0 Gm Hm)
    (T : Tr (σ ++ [some (.ref p)]) (env0 ++ [s0]) Gm Hm (σ ++ [some (.ref p)]) (env ++ [s]) G H) (hno : ¬ own σ env p) : Tr σ envA GA HA σ env G H := by
  have o1 : ∀ b, own (σ ++ [some (.ref p)]) (env0 ++ [s0]) b → own σ env0 b ∨ b = p := fun b ⟨i, t, e, o, v⟩ => by
    by_cases z : i < env0.length
    · rw [List.getElem?_append_left z] at e
      rw [List.getElem?_append_left (by omega)] at v
      exact .inl ⟨i, t, e, o, v⟩
    · have hi : i < (env0 ++ [s0]).length := (List.getElem?_eq_some_iff.mp e).1
      rw [List.length_append] at hi
      have : i = σ.length := by simp at hi; omega
      subst this
      rw [List.getElem?_append_right (Nat.le_refl _), Nat.sub_self] at v
      have v : some (some (V.ref p)) = some (some (V.ref b)) := v
      cases v
      exact .inr rfl
  have o2 : ∀ b, own σ env b → own (σ ++ [some (.ref p)]) (env ++ [s]) b := fun b ⟨i, t, e, o, v⟩ => by
    have z := (List.getElem?_eq_some_iff.mp e).1
    exact ⟨i, t, by rw [List.getElem?_append_left z]; exact e, o, by rw [List.getElem?_append_left (by omega)]; exact v⟩
  have o3 : ∀ b, ¬ own σ envA b → HA b ≠ none → ¬ own (σ ++ [some (.ref p)]) (env0 ++ [s0]) b := fun b n h z => by
    rcases o1 b z with y | y
    · rcases T0.ow b y with x | x
      · exact n x
      · exact h x
    · rw [y] at h
      exact h hp
  refine ⟨T0.gg.trans T.gg, fun b o n h => ?_, fun b m n h => ?_, fun b h => ?_, fun b n => T.kp b (T0.kp b n), fun i t e q => ?_⟩
  · exact T.fr b o (o3 b n (by rw [h]; exact fun y => nomatch y)) (T0.fr b o n h)
  · exact T.nw b (o3 b m n) (T0.kp b n) (T0.nw b m n h)
  · have hb : b ≠ p := fun z => hno (by rw [← z]; exact h)
    rcases T.ow b (o2 b h) with z | z
    · rcases o1 b z with y | y
      · exact T0.ow b y
      · exact absurd y hb
    · refine .inr ?_
      cases w : HA b with
      | none => rfl
      | some o => exact absurd z (T0.kp b (by rw [w]; exact fun y => nomatch y))
  · obtain ⟨_, s1, e1, h1⟩ := T0.pn i t e q
    have i0 := (List.getElem?_eq_some_iff.mp e1).1
    obtain ⟨_, s', e2, h2⟩ := T.pn i s1 (by rw [List.getElem?_append_left i0]; exact e1) h1
    rw [List.getElem?_append_left (by omega)] at e2
    exact ⟨rfl, s', e2, h2⟩
def EvLF (W : Wd) (ta : TA) (env : List Sl) (R : List Am × List D → List Sl → Prop) : Prop :=
  ∀ (G H : Hp) (σ : L2.St), St W G H σ env → ∀ Q : List V → Hp → Prop, (∀ vs ms p ws xs G' H' env', St W G' H' σ env' → Tr σ env G H σ env' G' H' → AmAll W G' σ vs ms → H p = none → H' p = some (.lst ws) → G' p = none → ¬ own σ env' p → RpAll W G' ws xs →
    R (ms, xs) env' → Q (vs ++ [.ref p]) H') → ta σ H Q
def SimLF (W : Wd) (ta : TA) (m : M (List Am × List D)) : Prop := ∀ env R ds e1, m env = some (ds, e1) → R ds e1 → EvLF W ta env R
def mFLast (f : M (List D)) : M (List Am × List D) := fun e => (f e).bind fun p => some (([], p.1), p.2)
def mFDat (a : M D) (r : M (List Am × List D)) : M (List Am × List D) := fun e => (a e).bind fun p => (r p.2).bind fun q => some ((.dat p.1 :: q.1.1, q.1.2), q.2)
def mFOwn (i : Nat) (r : M (List Am × List D)) : M (List Am × List D) := fun e => (isOwn i e).bind fun _ => (r e).bind fun q => some ((.own i :: q.1.1, q.1.2), q.2)
section
variable {mrf : M (List Am × List D)}
theorem kp_none {σ σ' : L2.St} {env env' : List Sl} {G H G' H' : Hp} {p : Addr} (T : Tr σ env G H σ' env' G' H') (h : H' p = none) : H p = none := by
  cases w : H p with
  | none => rfl
  | some o => exact absurd h (T.kp p (by rw [w]; exact fun y => nomatch y))
theorem sf_last {m : M (List D)} (h : SimF W te m) : SimLF W (tCons te tNil) (mFLast m) := fun env R d e1 hm hr => by
  obtain ⟨x, e2, a1, hm⟩ := bind_of hm
  cases hm
  intro G H σ S Q q
  refine h _ (fun x' e' => x' = x ∧ e' = e2) _ _ a1 ⟨rfl, rfl⟩ G H σ S _ fun p ws xs G1 H1 e1' S1 T1 h0 h1 g1 no r1 ⟨z1, z2⟩ => ?_
  subst z1 z2
  exact q [] [] p ws _ G1 H1 _ S1 T1 trivial h0 h1 g1 no r1 hr
theorem sf_dat (h1 : SimE W te me) (h2 : SimLF W tr mrf) : SimLF W (tCons te tr) (mFDat me mrf) := fun env R d e1 hm hr => by
  obtain ⟨x, e2, a1, hm⟩ := bind_of hm
  obtain ⟨⟨y1, y2⟩, e3, a2, hm⟩ := bind_of hm
  cases hm
  intro G H σ S Q q
  refine h1 _ (fun x' e' => x' = x ∧ e' = e2) _ _ a1 ⟨rfl, rfl⟩ G H σ S _ fun v d G1 H1 e1' S1 T1 r1 ⟨z1, z2⟩ => ?_
  subst z1 z2
  refine h2 _ (fun y' e' => y' = (y1, y2) ∧ e' = e3) _ _ a2 ⟨rfl, rfl⟩ G1 H1 σ S1 _ fun vs ms p ws xs G2 H2 e2' S2 T2 r2 h0 hp g2 no rw2 ⟨z3, z4⟩ => ?_
  cases z3
  subst z4
  exact q (v :: vs) (.dat d :: y1) p ws _ G2 H2 _ S2 (T1.trans S T2) ⟨r1.up T2.gg, r2⟩ (kp_none T1 h0) hp g2 no rw2 hr
theorem sf_own {i : Nat} (h2 : SimLF W tr mrf) : SimLF W (tCons (tVar i) tr) (mFOwn i mrf) := fun env R d e1 hm hr => by
  obtain ⟨s0, a0, hm⟩ := bind_of' hm
  obtain ⟨⟨y1, y2⟩, e3, a2, hm⟩ := bind_of hm
  cases hm
  intro G H σ S Q q
  obtain ⟨b1, b2⟩ := isOwn_of a0
  obtain ⟨l, hl⟩ := (S.ok i _ b1).addr b2
  refine ⟨.ref l, hl, h2 _ (fun y' e' => y' = (y1, y2) ∧ e' = e3) _ _ a2 ⟨rfl, rfl⟩ G H σ S _ fun vs ms p ws xs G2 H2 e2' S2 T2 r2 h0 hp g2 no rw2 ⟨z3, z4⟩ => ?_⟩
  cases z3
  subst z4
  exact q (.ref l :: vs) (.own i :: y1) p ws _ G2 H2 _ S2 T2 ⟨hl, r2⟩ h0 hp g2 no rw2 hr
theorem isOwn_ext {e : Env} {s : Sl} {i : Nat} {t : Sl} (h : isOwn i e = some t) : isOwn i (e ++ [s]) = some t := by
  obtain ⟨a, b⟩ := isOwn_of h
  unfold isOwn
  rw [List.getElem?_append_left (List.getElem?_eq_some_iff.mp a).1, a]
  exact if_pos b
theorem slots_ext {e : Env} {xs : List D} : ∀ {ms : List Am} {as : List Sl}, slots e ms = some as → slots (e ++ [.ol xs]) (ms ++ [.own e.length]) = some (as ++ [.pl xs])
  | [], as, h => by
    cases h
    show ((isOwn e.length (e ++ [.ol xs])).map Sl.lend).bind (fun s => (slots _ []).map (s :: ·)) = _
    have : isOwn e.length (e ++ [.ol xs]) = some (.ol xs) := by
      unfold isOwn
      rw [List.getElem?_append_right (Nat.le_refl _), Nat.sub_self]
      rfl
    rw [this]
    rfl
  | m :: ms, as, h => by
    obtain ⟨s, h1, h2⟩ := bind_of' (show (m.slot e).bind (fun s => (slots e ms).map (s :: ·)) = some as from h)
    cases q : slots e ms with
    | none => rw [q] at h2; cases h2
    | some r =>
      rw [q] at h2
      cases h2
      show (m.slot (e ++ [.ol xs])).bind (fun s => (slots (e ++ [.ol xs]) (ms ++ [.own e.length])).map (s :: ·)) = _
      rw [slots_ext q]
      have : m.slot (e ++ [.ol xs]) = some s := by
        cases m with
        | dat d => exact h1
        | own i =>
          have h1 : (isOwn i e).map Sl.lend = some s := h1
          cases w : isOwn i e with
          | none => rw [w] at h1; cases h1
          | some t =>
            rw [w] at h1
            show (isOwn i (e ++ [.ol xs])).map Sl.lend = some s
            rw [isOwn_ext w]
            exact h1
      rw [this]
      rfl
theorem backs_ext {t : Sl} : ∀ (ms : List Am) (ss : List Sl) (e : Env) (L : Nat), L = e.length → (∀ i ∈ ownsOf ms, i < L) → ∃ s, backs (ms ++ [.own L]) ss (e ++ [t]) = backs ms ss e ++ [s]
  | [], [], e, L, _, _ => ⟨t, by unfold backs; rfl⟩
  | [], s :: ss, e, L, hL, _ => by
    refine ⟨((((e ++ [t])[L]?).getD .no).back s), ?_⟩
    show backs [] ss ((e ++ [t]).set L _) = backs [] (s :: ss) e ++ [_]
    have z1 : ∀ (ss : List Sl) (e : Env), backs [] ss e = e := fun ss e => by unfold backs; rfl
    rw [z1, z1, hL, List.set_append_right _ _ (Nat.le_refl _), Nat.sub_self]
    rfl
  | .own i :: ms, [], e, L, _, _ => ⟨t, rfl⟩
  | .dat d :: ms, [], e, L, _, _ => ⟨t, rfl⟩
  | .dat d :: ms, s :: ss, e, L, hL, hi => backs_ext ms ss e L hL hi
  | .own i :: ms, s :: ss, e, L, hL, hi => by
    have il : i < e.length := by rw [← hL]; exact hi i List.mem_cons_self
    obtain ⟨s1, h⟩ := backs_ext (t := t) ms ss (e.set i (((e[i]?).getD .no).back s)) L (by rw [List.length_set]; exact hL) fun j hj => hi j (List.mem_cons_of_mem _ hj)
    refine ⟨s1, ?_⟩
    show backs (ms ++ [.own L]) ss ((e ++ [t]).set i _) = backs ms ss (e.set i _) ++ [s1]
    rw [List.set_append_left _ _ il, List.getElem?_append_left il]
    exact h
theorem distinct_ext : ∀ (ms : List Am) (L : Nat), distinctB (ownsOf ms) = true → (∀ i ∈ ownsOf ms, i < L) → distinctB (ownsOf (ms ++ [.own L])) = true
  | [], L, _, _ => rfl
  | .dat d :: ms, L, h, k => distinct_ext ms L h k
  | .own i :: ms, L, h, k => by
    have h : (!(ownsOf ms).contains i && distinctB (ownsOf ms)) = true := h
    rw [Bool.and_eq_true] at h
    show (!(ownsOf (ms ++ [.own L])).contains i && distinctB (ownsOf (ms ++ [.own L]))) = true
    rw [distinct_ext ms L h.2 fun j hj => k j (List.mem_cons_of_mem _ hj), Bool.and_true]
    have hn : i ∉ ownsOf ms := by simpa using h.1
    have hL : i ≠ L := fun z => by have := k i List.mem_cons_self; omega
    have ap : ∀ ms : List Am, ownsOf (ms ++ [.own L]) = ownsOf ms ++ [L] := by
      intro ms
      induction ms with
      | nil => rfl
      | cons a ms ih => cases a with
        | dat d => exact ih
        | own j => exact congrArg (j :: ·) ih
    rw [ap]
    simp [hn, hL]
def mCallF (n : Nat) (c : Fm) (a : M (List Am × List D)) : M D := fun e => (a e).bind fun p => if p.1.1.length + 1 = n ∧ distinctB (ownsOf p.1.1) = true then (slots p.2 p.1.1).bind fun as => (c (as ++ [.pl p.1.2])).bind fun q => some (q.1, backs p.1.1 q.2 p.2) else none
theorem se_glf {n : Nat} {c : Fm} (h : SimLF W tr mrf) : SimE W (tG (SpD W n (PhiF c)) tr) (mCallF n c mrf) := fun env R d e1 hm hr => by
  obtain ⟨⟨ms, xs⟩, e2, h1, hm⟩ := bind_of hm
  split at hm
  · rename_i hz
    obtain ⟨as, h2, hm⟩ := bind_of' hm
    obtain ⟨y, as', h3, hm⟩ := bind_of hm
    cases hm
    intro G H σ S Q q
    refine h _ (fun ms' e' => ms' = (ms, xs) ∧ e' = e2) _ _ h1 ⟨rfl, rfl⟩ G H σ S _ fun vs ms' p ws xs' G1 H1 e1' S1 T1 ra h0 hp g1 no rx ⟨z1, z2⟩ => ?_
    cases z1
    subst z2
    have SE := S1.ext hp g1 no rx
    have il : ∀ i ∈ ownsOf ms, i < e1'.length := fun i hi => by
      obtain ⟨k, hk⟩ := owns_at hi
      have lk : k < as.length := by
        rw [slots_len h2]
        exact (List.getElem?_eq_some_iff.mp hk).1
      obtain ⟨a, b1, b2⟩ := slots_get h2 (k := k) (s := as[k]) (List.getElem?_eq_getElem lk)
      rw [hk] at b1
      cases b1
      obtain ⟨t, h5, _⟩ := slot_own b2
      exact (List.getElem?_eq_some_iff.mp h5).1
    have last : (σ ++ [some (V.ref p)])[e1'.length]? = some (some (.ref p)) := by
      rw [List.getElem?_append_right (by have := S1.len; omega), S1.len, Nat.sub_self]
      rfl
    have AE : AmAll W G1 (σ ++ [some (.ref p)]) (vs ++ [.ref p]) (ms ++ [.own e1'.length]) := by
      have : ∀ {vs : List V} {ms : List Am}, AmAll W G1 σ vs ms → AmAll W G1 (σ ++ [some (.ref p)]) (vs ++ [.ref p]) (ms ++ [.own e1'.length]) := by
        intro vs
        induction vs with
        | nil => intro ms h; cases ms with
          | nil => exact ⟨last, trivial⟩
          | cons a ms => exact h.elim
        | cons v vs ih => intro ms h; cases ms with
          | nil => exact h.elim
          | cons a ms =>
            refine ⟨?_, ih h.2⟩
            cases a with
            | dat d => exact h.1
            | own i =>
              have hi : σ[i]? = some (some v) := h.1
              show (σ ++ [some (V.ref p)])[i]? = some (some v)
              rw [List.getElem?_append_left (List.getElem?_eq_some_iff.mp hi).1]
              exact hi
      exact this ra
    obtain ⟨s, hs⟩ := backs_ext (t := .ol xs) ms as' e1' _ rfl il
    refine sp_args (R := fun d e => d = y ∧ e = backs (ms ++ [.own e1'.length]) as' (e1' ++ [.ol xs])) SE AE (slots_ext h2) (distinct_ext ms _ hz.2 il) (by rw [List.length_append]; exact hz.1) ⟨y, as', h3, rfl, rfl⟩ fun v d G' H' env' S' T' r ⟨k1, k2⟩ _ ko => ?_
    rw [hs] at k2
    subst k1 k2
    have S2 := S'.cutL
    have ap : e1'.length ∈ ownsOf (ms ++ [.own e1'.length]) := owns_mem (k := ms.length) (by rw [List.getElem?_append_right (Nat.le_refl _), Nat.sub_self]; rfl)
    obtain ⟨t, ht, ot⟩ := ko _ ap
    have no2 : ¬ own σ (backs ms as' e1') p := fun ⟨i, u, e, o, v⟩ => by
      have ib : i < (backs ms as' e1').length := (List.getElem?_eq_some_iff.mp e).1
      have iv : i < σ.length := by rw [S2.len]; exact ib
      have := S'.ds i e1'.length u t p (by rw [List.getElem?_append_left ib]; exact e) o (by rw [List.getElem?_append_left iv]; exact v) ht ot last
      rw [backs_len] at ib
      omega
    exact q v d G' H' _ S2 (Tr.cutL S1.len.symm S2.len.symm h0 T1 T' no2) r hr
  · cases hm
end
end
end Nv

set_option Elab.async false
set_option linter.all false
set_option maxRecDepth 100000
set_option maxHeartbeats 4000000
/-! NvV: t[::-1], t[:0:-1] of tuples; xs[::-1] of lists. -/
namespace Nv
open PySem L2 PyProof.Rows PySem.Spec HT

theorem pick_neg {α : Type} (l : List α) (k : Nat) (hk : k ≤ l.length) : ((List.range k).filterMap fun (m : Nat) => l[((l.length : Int) - 1 + (m : Int) * -1).toNat]?) = l.reverse.take k := by
  have h1 : ∀ m ∈ List.range k, (fun (m : Nat) => l[((l.length : Int) - 1 + (m : Int) * -1).toNat]?) m = (fun m => l.reverse[m]?) m := fun m hm => by
    have hm := List.mem_range.mp hm
    show l[((l.length : Int) - 1 + (m : Int) * -1).toNat]? = l.reverse[m]?
    have : ((l.length : Int) - 1 + (m : Int) * -1).toNat = l.length - 1 - m := by omega
    rw [this, List.getElem?_reverse (by omega)]
  have hc : ∀ (f g : Nat → Option α) (r : List Nat), (∀ m ∈ r, f m = g m) → r.filterMap f = r.filterMap g := fun f g r => by
    induction r with
    | nil => intro _; rfl
    | cons a r ih =>
      intro h
      rw [List.filterMap_cons, List.filterMap_cons, h a List.mem_cons_self, ih fun m hm => h m (List.mem_cons_of_mem _ hm)]
  rw [hc _ _ _ h1]
  have h2 : ∀ (r : List α) (k : Nat), k ≤ r.length → (List.range k).filterMap (fun m => r[m]?) = r.take k := fun r k hr => by
    induction k with
    | zero => rfl
    | succ k ih =>
      rw [List.range_succ, List.filterMap_append, ih (by omega), List.take_succ]
      congr 1
  exact h2 l.reverse k (by rw [List.length_reverse]; exact hk)
section
variable {prog : Program} {w : World} {A : Around} {E : Value → Shared → Prop} {s : Shared}
def negN (n : Nat) (hi : Option Int) : Nat := n - (if hi = none then 0 else 1)
theorem sliceApplied_neg {sl : Addr} {vl vu vs : Value} {hi : Option Int} {n : Nat} {Q : Int × Int × Nat → Shared → Prop} (hs : s.heap.IsSliceOf sl vl vu vs) (pl : IsPart vl none) (pu : IsPart vu hi) (ps : IsPart vs (some (-1))) (hh : hi = none ∨ hi = some 0)
    (h : Q ((n : Int) - 1, -1, negN n hi) s) : wpAny (model prog w) A (Builtin.Slice.sliceApplied (.ref sl) (pure (n : Int))) Q E s := by
  obtain ⟨os, hos, hcs, hds⟩ := hs
  unfold Builtin.Slice.sliceApplied Builtin.Slice.sliceFields
  refine wpAny_bind (wpAny_bind (wpAny_field hos hds (x := vl) rfl (wpAny_bind (wpAny_field hos hds (x := vu) rfl (wpAny_bind (wpAny_field hos hds (x := vs) rfl (wpAny_pure ?_)))))))
  refine wpAny_bind (slicePart_ ps ?_)
  show wpAny _ _ (if ((-1 : Int) == 0) = true then _ else _) _ _ s
  rw [if_neg (by decide)]
  refine wpAny_bind (slicePart_ pl (wpAny_bind (slicePart_ pu (wpAny_bind (wpAny_pure ?_)))))
  show wpAny _ _ (match Builtin.Slice.sliceAdjust none hi (-1) (n : Int) with | (lo, hi) => pure (lo, (-1 : Int), Builtin.Slice.slicePlaces lo hi (-1))) _ _ s
  have e : (match Builtin.Slice.sliceAdjust none hi (-1) (n : Int) with | (lo, hi) => (pure (lo, (-1 : Int), Builtin.Slice.slicePlaces lo hi (-1)) : Sem (Int × Int × Nat))) = pure ((n : Int) - 1, -1, negN n hi) := by
    have e1 : Builtin.Slice.sliceAdjust none hi (-1) (n : Int) = ((n : Int) - 1, if hi = none then -1 else min 0 ((n : Int) - 1)) := by
      unfold Builtin.Slice.sliceAdjust
      rcases hh with rfl | rfl <;> simp
    have e2 : ∀ a b : Int, Builtin.Slice.slicePlaces a b (-1) = (a - b).toNat := fun a b => by
      unfold Builtin.Slice.slicePlaces
      rw [if_neg (by decide)]
      by_cases h : a > b
      · rw [if_pos h]
        have : (a - b - 1) / -(-1 : Int) = a - b - 1 := by rw [show -(-1 : Int) = 1 from rfl, Int.ediv_one]
        rw [this]
        omega
      · rw [if_neg h]
        omega
    rw [e1]
    show (pure ((n : Int) - 1, (-1 : Int), Builtin.Slice.slicePlaces _ _ (-1)) : Sem (Int × Int × Nat)) = _
    rw [e2]
    have e3 : ((n : Int) - 1 - (if hi = none then -1 else min 0 ((n : Int) - 1))).toNat = negN n hi := by
      unfold negN
      rcases hh with rfl | rfl
      · simp
      · simp
        omega
    rw [e3]
  rw [e]
  exact wpAny_pure h
theorem getItem_tuple_neg {t sl : Addr} {items : Array Value} {vl vu vs : Value} {hi : Option Int} {Q : Value → Shared → Prop} (ht : IsTup s.heap t items) (hs : s.heap.IsSliceOf sl vl vu vs) (pl : IsPart vl none) (pu : IsPart vu hi) (ps : IsPart vs (some (-1))) (hh : hi = none ∨ hi = some 0)
    (h : Q (.ref s.heap.objs.size) { s with heap := s.heap.push { cls := .type "tuple", data := .seq (items.toList.reverse.take (negN items.size hi)).toArray } })
    (hsz : items.size ≤ sizeLine) : wpAny (model prog w) A (getItem (.ref t) (.ref sl)) Q E s := by
  have htake : sizeOk (.seq (items.toList.reverse.take (negN items.size hi)).toArray) := by
    show (items.toList.reverse.take (negN items.size hi)).toArray.size ≤ sizeLine
    rw [List.size_toArray, List.length_take, List.length_reverse, Array.length_toList]
    omega
  obtain ⟨os, hos, hcs, hds⟩ := id hs
  have hTs : s.TypeIs (.ref sl) "slice" := ⟨os, hos, hcs⟩
  unfold getItem
  try with_reducible refine wpAny_holding ?_
  first | refine wpAny_bind (wpAny_pure ?_) | skip
  refine wpAny_bind (wpAny_sequenceKey ht.typeIs (by decide) ?_)
  refine wpAny_bind (wpAny_callSpecial?_slot (name := Str.ofString "__getitem__") ht.typeIs PyProof.Rows.slot_tuple_getitem
    (wpAny_call_entry PyProof.Rows.slot_tuple_getitem ht.typeIs entry_tuple_getitem ?_ (args_tuple_getitem _ _)))
  show wpAny _ _ (Builtin.Tuple.tupleItemsOf (.ref t) >>= _) _ _ s
  refine wpAny_bind (tupleItemsOf_ ht ?_)
  refine wpAny_bind (wpAny_typeOf hTs ?_)
  rw [if_pos (by decide)]
  refine wpAny_bind (sliceApplied_neg hs pl pu ps hh ?_)
  have hno : ¬ ((((items.size : Int) - 1) == 0 && (-1 : Int) == 1 && negN items.size hi == items.size) = true) := by
    intro q
    rw [Bool.and_eq_true, Bool.and_eq_true] at q
    exact absurd (eq_of_beq q.1.2) (by decide)
  show wpAny _ _ (if (((items.size : Int) - 1) == 0 && (-1 : Int) == 1 && negN items.size hi == items.size) = true then _ else _) _ _ s
  have hpick : ((List.range (negN items.size hi)).filterMap fun (m : Nat) => items[((items.size : Int) - 1 + (m : Int) * -1).toNat]?).toArray = (items.toList.reverse.take (negN items.size hi)).toArray := by
    have := pick_neg items.toList (negN items.size hi) (by rw [Array.length_toList]; unfold negN; omega)
    rw [Array.length_toList] at this
    rw [← this]
    simp only [Array.getElem?_toList]
  rw [if_neg hno, hpick]
  first
    | exact wpAny_bind (m := Builtin.Tuple.tupleExact _) (wpAny_newObj_type (wpAny_pure ⟨_, rfl, wpAny_pure h⟩) htake)
    | exact wpAny_bind (m := Builtin.Tuple.tupleExact _) (wpAny_newObj_type (wpAny_bind (wpAny_pure (wpAny_pure ⟨_, rfl, wpAny_pure h⟩))) htake)
    | exact wpAny_bind (wpAny_bind (m := Builtin.Tuple.tupleExact _) (wpAny_newObj_type (wpAny_pure (wpAny_pure ⟨_, rfl, wpAny_pure h⟩)) htake))
    | exact wpAny_bind (wpAny_bind (m := Builtin.Tuple.tupleExact _) (wpAny_newObj_type (wpAny_pure ⟨_, rfl, wpAny_pure h⟩) htake))
end
section
variable {X : Cx}
/-- t[::-1], t[:0:-1], t a tuple -/
def tRevT (K : PySem.W.Frag) (hi : Option Int) (te : TE) : TE := fun σ H Q => te σ H fun x H1 => ∃ a xs, x = .ref a ∧ SqT K H1 a xs ∧ ∀ p, H1 p = none → Q (.ref p) (upd H1 p (.tup (xs.reverse.take (negN xs.length hi))))
theorem pe_revN {e : Expr} {te : TE} {up : Option Expr} {tu : TO} {hi : Option Int} (hh : hi = none ∨ hi = some 0) {k : Nat} {p1 p2 p3 pos : Pos} (he : PE X e te) (hu : PO X up tu) (htu : ∀ σ H Q, Q hi H → tu σ H Q) :
    PE X (.Subscript e (.Slice none up (some (.UnaryOp .USub (.Constant (.int 1) k p1) p2)) p3) pos) (tRevT X.K hi te) := by
  refine ⟨fun pins s σ H Q I h => ?_⟩
  refine Subscript_ (thn (he.run pins s σ H _ I h) fun v s1 ⟨x, H1, I1, r1, q1⟩ => ?_)
  obtain ⟨a, xs, ex, hx, q⟩ := q1
  subst ex
  cases r1
  have hst : PO X (some (.UnaryOp .USub (.Constant (.int 1) k p1) p2)) (tPart (tUn (rU fun i => .int (-i)) (tC (.int 1)))) := po_some (pe_un un_neg pe_int)
  refine wpAny_Slice (thn (po_none.run pins s1 σ H1 (fun o H2 => o = none ∧ H2 = H1) I1 ⟨rfl, rfl⟩) fun vl s2 ⟨l, H2, I2, pl, el, e2⟩ => ?_)
  subst el e2
  refine thn (hu.run pins s2 σ H2 (fun o H3 => o = hi ∧ H3 = H2) I2 (htu _ _ _ ⟨rfl, rfl⟩)) fun vu s3 ⟨u, H3, I3, pu, eu, e3⟩ => ?_
  subst eu e3
  refine thn (hst.run pins s3 σ H3 (fun o H4 => o = some (-1) ∧ H4 = H3) I3 ⟨1, rfl, -1, rfl, rfl, rfl⟩) fun vs s4 ⟨o, H4, I4, ps, eo, e4⟩ => ?_
  subst eo e4
  have I5 : Inv X pins σ H4 { s4 with heap := s4.heap.push { cls := .type "slice", data := .fields #[vl, vu, vs] } } := I4.kept (t' := s4.toks) fun b ob q => Heap.get?_push_of_some _ q
  obtain ⟨its, r, ht, hz⟩ := I5.tuple hx
  have hlen := r.length
  show wpAny (model X.prog X.w) X.A (subscriptTail e (.Slice none up (some (.UnaryOp .USub (.Constant (.int 1) k p1) p2)) p3) (.ref a) (.ref s4.heap.objs.size)) (EP X pins σ Q) X.xe { s4 with heap := s4.heap.push { cls := .type "slice", data := .fields #[vl, vu, vs] } }
  refine tail_any (ops := [.ref a, .ref s4.heap.objs.size]) ht.typeIs (PyProof.Rows.slot_tuple_getitem.lookup) ?_ (by with_unfolding_all rfl)
  have hl2 : its.toArray.size = xs.length := by rw [List.size_toArray]; exact hlen.symm
  refine getItem_tuple_neg ht (Heap.IsSliceOf.new _ vl vu vs) pl pu ps hh ?_ (by rw [hl2]; exact hz)
  rw [hl2]
  refine ⟨.ref _, _, I5.laid (t' := s4.toks) (o := .tup (xs.reverse.take (negN xs.length u))) (fun b ob q => Heap.get?_push_of_some _ q) (Nat.le_refl _) ?_, rfl, q _ (I5.hok.fresh (Nat.le_refl _))⟩
  exact ⟨by rw [List.length_take, List.length_reverse]; omega, _, r.reverse.take _, IsTup.new _ _⟩
end

/-! ### by data -/
def revD (hi : Option Int) : D → Option D
  | .tup xs => some (.tup (xs.reverse.take (negN xs.length hi)))
  | _ => none
def revLD : D → Option D
  | .lst xs => some (.lst xs.reverse)
  | _ => none
section
variable {W : Wd} {te : TE} {me : M D}
theorem se_revT {hi : Option Int} (h : SimE W te me) : SimE W (tRevT W.K hi te) (mUn (revD hi) me) := fun env R d e1 hm hr => by
  obtain ⟨x, e2, h1, hm⟩ := bind_of hm
  obtain ⟨z, h3, hm⟩ := bind_of' hm
  cases hm
  cases x <;> first | (cases h3; done) | skip
  cases h3
  intro G H σ S Q q
  refine h _ (fun x' e' => x' = _ ∧ e' = e2) _ _ h1 ⟨rfl, rfl⟩ G H σ S _ fun v d G1 H1 e1' S1 T1 r1 ⟨z1, z2⟩ => ?_
  subst z1 z2
  obtain ⟨a, xs, rfl, hx, ra⟩ := r1.tup_inv
  refine ⟨a, xs, rfl, Same.tup S1.gh hx, fun p hp => ?_⟩
  obtain ⟨g, rp⟩ := Gr.newT S1.gh hp (ra.reverse.take (negN xs.length hi))
  refine q _ _ _ _ _ (S1.up g) (T1.trans S (Tr.up S1 g)) ?_ hr
  rw [← ra.length]
  exact rp
theorem se_revL (h : SimE W te me) : SimE W (tRevL W.K te) (mUn revLD me) := fun env R d e1 hm hr => by
  obtain ⟨x, e2, h1, hm⟩ := bind_of hm
  obtain ⟨z, h3, hm⟩ := bind_of' hm
  cases hm
  cases x <;> first | (cases h3; done) | skip
  cases h3
  intro G H σ S Q q
  refine h _ (fun x' e' => x' = _ ∧ e' = e2) _ _ h1 ⟨rfl, rfl⟩ G H σ S _ fun v d G1 H1 e1' S1 T1 r1 ⟨z1, z2⟩ => ?_
  subst z1 z2
  obtain ⟨a, xs, rfl, hx, ra⟩ := r1.lst_inv
  refine ⟨a, xs, rfl, .inl (.inl (S1.gh _ _ hx)), fun p hp => ?_⟩
  obtain ⟨g, rp⟩ := Gr.newL S1.gh hp ra.reverse
  exact q _ _ _ _ _ (S1.up g) (T1.trans S (Tr.up S1 g)) rp hr
end
end Nv

set_option Elab.async false
set_option linter.all false
set_option maxRecDepth 100000
set_option maxHeartbeats 4000000
/-! NvY: more operators and built-ins by data: count, max, list * int, list + list as a new list, str. -/
namespace Nv
open PySem L2 PyProof.Rows PySem.Spec
section
variable {W : Wd} {ta tb te : TE} {ma mb me : M D} {tr : TA} {mr : M (List D)}
def countD : D → D → Option D
  | .str a, .str b => some (.int (Txt.count a b))
  | _, _ => none
theorem md_count : MetD W (fun x xs H Q => ∃ a b, x = .str a ∧ xs = [.str b] ∧ Q (.int (Txt.count a b)) H) countD := by
  intro G H x y dx dy dz e rx ry ho Q q
  cases dx <;> first | (cases ho; done) | skip
  cases dy <;> first | (cases ho; done) | skip
  cases ho
  rw [rx.str_inv, ry.str_inv]
  exact ⟨_, _, rfl, rfl, q _ G H (Gr.refl e) (.int _)⟩
def max2D : List D → Option D
  | [.int i, .int j] => some (.int (if j > i then j else i))
  | _ => none
theorem cd_max2 : CallD W (fun xs H Q => ∃ i j, xs = [.int i, .int j] ∧ Q (.int (if j > i then j else i)) H) max2D := by
  intro G H xs ds dz e r ho Q q
  unfold max2D at ho
  split at ho
  · cases ho
    obtain ⟨v, w, rfl, r1, r2⟩ := rp2 r
    rw [r1.int_inv, r2.int_inv]
    exact ⟨_, _, rfl, q _ G H (Gr.refl e) (.int _)⟩
  · cases ho
def strOfD : List D → Option D
  | [.int i] => if i.natAbs.log2 < 1920 then some (.str (toString i)) else none
  | [.str a] => some (.str a)
  | _ => none
def rStrOf : List V → Hp → VK → Prop := fun xs H Q => (∃ i, xs = [.int i] ∧ i.natAbs.log2 < 1920 ∧ Q (.str (toString i)) H) ∨ ∃ a, xs = [.str a] ∧ Q (.str a) H
theorem cr_strOf {X : Cx} : CallR X (.type "str") rStrOf := callr_or call_str_int SkE.call_str_str
theorem cd_str : CallD W rStrOf strOfD := by
  intro G H xs ds dz e r ho Q q
  unfold strOfD at ho
  split at ho
  · split at ho
    · rename_i hz
      cases ho
      obtain ⟨v, rfl, r1⟩ := rp1 r
      rw [r1.int_inv]
      exact .inl ⟨_, rfl, hz, q _ G H (Gr.refl e) (.str _)⟩
    · cases ho
  · cases ho
    obtain ⟨v, rfl, r1⟩ := rp1 r
    rw [r1.str_inv]
    exact .inr ⟨_, rfl, q _ G H (Gr.refl e) (.str _)⟩
  · cases ho
theorem RpAll.rep {G : Hp} {vs : List V} {ds : List D} (r : RpAll W G vs ds) : ∀ n : Nat, RpAll W G (List.replicate n vs).flatten (List.replicate n ds).flatten
  | 0 => .nil
  | n + 1 => by
    rw [List.replicate_succ, List.replicate_succ, List.flatten_cons, List.flatten_cons]
    exact r.append (RpAll.rep r n)
def repD : D → D → Option D
  | .lst xs, .int k => if -(2 ^ 63) ≤ k ∧ k < 2 ^ 63 ∧ xs.length * k.toNat ≤ sizeLine then some (.lst (List.replicate k.toNat xs).flatten) else none
  | _, _ => none
theorem opd_rep : OpD W rRep repD := by
  intro G H x y dx dy dz e rx ry ho Q q
  cases dx <;> first | (cases ho; done) | skip
  cases dy <;> first | (cases ho; done) | skip
  rename_i xs k
  have ho : (if -(2 ^ 63) ≤ k ∧ k < 2 ^ 63 ∧ xs.length * k.toNat ≤ sizeLine then some (D.lst (List.replicate k.toNat xs).flatten) else none) = some dz := ho
  split at ho
  · rename_i hz
    cases ho
    obtain ⟨a, vs, rfl, hs, ra⟩ := rx.lst_inv
    rw [ry.int_inv]
    refine ⟨a, k, vs, rfl, rfl, e _ _ hs, hz.1, hz.2.1, by rw [ra.length]; exact hz.2.2, fun p hp => ?_⟩
    obtain ⟨g, rp⟩ := Gr.newL e hp (ra.rep k.toNat)
    exact q _ _ _ g rp
  · cases ho
/-! list + list, a new list of one's own -/
def mAddF (a b : M D) : M (List D) := fun e => (a e).bind fun p => (isLst p.1).bind fun xs => (b p.2).bind fun q => (isLst q.1).bind fun ys => if xs.length + ys.length ≤ sizeLine then some (xs ++ ys, q.2) else none
theorem sf_add (ha : SimE W ta ma) (hb : SimE W tb mb) : SimF W (tOp (rAddU W.K) ta tb) (mAddF ma mb) := fun env R d e1 hm hr => by
  obtain ⟨x, e2, h1, hm⟩ := bind_of hm
  obtain ⟨xs, h2, hm⟩ := bind_of' hm
  obtain ⟨y, e3, h3, hm⟩ := bind_of hm
  obtain ⟨ys, h4, hm⟩ := bind_of' hm
  split at hm
  · rename_i hz
    cases hm
    intro G H σ S Q q
    refine ha _ (fun x' e' => x' = x ∧ e' = e2) _ _ h1 ⟨rfl, rfl⟩ G H σ S _ fun v dv G1 H1 e1' S1 T1 r1 ⟨z1, z2⟩ => ?_
    subst z1 z2
    refine hb _ (fun y' e' => y' = y ∧ e' = e3) _ _ h3 ⟨rfl, rfl⟩ G1 H1 σ S1 _ fun u du G2 H2 e2' S2 T2 r2 ⟨z3, z4⟩ => ?_
    subst z3 z4
    have r1 := r1.up T2.gg
    have k2 : dv = .lst xs := isLst_of h2
    have k4 : du = .lst ys := isLst_of h4
    subst k2 k4
    obtain ⟨a, vs, rfl, hs, ra⟩ := r1.lst_inv
    obtain ⟨b, ws, rfl, ht, rb⟩ := r2.lst_inv
    refine .inr (.inr (.inl ⟨a, b, vs, ws, rfl, rfl, S2.gh _ _ hs, S2.gh _ _ ht, by rw [ra.length, rb.length]; exact hz, fun p hp => ?_⟩))
    have no : ¬ own σ e2' p := fun z => by
      obtain ⟨_, o, ho⟩ := S2.own_at z
      rw [hp] at ho
      cases ho
    have T := T1.trans S T2
    have h0 : H p = none := kp_none T hp
    have hg : G2 p = none := S2.gh.free hp
    exact q p _ _ G2 _ e2' (S2.mut hg no) (T.late h0) h0 upd_same hg no (ra.append rb) hr
  · cases hm
/-! {} -/
theorem se_dnew : SimE W tDNewK (mC (.dct [])) := fun env R d e1 hm hr => by
  cases hm
  intro G H σ S Q q p hp
  have g : Gr G H (upd G p (.dK [])) (upd H p (.dK [])) := Gr.new S.gh hp
  exact q _ _ _ _ _ (S.up g) (Tr.up S g) (.dct (.inl upd_same) rfl .nil) hr
def mOwnD (j : Nat) : MS := fun e => if freeB e j = true then some (.nx, e.set j (.od [])) else none
theorem ss_ownD {j : Nat} : SimS W (tAsg tDNewK (gName j)) (mOwnD j) := fun env P o e1 hm hr => by
  have hm : (if freeB env j = true then some (Out.nx, env.set j (.od [])) else none) = some (o, e1) := hm
  split at hm
  · rename_i hz
    cases hm
    intro G H σ E S n r b c p hp
    have no : ¬ own σ env p := fun z => by
      obtain ⟨_, o, ho⟩ := S.own_at z
      rw [hp] at ho
      cases ho
    have hg : G p = none := S.gh.free hp
    exact n G _ _ _ ((S.mut hg no).takeS (s := .od []) ⟨p, [], rfl, hg, upd_same, rfl, .nil⟩ no) (Tr.takeS (freeB_of hz) ((Tr.refl S).late hp) hp) hr
  · cases hm
/-! xs == [] -/
def rEqNil (K : PySem.W.Frag) : R2 := fun x y H Q => (∃ l b xs, x = .ref l ∧ y = .ref b ∧ H l = some (.lst xs) ∧ H b = some (.lst []) ∧ xs ≠ [] ∧ Q (.bl false) H) ∨ rEqX K x y H Q
theorem op_eqLen {X : Cx} (hu : X.A.units + 64 < cLine) : OpR X (compareOp .Eq) (fun x y H Q => ∃ l b xs, x = .ref l ∧ y = .ref b ∧ H l = some (.lst xs) ∧ H b = some (.lst []) ∧ xs ≠ [] ∧ Q (.bl false) H) := by
  intro pins s σ H x y v u Q I rx ry h
  obtain ⟨l, b, xs, rfl, rfl, hH, hB, hne, q⟩ := h
  cases rx
  cases ry
  obtain ⟨z, its, n, r, hl, e⟩ := I.lstM hH
  obtain ⟨z2, its2, n2, r2, hl2, e2⟩ := I.lstM hB
  cases r2
  refine PySem.P.eq_list_lengths e e2 ?_ (by omega) ⟨.bl false, H, I, rfl, q⟩
  cases r with
  | nil => exact absurd rfl hne
  | cons _ _ => rfl
theorem ka_eqNil {X : Cx} {K : PySem.W.Frag} (hu : X.A.units + 64 < cLine) (h : X.K = K) : OpR X (compareOp .Eq) (rEqNil K) := h ▸ opr_or (op_eqLen hu) (ka_eq hu rfl)
def eqNilD : D → D → Option D
  | .lst xs, .lst [] => some (.bl xs.isEmpty)
  | _, _ => none
theorem opd_eqNil : OpD W (rEqNil W.K) eqNilD := by
  intro G H x y dx dy dz e rx ry ho Q q
  unfold eqNilD at ho
  split at ho
  · rename_i xs
    cases ho
    cases xs with
    | nil => exact .inr (opd_eqX G H x y _ _ _ e rx ry rfl Q q)
    | cons d ds =>
      obtain ⟨a, vs, rfl, hs, ra⟩ := rx.lst_inv
      obtain ⟨b, ws, rfl, ht, rb⟩ := ry.lst_inv
      cases rb
      refine .inl ⟨a, b, vs, rfl, rfl, e _ _ hs, e _ _ ht, fun z => ?_, q _ G H (Gr.refl e) (.bl _)⟩
      subst z
      cases ra
  · cases ho
end
end Nv

set_option Elab.async false
set_option linter.all false
set_option maxRecDepth 100000
set_option maxHeartbeats 4000000
/-! NvH: mirrors read forwards: Wp m e Q: the mirror m at the slots e gives an answer and slots of which Q holds; Wc likewise of a def's mirror. -/
namespace Nv
open PySem L2 PyProof.Rows PySem.Spec

def Wp {α : Type} (m : M α) (e : Env) (Q : α → Env → Prop) : Prop := ∃ x e', m e = some (x, e') ∧ Q x e'
def Wc (c : Fm) (as : List Sl) (R : D → List Sl → Prop) : Prop := ∃ d as', c as = some (d, as') ∧ R d as'
section
variable {α β : Type} {e e1 : Env} {d : D} {i j n : Nat}
theorem Wp.mono {m : M α} {Q Q' : α → Env → Prop} (h : Wp m e Q) (k : ∀ x e', Q x e' → Q' x e') : Wp m e Q' := by
  obtain ⟨x, e', a, b⟩ := h
  exact ⟨x, e', a, k x e' b⟩
theorem Wc.mono {c : Fm} {as : List Sl} {R R' : D → List Sl → Prop} (h : Wc c as R) (k : ∀ x e', R x e' → R' x e') : Wc c as R' := by
  obtain ⟨x, e', a, b⟩ := h
  exact ⟨x, e', a, k x e' b⟩
theorem Wp.of {m : M α} {Q : α → Env → Prop} {x : α} {e' : Env} (h : m e = some (x, e')) (k : Q x e') : Wp m e Q := ⟨x, e', h, k⟩
theorem Wc.of {c : Fm} {as as' : List Sl} {R : D → List Sl → Prop} (h : c as = some (d, as')) (k : R d as') : Wc c as R := ⟨d, as', h, k⟩
theorem wp_bind {m : M α} {f : α × Env → Option (β × Env)} {g : Env → Option (β × Env)} {Q : β → Env → Prop} (hg : g e = (m e).bind f) (h : Wp m e fun x e1 => ∃ y e2, f (x, e1) = some (y, e2) ∧ Q y e2) : ∃ y e2, g e = some (y, e2) ∧ Q y e2 := by
  obtain ⟨x, e1, a, y, e2, b, c⟩ := h
  exact ⟨y, e2, by rw [hg, a]; exact b, c⟩
theorem set_same {x : Sl} (h : e[i]? = some x) : e.set i x = e := by
  apply List.ext_getElem?
  intro k
  by_cases z : i = k
  · subst z
    rw [List.getElem?_set_self (List.getElem?_eq_some_iff.mp h).1, h]
  · rw [List.getElem?_set_ne z]

/-! ### expressions -/
variable {Q : D → Env → Prop} {a b c : M D} {r : M (List D)} {t u : M Bool}
theorem wp_c (k : Q d e) : Wp (mC d) e Q := ⟨d, e, rfl, k⟩
theorem wp_var (h : e[i]? = some (.d d)) (k : Q d e) : Wp (mVar i) e Q := ⟨d, e, by unfold mVar; rw [h]; show some (d, e.set i (.d d)) = _; rw [set_same h], k⟩
theorem wp_varL {xs : List D} (h : e[i]? = some (.ol xs)) (k : Q (.lst xs) (e.set i (.d (.lst xs)))) : Wp (mVar i) e Q := ⟨.lst xs, _, by unfold mVar; rw [h]; rfl, k⟩
theorem wp_varO {kvs : List (Key × D)} (h : e[i]? = some (.od kvs)) (k : Q (.dct kvs) (e.set i (.d (.dct kvs)))) : Wp (mVar i) e Q := ⟨.dct kvs, _, by unfold mVar; rw [h]; rfl, k⟩
theorem wp_op {o : D → D → Option D} (h : Wp a e fun x e1 => Wp b e1 fun y e2 => ∃ z, o x y = some z ∧ Q z e2) : Wp (mOp o a b) e Q := by
  obtain ⟨x, e1, h1, y, e2, h2, z, h3, k⟩ := h
  exact ⟨z, e2, by unfold mOp; rw [h1]; show (b e1).bind _ = _; rw [h2]; show (o x y).bind _ = _; rw [h3]; rfl, k⟩
theorem wp_un {o : D → Option D} (h : Wp a e fun x e1 => ∃ z, o x = some z ∧ Q z e1) : Wp (mUn o a) e Q := by
  obtain ⟨x, e1, h1, z, h3, k⟩ := h
  exact ⟨z, e1, by unfold mUn; rw [h1]; show (o x).bind _ = _; rw [h3]; rfl, k⟩
theorem wp_nil {Q : List D → Env → Prop} (k : Q [] e) : Wp mNil e Q := ⟨[], e, rfl, k⟩
theorem wp_cons {Q : List D → Env → Prop} (h : Wp a e fun x e1 => Wp r e1 fun xs e2 => Q (x :: xs) e2) : Wp (mCons a r) e Q := by
  obtain ⟨x, e1, h1, y, e2, h2, k⟩ := h
  exact ⟨x :: y, e2, by unfold mCons; rw [h1]; show (r e1).bind _ = _; rw [h2]; rfl, k⟩
theorem wp_cb {o : List D → Option D} (h : Wp r e fun xs e1 => ∃ z, o xs = some z ∧ Q z e1) : Wp (mCb o r) e Q := by
  obtain ⟨x, e1, h1, z, h3, k⟩ := h
  exact ⟨z, e1, by unfold mCb; rw [h1]; show (o x).bind _ = _; rw [h3]; rfl, k⟩
theorem wp_bl {Q : Bool → Env → Prop} (h : Wp a e fun x e1 => ∃ z, x = .bl z ∧ Q z e1) : Wp (mBl a) e Q := by
  obtain ⟨x, e1, h1, z, rfl, k⟩ := h
  exact ⟨z, e1, by unfold mBl; rw [h1]; rfl, k⟩
theorem wp_tru {Q : Bool → Env → Prop} (h : Wp a e fun x e1 => ∃ z, truD x = some z ∧ Q z e1) : Wp (mTru a) e Q := by
  obtain ⟨x, e1, h1, z, h3, k⟩ := h
  exact ⟨z, e1, by unfold mTru; rw [h1]; show (truD x).bind _ = _; rw [h3]; rfl, k⟩
theorem wp_not {Q : Bool → Env → Prop} (h : Wp t e fun x e1 => Q (!x) e1) : Wp (mNot t) e Q := by
  obtain ⟨x, e1, h1, k⟩ := h
  exact ⟨!x, e1, by unfold mNot; rw [h1]; rfl, k⟩
theorem wp_and {Q : Bool → Env → Prop} (h : Wp t e fun x e1 => if x = true then Wp u e1 Q else Q false e1) : Wp (mAnd t u) e Q := by
  obtain ⟨x, e1, h1, k⟩ := h
  cases x with
  | true =>
    obtain ⟨y, e2, h2, k⟩ := (show Wp u e1 Q from k)
    exact ⟨y, e2, by unfold mAnd; rw [h1]; exact h2, k⟩
  | false => exact ⟨false, e1, by unfold mAnd; rw [h1]; rfl, k⟩
theorem wp_or {Q : Bool → Env → Prop} (h : Wp t e fun x e1 => if x = true then Q true e1 else Wp u e1 Q) : Wp (mOr t u) e Q := by
  obtain ⟨x, e1, h1, k⟩ := h
  cases x with
  | false =>
    obtain ⟨y, e2, h2, k⟩ := (show Wp u e1 Q from k)
    exact ⟨y, e2, by unfold mOr; rw [h1]; exact h2, k⟩
  | true => exact ⟨true, e1, by unfold mOr; rw [h1]; rfl, k⟩
theorem wp_if {Q : α → Env → Prop} {x y : M α} (h : Wp t e fun b e1 => if b = true then Wp x e1 Q else Wp y e1 Q) : Wp (mIf t x y) e Q := by
  obtain ⟨b, e1, h1, k⟩ := h
  cases b with
  | true =>
    obtain ⟨y, e2, h2, k⟩ := (show Wp x e1 Q from k)
    exact ⟨y, e2, by unfold mIf; rw [h1]; exact h2, k⟩
  | false =>
    obtain ⟨y, e2, h2, k⟩ := (show Wp y e1 Q from k)
    exact ⟨y, e2, by unfold mIf; rw [h1]; exact h2, k⟩
theorem wp_andV (h : Wp a e fun x e1 => ∃ z, x = .bl z ∧ if z = true then Wp b e1 Q else Q (.bl false) e1) : Wp (mAndV a b) e Q := by
  obtain ⟨x, e1, h1, z, rfl, k⟩ := h
  cases z with
  | true =>
    obtain ⟨y, e2, h2, k⟩ := (show Wp b e1 Q from k)
    exact ⟨y, e2, by unfold mAndV; rw [h1]; exact h2, k⟩
  | false => exact ⟨.bl false, e1, by unfold mAndV; rw [h1]; rfl, k⟩
theorem wp_orV (h : Wp a e fun x e1 => ∃ z, x = .bl z ∧ if z = true then Q (.bl true) e1 else Wp b e1 Q) : Wp (mOrV a b) e Q := by
  obtain ⟨x, e1, h1, z, rfl, k⟩ := h
  cases z with
  | false =>
    obtain ⟨y, e2, h2, k⟩ := (show Wp b e1 Q from k)
    exact ⟨y, e2, by unfold mOrV; rw [h1]; exact h2, k⟩
  | true => exact ⟨.bl true, e1, by unfold mOrV; rw [h1]; rfl, k⟩
theorem wp_notV (h : Wp a e fun x e1 => ∃ z, x = .bl z ∧ Q (.bl (!z)) e1) : Wp (mNotV a) e Q := by
  obtain ⟨x, e1, h1, z, rfl, k⟩ := h
  exact ⟨.bl (!z), e1, by unfold mNotV; rw [h1]; rfl, k⟩
theorem wp_chain {o o' : D → D → Option D} (h : Wp a e fun x e1 => Wp b e1 fun y e2 => ∃ z, o x y = some (.bl z) ∧ if z = true then Wp c e2 (fun w e3 => ∃ v, o' y w = some v ∧ Q v e3) else Q (.bl false) e2) : Wp (mChain o o' a b c) e Q := by
  obtain ⟨x, e1, h1, y, e2, h2, z, h3, k⟩ := h
  cases z with
  | true =>
    obtain ⟨w, e3, h4, v, h5, k⟩ := (show Wp c e2 _ from k)
    exact ⟨v, e3, by unfold mChain; rw [h1]; show (b e1).bind _ = _; rw [h2]; show (o x y).bind _ = _; rw [h3]; show (c e2).bind _ = _; rw [h4]; show (o' y w).bind _ = _; rw [h5]; rfl, k⟩
  | false => exact ⟨.bl false, e2, by unfold mChain; rw [h1]; show (b e1).bind _ = _; rw [h2]; show (o x y).bind _ = _; rw [h3]; rfl, k⟩
theorem wp_sz {Q : List D → Env → Prop} (h : Wp r e fun xs e1 => xs.length ≤ sizeLine ∧ Q xs e1) : Wp (mSz r) e Q := by
  obtain ⟨x, e1, h1, h2, k⟩ := h
  exact ⟨x, e1, by unfold mSz; rw [h1]; exact if_pos h2, k⟩
theorem wp_lst (h : Wp r e fun xs e1 => Q (.lst xs) e1) : Wp (mLst r) e Q := by
  obtain ⟨x, e1, h1, k⟩ := h
  exact ⟨.lst x, e1, by unfold mLst; rw [h1]; rfl, k⟩
theorem wp_tup (h : Wp r e fun xs e1 => xs.length ≤ sizeLine ∧ Q (.tup xs) e1) : Wp (mTup r) e Q := by
  obtain ⟨x, e1, h1, k⟩ := wp_sz (Q := fun xs e1 => Q (.tup xs) e1) h
  exact ⟨.tup x, e1, by unfold mTup; rw [h1]; rfl, k⟩
theorem wp_is {p : D → Bool} (h : Wp a e fun x e1 => kindOk x = true ∧ Q (.bl (p x)) e1) : Wp (mIs p a) e Q := by
  obtain ⟨x, e1, h1, h2, k⟩ := h
  exact ⟨.bl (p x), e1, by unfold mIs; rw [h1]; exact if_pos h2, k⟩
theorem wp_onone {Q : Option Int → Env → Prop} (k : Q none e) : Wp mONone e Q := ⟨none, e, rfl, k⟩
theorem wp_osome {Q : Option Int → Env → Prop} (h : Wp a e fun x e1 => ∃ i, x = .int i ∧ Q (some i) e1) : Wp (mOSome a) e Q := by
  obtain ⟨x, e1, h1, z, rfl, k⟩ := h
  exact ⟨some z, e1, by unfold mOSome; rw [h1]; rfl, k⟩
theorem wp_sl {lo hi : M (Option Int)} (h : Wp a e fun x e1 => Wp lo e1 fun l e2 => Wp hi e2 fun v e3 => ∃ z, slD x l v = some z ∧ Q z e3) : Wp (mSl a lo hi) e Q := by
  obtain ⟨x, e1, h1, l, e2, h2, v, e3, h3, z, h4, k⟩ := h
  exact ⟨z, e3, by unfold mSl; rw [h1]; show (lo e1).bind _ = _; rw [h2]; show (hi e2).bind _ = _; rw [h3]; show (slD x l v).bind _ = _; rw [h4]; rfl, k⟩
theorem wp_m1 {o : D → D → Option D} (h : Wp a e fun x e1 => ∃ s, x = .str s ∧ Wp b e1 fun y e2 => ∃ z, o (.str s) y = some z ∧ Q z e2) : Wp (mM1 o a b) e Q := by
  obtain ⟨x, e1, h1, s, rfl, y, e2, h2, z, h3, k⟩ := h
  exact ⟨z, e2, by unfold mM1; rw [h1]; show (b e1).bind _ = _; rw [h2]; show (o (.str s) y).bind _ = _; rw [h3]; rfl, k⟩
theorem wp_all (h : Wp r e fun xs e1 => ∃ bs, all1 xs = some bs ∧ Q (.bl (bs.all id)) e1) : Wp (mAll r) e Q := by
  obtain ⟨x, e1, h1, bs, h2, k⟩ := h
  exact ⟨_, e1, by unfold mAll; rw [h1]; show (all1 x).bind _ = _; rw [h2]; rfl, k⟩
theorem wp_repr (h : Wp r e fun xs e1 => ∃ x, xs = [x] ∧ rokB x = true ∧ Q (.str x.py.shown) e1) : Wp (mRepr r) e Q := by
  obtain ⟨x, e1, h1, y, rfl, h2, k⟩ := h
  exact ⟨_, e1, by unfold mRepr; rw [h1]; show (repr1 [y]).bind _ = _; rw [show repr1 [y] = some (.str y.py.shown) from if_pos h2]; rfl, k⟩
theorem wp_peek (h : Wp a (e.map Sl.frz) fun x _ => scalB x = true ∧ Q x e) : Wp (mPeek a) e Q := by
  obtain ⟨x, e1, h1, h2, k⟩ := h
  exact ⟨x, e, by unfold mPeek; rw [h1]; exact if_pos h2, k⟩
theorem wp_peekT {Q : Bool → Env → Prop} (h : Wp t (e.map Sl.frz) fun x _ => Q x e) : Wp (mPeekT t) e Q := by
  obtain ⟨x, e1, h1, k⟩ := h
  exact ⟨x, e, by unfold mPeekT; rw [h1]; rfl, k⟩
theorem wp_addF {Q : List D → Env → Prop} (h : Wp a e fun x e1 => ∃ xs, x = .lst xs ∧ Wp b e1 fun y e2 => ∃ ys, y = .lst ys ∧ xs.length + ys.length ≤ sizeLine ∧ Q (xs ++ ys) e2) : Wp (mAddF a b) e Q := by
  obtain ⟨x, e1, h1, xs, rfl, y, e2, h2, ys, rfl, h3, k⟩ := h
  exact ⟨_, e2, by unfold mAddF; rw [h1]; show (b e1).bind _ = _; rw [h2]; exact if_pos h3, k⟩
theorem wp_dget {s0 s : Sl} {k0 kvs : List (Key × D)} {k : Key} (h0 : e[i]? = some s0) (h0' : s0.dict = some k0) (h : Wp a e fun x e1 => ∃ s kvs k v, e1[i]? = some s ∧ s.dict = some kvs ∧ keyD x = some k ∧ valD kvs k = some v ∧ Q v e1) : Wp (mDGet i a) e Q := by
  obtain ⟨x, e1, h1, s, kvs, k, v, h2, h3, h4, h5, kk⟩ := h
  exact ⟨v, e1, by unfold mDGet isOD; rw [h0]; show (s0.dict).bind _ = _; rw [h0']; show (a e).bind _ = _; rw [h1]; show (e1[i]?.bind Sl.dict).bind _ = _; rw [h2]; show (s.dict).bind _ = _; rw [h3]; show (keyD x).bind _ = _; rw [h4]; show (valD kvs k).bind _ = _; rw [h5]; rfl, kk⟩
theorem wp_lget {s0 : Sl} {k0 : List D} (h0 : e[i]? = some s0) (h0' : s0.list = some k0) (h : Wp a e fun x e1 => ∃ s xs k v, e1[i]? = some s ∧ s.list = some xs ∧ x = .int k ∧ atI xs k = some v ∧ Q v e1) : Wp (mLGet i a) e Q := by
  obtain ⟨x, e1, h1, s, xs, k, v, h2, h3, rfl, h5, kk⟩ := h
  exact ⟨v, e1, by unfold mLGet isL; rw [h0]; show (s0.list).bind _ = _; rw [h0']; show (a e).bind _ = _; rw [h1]; show (e1[i]?.bind Sl.list).bind _ = _; rw [h2]; show (s.list).bind _ = _; rw [h3]; show (atI xs k).bind _ = _; rw [h5]; rfl, kk⟩
/-! what is walked -/
theorem wp_ilist {Q : List D → Env → Prop} (h : Wp a e fun x e1 => ∃ xs, x = .lst xs ∧ Q xs e1) : Wp (mIList a) e Q := by
  obtain ⟨x, e1, h1, xs, rfl, k⟩ := h
  exact ⟨xs, e1, by unfold mIList; rw [h1]; rfl, k⟩
theorem wp_itup {Q : List D → Env → Prop} (h : Wp a e fun x e1 => ∃ xs, x = .tup xs ∧ Q xs e1) : Wp (mITup a) e Q := by
  obtain ⟨x, e1, h1, xs, rfl, k⟩ := h
  exact ⟨xs, e1, by unfold mITup; rw [h1]; rfl, k⟩
theorem wp_istr {Q : List D → Env → Prop} (h : Wp a e fun x e1 => ∃ s, x = .str s ∧ Q (signs s) e1) : Wp (mIStr a) e Q := by
  obtain ⟨x, e1, h1, xs, rfl, k⟩ := h
  exact ⟨signs xs, e1, by unfold mIStr; rw [h1]; rfl, k⟩
theorem wp_irng {Q : List D → Env → Prop} (h : Wp r e fun xs e1 => ∃ n : Int, xs = [.int n] ∧ (-(2 ^ 62) ≤ n ∧ n < 2 ^ 62) ∧ Q (upto n.toNat) e1) : Wp (mIRng r) e Q := by
  obtain ⟨x, e1, h1, n, rfl, h2, k⟩ := h
  exact ⟨_, e1, by unfold mIRng; rw [h1]; show (rngD [.int n]).bind _ = _; rw [show rngD [.int n] = some (upto n.toNat) from if_pos h2]; rfl, k⟩
theorem wp_list {Q : List D → Env → Prop} (h : Wp r e fun xs e1 => ∃ ys, seqOf xs = some ys ∧ Q ys e1) : Wp (mList r) e Q := by
  obtain ⟨x, e1, h1, ys, h2, k⟩ := h
  exact ⟨ys, e1, by unfold mList; rw [h1]; show (seqOf x).bind _ = _; rw [h2]; rfl, k⟩
/-! comprehensions -/
theorem wp_lc {Q : List D → Env → Prop} {it : M (List D)} (h : Wp it e fun ds e1 => e1[j]? = some .no ∧ ∃ rs e2, lcGo j t a ds [] e1 = some (rs, e2) ∧ Q rs e2) : Wp (mLc it t a j) e Q := by
  obtain ⟨ds, e1, h1, h2, rs, e2, h3, k⟩ := h
  refine ⟨rs, e2, ?_, k⟩
  unfold mLc
  rw [h1]
  show (if (e1[j]?).any isNo = true then lcGo j t a ds [] e1 else none) = _
  rw [h2]
  exact h3
theorem lc_inv (I : Nat → List D → Env → Prop) : ∀ (ds acc : List D) (k : Nat) (e : Env), I k acc e → acc.length + ds.length ≤ sizeLine →
    (∀ i d acc e, ds[i]? = some d → I (k + i) acc e → Wp t (e.set j (.d d)) fun b e1 => if b = true then Wp a e1 fun y e2 => I (k + i + 1) (acc ++ [y]) (e2.set j .no) else I (k + i + 1) acc (e1.set j .no)) →
    ∃ rs e2, lcGo j t a ds acc e = some (rs, e2) ∧ I (k + ds.length) rs e2
  | [], acc, k, e, h, _, _ => ⟨acc, e, rfl, h⟩
  | d :: ds, acc, k, e, h, hl, hs => by
    rw [List.length_cons] at hl
    obtain ⟨b, e1, h1, q⟩ := hs 0 d acc e rfl h
    have next : ∀ acc' e', acc'.length + ds.length ≤ sizeLine → I (k + 1) acc' e' → ∃ rs e2, lcGo j t a ds acc' e' = some (rs, e2) ∧ I (k + (ds.length + 1)) rs e2 := fun acc' e' hl' h' => by
      obtain ⟨rs, e2, p, q⟩ := lc_inv I ds acc' (k + 1) e' h' hl' fun i d acc e hd hi => by
        have := hs (i + 1) d acc e (by simpa using hd) (by rw [show k + (i + 1) = k + 1 + i by omega]; exact hi)
        rw [show k + (i + 1) = k + 1 + i by omega] at this
        exact this
      exact ⟨rs, e2, p, by rw [show k + (ds.length + 1) = k + 1 + ds.length by omega]; exact q⟩
    have e0 : lcGo j t a (d :: ds) acc e = (t (e.set j (.d d))).bind fun p => if p.1 = true then (a p.2).bind fun q => if acc.length < sizeLine then lcGo j t a ds (acc ++ [q.1]) (q.2.set j .no) else none else lcGo j t a ds acc (p.2.set j .no) := rfl
    cases b with
    | true =>
      obtain ⟨y, e2, h2, q⟩ := (show Wp a e1 _ from q)
      obtain ⟨rs, e3, h3, q3⟩ := next (acc ++ [y]) (e2.set j .no) (by rw [List.length_append]; simp; omega) q
      refine ⟨rs, e3, ?_, q3⟩
      rw [e0, h1]
      show (a e1).bind _ = _
      rw [h2]
      exact (if_pos (by omega)).trans h3
    | false =>
      obtain ⟨rs, e3, h3, q3⟩ := next acc (e1.set j .no) (by omega) q
      refine ⟨rs, e3, ?_, q3⟩
      rw [e0, h1]
      exact h3
/-! ### statements -/
variable {m1 m2 : MS} {R : Out → Env → Prop}
/-- what comes behind a statement -/
def seqK (b : MS) (R : Out → Env → Prop) : Out → Env → Prop
  | .nx, e => Wp b e R
  | o, e => R o e
theorem wp_seq (h : Wp m1 e (seqK m2 R)) : Wp (mSeq m1 m2) e R := by
  obtain ⟨o, e1, h1, k⟩ := h
  cases o with
  | nx =>
    obtain ⟨o2, e2, h2, k⟩ := (show Wp m2 e1 R from k)
    exact ⟨o2, e2, by unfold mSeq; rw [h1]; exact h2, k⟩
  | rt d => exact ⟨.rt d, e1, by unfold mSeq; rw [h1]; rfl, k⟩
  | bk => exact ⟨.bk, e1, by unfold mSeq; rw [h1]; rfl, k⟩
  | ct => exact ⟨.ct, e1, by unfold mSeq; rw [h1]; rfl, k⟩
theorem wk_nx (h : Wp m2 e R) : seqK m2 R .nx e := h
theorem wk_rt (h : R (.rt d) e) : seqK m2 R (.rt d) e := h
theorem wk_bk (h : R .bk e) : seqK m2 R .bk e := h
theorem wk_ct (h : R .ct e) : seqK m2 R .ct e := h
theorem wp_ret (h : Wp a e fun x e1 => R (.rt x) e1) : Wp (mRet a) e R := by
  obtain ⟨x, e1, h1, k⟩ := h
  exact ⟨.rt x, e1, by unfold mRet; rw [h1]; rfl, k⟩
theorem wp_retN (h : R (.rt .non) e) : Wp mRetN e R := ⟨_, e, rfl, h⟩
theorem wp_next (h : R .nx e) : Wp mNext e R := ⟨_, e, rfl, h⟩
theorem wp_brk (h : R .bk e) : Wp mBrk e R := ⟨_, e, rfl, h⟩
theorem wp_cont (h : R .ct e) : Wp mCont e R := ⟨_, e, rfl, h⟩
theorem wp_drop (h : Wp a e fun _ e1 => R .nx e1) : Wp (mDrop a) e R := by
  obtain ⟨x, e1, h1, k⟩ := h
  exact ⟨.nx, e1, by unfold mDrop; rw [h1]; rfl, k⟩
theorem wp_set (h : Wp a e fun x e1 => freeB e1 j = true ∧ R .nx (e1.set j (.d x))) : Wp (mSet j a) e R := by
  obtain ⟨x, e1, h1, h2, k⟩ := h
  exact ⟨.nx, _, by unfold mSet; rw [h1]; exact if_pos h2, k⟩
theorem wp_own (h : Wp r e fun x e1 => freeB e1 j = true ∧ R .nx (e1.set j (.ol x))) : Wp (mOwn j r) e R := by
  obtain ⟨x, e1, h1, h2, k⟩ := h
  exact ⟨.nx, _, by unfold mOwn; rw [h1]; exact if_pos h2, k⟩
theorem wp_app {ys : List D} (h0 : e[i]? = some (.ol ys)) (h : Wp a e fun x e1 => ∃ xs, e1[i]? = some (.ol xs) ∧ xs.length < sizeLine ∧ R .nx (e1.set i (.ol (xs ++ [x])))) : Wp (mApp i a) e R := by
  obtain ⟨x, e1, h1, xs, h2, h3, k⟩ := h
  refine ⟨.nx, _, ?_, k⟩
  unfold mApp isOL
  rw [h0]
  show (a e).bind _ = _
  rw [h1]
  show (e1[i]?.bind olOf).bind _ = _
  rw [h2]
  exact if_pos h3
theorem wp_aug {o : D → D → Option D} {x0 : D} (h0 : e[j]? = some (.d x0)) (h : Wp a e fun y e1 => ∃ x z, e1[j]? = some (.d x) ∧ o x y = some z ∧ R .nx (e1.set j (.d z))) : Wp (mAug j o a) e R := by
  obtain ⟨y, e1, h1, x, z, h2, h3, k⟩ := h
  refine ⟨.nx, _, ?_, k⟩
  unfold mAug isD1
  rw [h0]
  show (a e).bind _ = _
  rw [h1]
  show (e1[j]?.bind dOf).bind _ = _
  rw [h2]
  show (o x y).bind _ = _
  rw [h3]
  rfl
theorem wp_dput {k : Key} (h : Wp a e fun x e1 => ∃ s kvs, e1[i]? = some s ∧ s.dict = some kvs ∧ kvs.length < sizeLine ∧ R .nx (e1.set i (s.dictTo (putD kvs k x)))) : Wp (mDPut i k a) e R := by
  obtain ⟨x, e1, h1, s, kvs, h2, h3, h4, kk⟩ := h
  refine ⟨.nx, _, ?_, kk⟩
  unfold mDPut
  rw [h1]
  show (e1[i]?).bind _ = _
  rw [h2]
  show (s.dict).bind _ = _
  rw [h3]
  exact if_pos h4
theorem wp_lput {k : Int} (h : Wp a e fun x e1 => ∃ s xs p, e1[i]? = some s ∧ s.list = some xs ∧ ixN xs.length k = some p ∧ R .nx (e1.set i (s.listTo (xs.set p x)))) : Wp (mLPut i k a) e R := by
  obtain ⟨x, e1, h1, s, xs, p, h2, h3, h4, kk⟩ := h
  refine ⟨.nx, _, ?_, kk⟩
  unfold mLPut
  rw [h1]
  show (e1[i]?).bind _ = _
  rw [h2]
  show (s.list).bind _ = _
  rw [h3]
  show (ixN xs.length k).bind _ = _
  rw [h4]
  rfl
/-! loops -/
/-- what a turn may end in -/
def turnK (N : Env → Prop) (R : Out → Env → Prop) : Out → Env → Prop
  | .nx, e => N e
  | .ct, e => N e
  | .bk, e => R .nx e
  | .rt d, e => R (.rt d) e
theorem wt_nx {N : Env → Prop} (h : N e) : turnK N R .nx e := h
theorem wt_ct {N : Env → Prop} (h : N e) : turnK N R .ct e := h
theorem wt_bk {N : Env → Prop} (h : R .nx e) : turnK N R .bk e := h
theorem wt_rt {N : Env → Prop} (h : R (.rt d) e) : turnK N R (.rt d) e := h
theorem for_inv (I : Nat → Env → Prop) : ∀ (ds : List D) (k : Nat) (e : Env), I k e →
    (∀ i d e, ds[i]? = some d → I (k + i) e → freeB e j = true ∧ Wp m1 (e.set j (.d d)) (turnK (I (k + i + 1)) R)) → (∀ e, I (k + ds.length) e → R .nx e) → Wp (forGo j m1 ds) e R
  | [], k, e, h, _, hd => ⟨.nx, e, rfl, hd e h⟩
  | d :: ds, k, e, h, hs, hd => by
    obtain ⟨hf, o, e1, h1, q⟩ := hs 0 d e rfl h
    have next : ∀ e', I (k + 1) e' → Wp (forGo j m1 ds) e' R := fun e' h' => for_inv I ds (k + 1) e' h' (fun i d e hd hi => by
        have := hs (i + 1) d e (by simpa using hd) (by rw [show k + (i + 1) = k + 1 + i by omega]; exact hi)
        rw [show k + (i + 1) = k + 1 + i by omega] at this
        exact this) fun e he => hd e (by rw [List.length_cons, show k + (ds.length + 1) = k + 1 + ds.length by omega]; exact he)
    have e0 : forGo j m1 (d :: ds) e = (m1 (e.set j (.d d))).bind fun p => match p.1 with
        | .nx => forGo j m1 ds p.2
        | .ct => forGo j m1 ds p.2
        | .bk => some (.nx, p.2)
        | .rt d => some (.rt d, p.2) := if_pos hf
    cases o with
    | nx =>
      obtain ⟨o2, e2, h2, k2⟩ := next e1 q
      exact ⟨o2, e2, by rw [e0, h1]; exact h2, k2⟩
    | ct =>
      obtain ⟨o2, e2, h2, k2⟩ := next e1 q
      exact ⟨o2, e2, by rw [e0, h1]; exact h2, k2⟩
    | bk => exact ⟨.nx, e1, by rw [e0, h1]; rfl, q⟩
    | rt d => exact ⟨.rt d, e1, by rw [e0, h1]; rfl, q⟩
theorem wp_for {it : M (List D)} (h : Wp it e fun ds e1 => Wp (forGo j m1 ds) e1 R) : Wp (mFor it j m1) e R := by
  obtain ⟨ds, e1, h1, o, e2, h2, k⟩ := h
  exact ⟨o, e2, by unfold mFor; rw [h1]; exact h2, k⟩
theorem for_nil (h : R .nx e) : Wp (forGo j m1 []) e R := ⟨.nx, e, rfl, h⟩
theorem for_cons1 {ds : List D} (hf : freeB e j = true) (h : Wp m1 (e.set j (.d d)) (turnK (fun e1 => Wp (forGo j m1 ds) e1 R) R)) : Wp (forGo j m1 (d :: ds)) e R := by
  obtain ⟨o, e1, h1, q⟩ := h
  have e0 : forGo j m1 (d :: ds) e = (m1 (e.set j (.d d))).bind fun p => match p.1 with
      | .nx => forGo j m1 ds p.2
      | .ct => forGo j m1 ds p.2
      | .bk => some (.nx, p.2)
      | .rt d => some (.rt d, p.2) := if_pos hf
  cases o with
  | nx =>
    obtain ⟨o2, e2, h2, k2⟩ := q
    exact ⟨o2, e2, by rw [e0, h1]; exact h2, k2⟩
  | ct =>
    obtain ⟨o2, e2, h2, k2⟩ := q
    exact ⟨o2, e2, by rw [e0, h1]; exact h2, k2⟩
  | bk => exact ⟨.nx, e1, by rw [e0, h1]; rfl, q⟩
  | rt d => exact ⟨.rt d, e1, by rw [e0, h1]; rfl, q⟩
theorem wh_inv (I : Nat → Env → Prop) : ∀ (n : Nat) (e : Env), I n e → (∀ m e, I m e → Wp t e fun b e1 => if b = true then ∃ m', m = m' + 1 ∧ Wp m1 e1 (turnK (fun e2 => ∃ l, l ≤ m' ∧ I l e2) R) else R .nx e1) → ∀ N, n < N → Wp (whGo t m1 N) e R
  | n, e, h, hs, 0, hN => by omega
  | n, e, h, hs, N + 1, hN => by
    obtain ⟨b, e1, h1, q⟩ := hs n e h
    have e0 : whGo t m1 (N + 1) e = (t e).bind fun p => if p.1 = true then (m1 p.2).bind fun q => match q.1 with
        | .nx => whGo t m1 N q.2
        | .ct => whGo t m1 N q.2
        | .bk => some (.nx, q.2)
        | .rt d => some (.rt d, q.2) else some (.nx, p.2) := rfl
    cases b with
    | false => exact ⟨.nx, e1, by rw [e0, h1]; rfl, q⟩
    | true =>
      obtain ⟨m', hm, o, e2, h2, q⟩ := q
      cases o with
      | nx =>
        obtain ⟨l, hl, q⟩ := q
        obtain ⟨o3, e4, h4, k⟩ := wh_inv I l e2 q hs N (by omega)
        exact ⟨o3, e4, by rw [e0, h1]; show (m1 e1).bind _ = _; rw [h2]; exact h4, k⟩
      | ct =>
        obtain ⟨l, hl, q⟩ := q
        obtain ⟨o3, e4, h4, k⟩ := wh_inv I l e2 q hs N (by omega)
        exact ⟨o3, e4, by rw [e0, h1]; show (m1 e1).bind _ = _; rw [h2]; exact h4, k⟩
      | bk => exact ⟨.nx, e2, by rw [e0, h1]; show (m1 e1).bind _ = _; rw [h2]; rfl, q⟩
      | rt d => exact ⟨.rt d, e2, by rw [e0, h1]; show (m1 e1).bind _ = _; rw [h2]; rfl, q⟩
/-! ### calls, defs -/
theorem wp_call {f : Fm} (h : Wp r e fun ds e1 => ds.length = n ∧ Wc f (ds.map .d) fun x _ => Q x e1) : Wp (mCall n f r) e Q := by
  obtain ⟨ds, e1, h1, h2, x, as', h3, k⟩ := h
  exact ⟨x, e1, by unfold mCall; rw [h1]; show (if ds.length = n then _ else none) = _; rw [if_pos h2]; show (f (ds.map .d)).bind _ = _; rw [h3]; rfl, k⟩
theorem wp_callK {m : Nat} {pm : List Nat} {f : Fm} (h : Wp r e fun ds e1 => (ds.length = m ∧ (permD pm ds).length = n) ∧ Wc f ((permD pm ds).map .d) fun x _ => Q x e1) : Wp (mCallK n m pm f r) e Q := by
  obtain ⟨ds, e1, h1, h2, x, as', h3, k⟩ := h
  exact ⟨x, e1, by unfold mCallK; rw [h1]; show (if ds.length = m ∧ (permD pm ds).length = n then _ else none) = _; rw [if_pos h2]; show (f ((permD pm ds).map .d)).bind _ = _; rw [h3]; rfl, k⟩
theorem wp_callP {f : Fm} {s0 : Sl} (h0 : e[i]? = some s0) (o0 : s0.owned = true) (h : Wp r e fun ds e1 => ∃ s, e1[i]? = some s ∧ s.owned = true ∧ ds.length + 1 = n ∧ Wc f (s.lend :: ds.map .d) fun x as' => ∃ s', as'[0]? = some s' ∧ Q x (e1.set i (s.back s'))) : Wp (mCallP n i f r) e Q := by
  obtain ⟨ds, e1, h1, s, h2, h3, h4, x, as', h5, s', h6, k⟩ := h
  refine ⟨x, _, ?_, k⟩
  unfold mCallP isOwn
  rw [h0]
  show (if s0.owned = true then some s0 else none).bind _ = _
  rw [if_pos o0]
  show (r e).bind _ = _
  rw [h1]
  show ((e1[i]?).bind _).bind _ = _
  rw [h2]
  show (if s.owned = true then some s else none).bind _ = _
  rw [if_pos h3]
  show (if ds.length + 1 = n then _ else none) = _
  rw [if_pos h4]
  show (f _).bind _ = _
  rw [h5]
  show (as'[0]?).bind _ = _
  rw [h6]
  rfl
theorem wp_lnil {Q : List Am → Env → Prop} (k : Q [] e) : Wp mLNil e Q := ⟨[], e, rfl, k⟩
theorem wp_ldat {Q : List Am → Env → Prop} {r : M (List Am)} (h : Wp a e fun x e1 => Wp r e1 fun xs e2 => Q (.dat x :: xs) e2) : Wp (mLDat a r) e Q := by
  obtain ⟨x, e1, h1, y, e2, h2, k⟩ := h
  exact ⟨_, e2, by unfold mLDat; rw [h1]; show (r e1).bind _ = _; rw [h2]; rfl, k⟩
theorem wp_lown {Q : List Am → Env → Prop} {r : M (List Am)} {s0 : Sl} (h0 : e[i]? = some s0) (o0 : s0.owned = true) (h : Wp r e fun xs e2 => Q (.own i :: xs) e2) : Wp (mLOwn i r) e Q := by
  obtain ⟨y, e2, h2, k⟩ := h
  refine ⟨_, e2, ?_, k⟩
  unfold mLOwn isOwn
  rw [h0]
  show (if s0.owned = true then some s0 else none).bind _ = _
  rw [if_pos o0]
  show (r e).bind _ = _
  rw [h2]
  rfl
theorem wp_callL {f : Fm} {r : M (List Am)} (h : Wp r e fun ms e1 => (ms.length = n ∧ distinctB (ownsOf ms) = true) ∧ ∃ as, slots e1 ms = some as ∧ Wc f as fun x as' => Q x (backs ms as' e1)) : Wp (mCallL n f r) e Q := by
  obtain ⟨ms, e1, h1, h2, as, h3, x, as', h4, k⟩ := h
  refine ⟨x, _, ?_, k⟩
  unfold mCallL
  rw [h1]
  show (if ms.length = n ∧ distinctB (ownsOf ms) = true then _ else none) = _
  rw [if_pos h2]
  show (slots e1 ms).bind _ = _
  rw [h3]
  show (f as).bind _ = _
  rw [h4]
  rfl
theorem wp_flast {Q : List Am × List D → Env → Prop} (h : Wp r e fun xs e1 => Q ([], xs) e1) : Wp (mFLast r) e Q := by
  obtain ⟨x, e1, h1, k⟩ := h
  exact ⟨_, e1, by unfold mFLast; rw [h1]; rfl, k⟩
theorem wp_fdat {Q : List Am × List D → Env → Prop} {r : M (List Am × List D)} (h : Wp a e fun x e1 => Wp r e1 fun p e2 => Q (.dat x :: p.1, p.2) e2) : Wp (mFDat a r) e Q := by
  obtain ⟨x, e1, h1, y, e2, h2, k⟩ := h
  exact ⟨_, e2, by unfold mFDat; rw [h1]; show (r e1).bind _ = _; rw [h2]; rfl, k⟩
theorem wp_fown {Q : List Am × List D → Env → Prop} {r : M (List Am × List D)} {s0 : Sl} (h0 : e[i]? = some s0) (o0 : s0.owned = true) (h : Wp r e fun p e2 => Q (.own i :: p.1, p.2) e2) : Wp (mFOwn i r) e Q := by
  obtain ⟨y, e2, h2, k⟩ := h
  refine ⟨_, e2, ?_, k⟩
  unfold mFOwn isOwn
  rw [h0]
  show (if s0.owned = true then some s0 else none).bind _ = _
  rw [if_pos o0]
  show (r e).bind _ = _
  rw [h2]
  rfl
theorem wp_callF {f : Fm} {r : M (List Am × List D)} (h : Wp r e fun p e1 => (p.1.length + 1 = n ∧ distinctB (ownsOf p.1) = true) ∧ ∃ as, slots e1 p.1 = some as ∧ Wc f (as ++ [.pl p.2]) fun x as' => Q x (backs p.1 as' e1)) : Wp (mCallF n f r) e Q := by
  obtain ⟨p, e1, h1, h2, as, h3, x, as', h4, k⟩ := h
  refine ⟨x, _, ?_, k⟩
  unfold mCallF
  rw [h1]
  show (if p.1.length + 1 = n ∧ distinctB (ownsOf p.1) = true then _ else none) = _
  rw [if_pos h2]
  show (slots e1 p.1).bind _ = _
  rw [h3]
  show (f (as ++ [.pl p.2])).bind _ = _
  rw [h4]
  rfl
/-- how a def's body ends -/
def defK (as : List Sl) (R : D → List Sl → Prop) : Out → Env → Prop
  | .rt d, e => R d (mergeS as e)
  | .nx, e => R .non (mergeS as e)
  | _, _ => False
theorem wd_rt {as : List Sl} {R : D → List Sl → Prop} (h : R d (mergeS as e)) : defK as R (.rt d) e := h
theorem wd_nx {as : List Sl} {R : D → List Sl → Prop} (h : R .non (mergeS as e)) : defK as R .nx e := h
theorem wc_def {N : Nat} {as : List Sl} {R : D → List Sl → Prop} (hl : as.length = n) (he : as ++ List.replicate (N - n) .no = e) (h : Wp m1 e (defK as R)) : Wc (defM n N m1) as R := by
  obtain ⟨o, e1, h1, k⟩ := h
  subst he
  have e0 : defM n N m1 as = (m1 (as ++ List.replicate (N - n) .no)).bind fun p => match p.1 with
    | .rt d => some (d, mergeS as p.2)
    | .nx => some (.non, mergeS as p.2)
    | _ => none := if_pos hl
  cases o with
  | rt d => exact ⟨d, _, by rw [e0, h1]; rfl, k⟩
  | nx => exact ⟨.non, _, by rw [e0, h1]; rfl, k⟩
  | bk => exact k.elim
  | ct => exact k.elim
end

/-! small steps -/
theorem ite_t {A B : Prop} (h : A) : if true = true then A else B := by rw [if_pos rfl]; exact h
theorem ite_f {A B : Prop} (h : B) : if false = true then A else B := by rw [if_neg Bool.false_ne_true]; exact h
theorem ite_nt {A B : Prop} (h : B) : if (!true) = true then A else B := h
theorem ite_nf {A B : Prop} (h : A) : if (!false) = true then A else B := h
theorem ite_dec {A B p : Prop} [Decidable p] (h : p → A) (k : ¬ p → B) : if decide p = true then A else B := by
  by_cases z : p
  · rw [if_pos (decide_eq_true z)]; exact h z
  · rw [if_neg (by rw [decide_eq_false z]; exact Bool.false_ne_true)]; exact k z
theorem ite_y {A B p : Prop} [Decidable p] (z : p) (h : A) : if decide p = true then A else B := ite_dec (fun _ => h) fun k => absurd z k
theorem ite_n {A B p : Prop} [Decidable p] (z : ¬ p) (h : B) : if decide p = true then A else B := ite_dec (fun k => absurd k z) fun _ => h
theorem ite_ny {A B p : Prop} [Decidable p] (z : p) (h : B) : if (!decide p) = true then A else B := by
  rw [if_neg (by rw [decide_eq_true z]; exact Bool.false_ne_true)]; exact h
theorem ite_nn {A B p : Prop} [Decidable p] (z : ¬ p) (h : A) : if (!decide p) = true then A else B := by
  rw [if_pos (by rw [decide_eq_false z]; rfl)]; exact h
theorem ite_b {A B : Prop} {b : Bool} (h : b = true → A) (k : b = false → B) : if b = true then A else B := by
  cases b with
  | true => exact h rfl
  | false => exact k rfl
theorem ite_nb {A B : Prop} {b : Bool} (h : b = false → A) (k : b = true → B) : if (!b) = true then A else B := by
  cases b with
  | true => exact k rfl
  | false => exact h rfl
theorem ite_bt {A B : Prop} {b : Bool} (z : b = true) (h : A) : if b = true then A else B := by rw [if_pos z]; exact h
theorem ite_bf {A B : Prop} {b : Bool} (z : b = false) (h : B) : if b = true then A else B := by rw [if_neg (by rw [z]; exact Bool.false_ne_true)]; exact h
theorem wc_app {c : Fm} {as : List Sl} {R R' : D → List Sl → Prop} (h : Wc c as R) (k : ∀ x e', R x e' → R' x e') : Wc c as R' := h.mono k
def Plain (x : Sl) : Prop := x = .no ∨ ∃ y, x = .d y
theorem Plain.no : Plain .no := .inl rfl
theorem Plain.d (y : D) : Plain (.d y) := .inr ⟨y, rfl⟩
theorem free_and {e : Env} {j : Nat} {P : Prop} (h : freeB e j = true) (k : P) : freeB e j = true ∧ P := ⟨h, k⟩
theorem kind_and {d : D} {P : Prop} (h : kindOk d = true) (k : P) : kindOk d = true ∧ P := ⟨h, k⟩
theorem size_and {xs : List D} {P : Prop} (h : xs.length ≤ sizeLine) (k : P) : xs.length ≤ sizeLine ∧ P := ⟨h, k⟩
theorem wc_eq {c : Fm} {as r : List Sl} {d : D} {R : D → List Sl → Prop} (h : c as = some (d, r)) (k : R d r) : Wc c as R := ⟨d, r, h, k⟩
theorem eq_of_wc {c : Fm} {as r : List Sl} {d : D} (h : Wc c as fun x as' => x = d ∧ as' = r) : c as = some (d, r) := by
  obtain ⟨x, as', a, rfl, rfl⟩ := h
  exact a
theorem call_and {n : Nat} {c : Fm} {ds : List D} {R : D → List Sl → Prop} {d : D} {r : List Sl} (hl : ds.length = n) (h : c (ds.map .d) = some (d, r)) (k : R d r) : ds.length = n ∧ Wc c (ds.map .d) R := ⟨hl, d, r, h, k⟩
theorem callk_and {n m : Nat} {pm : List Nat} {c : Fm} {ds : List D} {R : D → List Sl → Prop} {d : D} {r : List Sl} (hl : ds.length = m ∧ (permD pm ds).length = n) (h : c ((permD pm ds).map .d) = some (d, r)) (k : R d r) : (ds.length = m ∧ (permD pm ds).length = n) ∧ Wc c ((permD pm ds).map .d) R := ⟨hl, d, r, h, k⟩
theorem ite_nbt {A B : Prop} {b : Bool} (z : b = true) (h : B) : if (!b) = true then A else B := by rw [if_neg (by rw [z]; exact Bool.false_ne_true)]; exact h
theorem ite_nbf {A B : Prop} {b : Bool} (z : b = false) (h : A) : if (!b) = true then A else B := by rw [if_pos (by rw [z]; rfl)]; exact h
end Nv

set_option Elab.async false
set_option linter.all false
set_option maxRecDepth 100000
set_option maxHeartbeats 4000000
/-! NvI: list(x) of a text. -/
namespace Nv
open PySem L2 PyProof.Rows PySem.Spec
def sgnV (z : Str) : List V := z.cps.toList.map fun c => .str ⟨#[c]⟩
theorem sgn_vals : ∀ (l : List Nat) (vs : List Value), vs.length = l.length → (∀ (j : Nat) (v : Value), vs[j]? = some v → ∃ c u, l[j]? = some c ∧ v = Value.str { cps := #[c] } u) → Vals (l.map fun c => V.str ⟨#[c]⟩) vs
  | [], [], _, _ => .nil
  | [], v :: vs, h, _ => by cases h
  | c :: l, [], h, _ => by cases h
  | c :: l, v :: vs, h, k => by
    obtain ⟨c', u, e1, e2⟩ := k 0 v rfl
    cases e1
    subst e2
    refine .cons ?_ (sgn_vals l vs (by simpa using h) fun j w hw => k (j + 1) w hw)
    exact ⟨u, rfl⟩
theorem cl_list_str {X : Cx} (hc : X.calm = true) : CallR X (.type "list") fun xs H Q => ∃ z, xs = [.str z] ∧ z.length ≤ sizeLine ∧ ∀ l, H l = none → Q (.ref l) (upd H l (.lst (sgnV z))) := by
  intro pins s σ H xs us Q I r h
  obtain ⟨z, rfl, hz, q⟩ := h
  obtain ⟨u, rfl, rx⟩ := vals1 r
  obtain ⟨t, rfl⟩ := rx
  refine call_list_str (I.ok.hd hc) z t (fun h' tk acc c kp e it => ?_) hz
  have r' : Vals (sgnV z) acc.toList := sgn_vals _ _ (by rw [Array.length_toList, it.1, Array.length_toList]) fun j v hv => by
    rw [Array.getElem?_toList] at hv
    obtain ⟨c, u, e1, e2⟩ := it.2 j v hv
    exact ⟨c, u, by rw [Array.getElem?_toList]; exact e1, e2⟩
  refine ⟨.ref _, upd H s.heap.objs.size (.lst (sgnV z)), I.laid kp (Nat.le_refl _) ?_, rfl, q _ (I.hok.fresh (Nat.le_refl _))⟩
  refine ⟨by unfold sgnV; rw [List.length_map]; exact hz, acc.toList, c, r', ?_⟩
  simpa using e
def rListS (K : PySem.W.Frag) : List V → Hp → VK → Prop := fun xs H Q => (∃ p ys, xs = [.ref p] ∧ (SqL K H p ys ∨ SqT K H p ys) ∧ ∀ l, H l = none → Q (.ref l) (upd H l (.lst ys))) ∨ ∃ z, xs = [.str z] ∧ z.length ≤ sizeLine ∧ ∀ l, H l = none → Q (.ref l) (upd H l (.lst (sgnV z)))
theorem ka_listS {X : Cx} {K : PySem.W.Frag} (hc : X.calm = true) (h : X.K = K) : CallR X (.type "list") (rListS K) := h ▸ callr_or call_list_of (cl_list_str hc)
def seqOfS : List D → Option (List D)
  | [.str z] => if z.length ≤ sizeLine then some (signs z) else none
  | ds => seqOf ds
def mListS (r : M (List D)) : M (List D) := fun e => (r e).bind fun p => (seqOfS p.1).bind fun xs => some (xs, p.2)
section
variable {W : Wd} {tr : TA} {mr : M (List D)}
theorem rp_signs {G : Hp} (z : Str) : RpAll W G (sgnV z) (signs z) := by
  unfold sgnV signs
  induction z.cps.toList with
  | nil => exact .nil
  | cons c l ih => exact .cons (.str _) ih
theorem sf_listS (h : SimA W tr mr) : SimF W (tCB (rListS W.K) tr) (mListS mr) := fun env R d e1 hm hr => by
  obtain ⟨x, e2, h1, hm⟩ := bind_of hm
  obtain ⟨z, h3, hm⟩ := bind_of' hm
  cases hm
  intro G H σ S Q q
  by_cases hs : ∃ t, x = [.str t]
  · obtain ⟨t, rfl⟩ := hs
    have h3 : (if t.length ≤ sizeLine then some (signs t) else none) = some d := h3
    split at h3
    · rename_i hz
      cases h3
      refine h _ (fun x' e' => x' = [.str t] ∧ e' = e2) _ _ h1 ⟨rfl, rfl⟩ G H σ S _ fun vs ds G1 H1 e1' S1 T1 r ⟨z1, z2⟩ => ?_
      subst z1 z2
      obtain ⟨v, rfl, r0⟩ := rp1 r
      rw [r0.str_inv]
      refine .inr ⟨t, rfl, hz, fun p hp => ?_⟩
      have no : ¬ own σ e1' p := fun z => by
        obtain ⟨_, o, ho⟩ := S1.own_at z
        rw [hp] at ho
        cases ho
      have h0 : H p = none := kp_none T1 hp
      exact q p _ _ G1 _ e1' (S1.mut (S1.gh.free hp) no) (T1.late h0) h0 upd_same (S1.gh.free hp) no (rp_signs t) hr
    · cases h3
  · have h4 : seqOf x = some d := by
      unfold seqOfS at h3
      split at h3
      · rename_i t ht
        exact absurd ⟨_, ht⟩ hs
      · exact h3
    refine h _ (fun x' e' => x' = x ∧ e' = e2) _ _ h1 ⟨rfl, rfl⟩ G H σ S _ fun vs ds G1 H1 e1' S1 T1 r ⟨z1, z2⟩ => ?_
    subst z1 z2
    have go : ∀ {a : Addr} {ys : List V}, (SqL W.K H1 a ys ∨ SqT W.K H1 a ys) → RpAll W G1 ys d → vs = [.ref a] → rListS W.K vs H1 _ := fun {a ys} hs' ra ev => by
      refine .inl ⟨a, ys, ev, hs', fun p hp => ?_⟩
      have no : ¬ own σ e1' p := fun z => by
        obtain ⟨_, o, ho⟩ := S1.own_at z
        rw [hp] at ho
        cases ho
      exact q p ys d G1 _ e1' (S1.mut (S1.gh.free hp) no) (T1.late (kp_none T1 hp)) (kp_none T1 hp) upd_same (S1.gh.free hp) no ra hr
    rcases seqOf_of h4 with hx | hx
    · subst hx
      obtain ⟨v, rfl, r0⟩ := rp1 r
      obtain ⟨a, ys, rfl, hs', ra⟩ := r0.lst_inv
      exact go (.inl (.inl (.inl (S1.gh _ _ hs')))) ra rfl
    · subst hx
      obtain ⟨v, rfl, r0⟩ := rp1 r
      obtain ⟨a, ys, rfl, hs', ra⟩ := r0.tup_inv
      exact go (.inr (Same.tup S1.gh hs')) ra rfl
theorem wp_listS {e : Env} {r : M (List D)} {Q : List D → Env → Prop} (h : Wp r e fun xs e1 => ∃ ys, seqOfS xs = some ys ∧ Q ys e1) : Wp (mListS r) e Q := by
  obtain ⟨x, e1, h1, ys, h2, k⟩ := h
  exact ⟨ys, e1, by unfold mListS; rw [h1]; show (seqOfS x).bind _ = _; rw [h2]; rfl, k⟩
end
end Nv

set_option Elab.async false
set_option linter.all false
set_option maxRecDepth 100000
set_option maxHeartbeats 4000000
/-! NvJ: lists of one's own that are popped and extended; dicts of one's own. -/
namespace Nv
open PySem L2 PyProof.Rows PySem.Spec
/-! xs.extend(t), t a tuple -/
theorem meets_extT (l : Addr) (items : Array Value) (n : Nat) (b : Addr) (items2 : Array Value) (hs0 : ¬ (!items.isEmpty && Builtin.List.listTooLong (items.size + items2.size)) = true) (h1 : items.size ≤ sizeLine) (h2 : items.size + items2.size ≤ sizeLine) :
    Meets (Builtin.«list.extend» { pos := [Value.ref l, Value.ref b] }) fun x R s => s.heap.get? l = some { cls := Value.type "list", data := Data.seq items n } ∧ IsTup s.heap b items2 ∧
      R (Except.ok (Flow.ret Value.none)) { heap := s.heap.update l (Obj.mapSeq fun x => x ++ items2), gens := s.gens, drawn := s.drawn, toks := s.toks, os := s.os } :=
  Meets.of_wp fun prog w A R s ⟨hl, hb, h⟩ => by
    have ht : s.TypeIs (.ref b) "tuple" := hb.typeIs
    obtain ⟨o, ho, hc, n2, hd⟩ := hb
    show wpAny (model prog w) A.in1 (selfAndOne "list.extend" { pos := [Value.ref l, Value.ref b] } >>= fun y => Builtin.List.listExtendWith y.1 y.2 Value.none) _ _ s
    refine wpAny_bind (wpAny_bind (wpAny_ite_true rfl (wpAny_pure (wpAny_pure ?_))))
    unfold Builtin.List.listExtendWith
    refine wpAny_bind (wpAny_typeOf ht (wpAny_ite_true (by rw [show (Value.type "tuple" == Value.type "tuple") = true from BEq.rfl, Bool.or_true]; exact decide_eq_true rfl) ?_))
    refine wpAny_bind (wpAny_listItems ho hd ?_)
    refine wpAny_bind (wpAny_listItems hl rfl ?_)
    rw [if_neg hs0]
    refine wpAny_bind (listUpdate_at hl rfl ?_ h1 (by rw [Array.size_append]; omega))
    exact wpAny_pure ⟨_, rfl, h⟩
def rExtendT (K : PySem.W.Frag) : V → List V → Hp → VK → Prop := fun x vs H Q => ∃ l b xs zs, x = .ref l ∧ vs = [.ref b] ∧ H l = some (.lst xs) ∧ SqT K H b zs ∧ xs.length + zs.length ≤ sizeLine ∧ Q .non (upd H l (.lst (xs ++ zs)))
theorem mt_extendT {X : Cx} : MtM X "list.extend" (rExtendT X.K) := by
  intro pins s σ H x vs v us Q I rx rv h
  obtain ⟨l, b, xs, zs, rfl, rfl, hH, hB, hz, q⟩ := h
  cases rx
  obtain ⟨u, rfl, ru⟩ := Vals.one rv
  cases ru
  obtain ⟨z, its, n, r, hl, e⟩ := I.lstM hH
  obtain ⟨its2, r2, ht, hz2⟩ := I.tuple hB
  have l1 := r.length
  have l2 := r2.length
  have hsz : its.toArray.size + its2.toArray.size ≤ sizeLine := by rw [List.size_toArray, List.size_toArray]; omega
  have hlong : ¬ (!its.toArray.isEmpty && Builtin.List.listTooLong (its.toArray.size + its2.toArray.size)) = true := by
    rw [notLongL hsz, Bool.and_false]
    exact Bool.false_ne_true
  refine call_meets PySem.F.slot_list_extend ⟨{ cls := Value.type "list", data := Data.seq its.toArray n }, e, rfl⟩ PySem.F.entry_list_extend (PySem.F.args_list_extend_2 (Value.ref l) (Value.ref b)) (meets_extT l its.toArray n b its2.toArray hlong (by omega) hsz) ⟨e, ht, V.non, upd H l (HO.lst (xs ++ zs)), I.lset hH e ?_ (r.append r2) (by rw [List.length_append]; omega), rfl, q⟩
  rw [List.append_toArray]
theorem mtm_or {X : Cx} {id : String} {r1 r2 : V → List V → Hp → VK → Prop} (h1 : MtM X id r1) (h2 : MtM X id r2) : MtM X id (fun x vs H Q => r1 x vs H Q ∨ r2 x vs H Q) := by
  intro pins s σ H x vs v us Q I rx rv h
  exact h.elim (h1 pins s σ H x vs v us Q I rx rv) (h2 pins s σ H x vs v us Q I rx rv)
def rExtS (K : PySem.W.Frag) : V → List V → Hp → VK → Prop := fun x vs H Q => rExtend x vs H Q ∨ rExtendT K x vs H Q
theorem mt_extS {X : Cx} {K : PySem.W.Frag} (h : X.K = K) : MtM X "list.extend" (rExtS K) := h ▸ mtm_or mt_extend mt_extendT
section
variable {W : Wd} {te ta : TE} {me ma : M D}
theorem Sl.listTo_list {s : Sl} {xs ys : List D} (h : s.list = some xs) : (s.listTo ys).list = some ys := by
  cases s <;> first | (cases h; done) | rfl
theorem okS_listTo {G H : Hp} {s : Sl} {xs ys : List D} {l : Addr} {vs : List V} (h : s.list = some xs) (g : G l = none) (ra : RpAll W G vs ys) : OkS W G (upd H l (.lst vs)) (some (some (.ref l))) (s.listTo ys) := by
  cases s <;> first | (cases h; done) | skip
  all_goals exact ⟨l, vs, rfl, g, upd_same, ra⟩
theorem pin_listTo {s : Sl} {xs ys : List D} (h : s.list = some xs) : s.pinned = true → (s.listTo ys).pinned = true := by
  cases s <;> first | (cases h; done) | skip
  all_goals (intro y; first | rfl | cases y)
/-- xs.pop() -/
def mPop (i : Nat) : M D := fun e => (e[i]?).bind fun s => s.list.bind fun xs => (xs[xs.length - 1]?).bind fun d => some (d, e.set i (s.listTo xs.dropLast))
theorem RpAll.at {G : Hp} {vs : List V} {ds : List D} {i : Nat} {d : D} (r : RpAll W G vs ds) (h : ds[i]? = some d) : ∃ v, vs[i]? = some v ∧ Rp W G v d := r.get h
theorem RpAll.init {G : Hp} : ∀ {vs : List V} {ds : List D}, RpAll W G vs ds → RpAll W G vs.dropLast ds.dropLast
  | [], [], _ => .nil
  | [v], [d], _ => .nil
  | v :: w :: vs, d :: f :: ds, .cons a (.cons b r) => by
    rw [List.dropLast_cons₂, List.dropLast_cons₂]
    exact .cons a (RpAll.init (.cons b r))
theorem se_pop {i : Nat} : SimE W (tBM0 W.K "list" rPop (tVar i)) (mPop i) := fun env R d e1 hm hr => by
  obtain ⟨s, h1, hm⟩ := bind_of' hm
  obtain ⟨xs, h2, hm⟩ := bind_of' hm
  obtain ⟨y, h3, hm⟩ := bind_of' hm
  cases hm
  intro G H σ S Q q
  obtain ⟨p, vs, ev, g, hh, ra⟩ := (S.ok i _ h1).list h2
  have os := list_owned h2
  obtain ⟨w, w1, w2⟩ := RpAll.at ra h3
  rw [← ra.length] at w1
  refine ⟨.ref p, ev, .inl ⟨rfl, vs, .inl (.inl hh)⟩, p, vs, w, rfl, rfl, hh, w1, ?_⟩
  exact q w _ G _ _ (S.chg (o := .lst vs.dropLast) h1 os ev (okS_listTo h2 g ra.init)) (Tr.chg S h1 os ev (pin_listTo h2)) w2 hr
/-- xs.extend(t) -/
def mExt (i : Nat) (a : M D) : MS := fun e => (isL i e).bind fun _ => (a e).bind fun p => (seqOf [p.1]).bind fun ys => (p.2[i]?).bind fun s => s.list.bind fun xs => if xs.length + ys.length ≤ sizeLine then some (.nx, p.2.set i (s.listTo (xs ++ ys))) else none
theorem ss_ext {i : Nat} (ha : SimE W te me) : SimS W (tDrop (tBM W.K "list" (rExtS W.K) (tVar i) (tCons te tNil))) (mExt i me) := fun env P o e1 hm hr => by
  obtain ⟨k0, h0, hm⟩ := bind_of' hm
  obtain ⟨x, e2, h1, hm⟩ := bind_of hm
  obtain ⟨ys, h2, hm⟩ := bind_of' hm
  obtain ⟨s, h3, hm⟩ := bind_of' hm
  obtain ⟨xs, h4, hm⟩ := bind_of' hm
  split at hm
  · rename_i hz
    cases hm
    obtain ⟨s0, a1, a2⟩ := isL_of h0
    intro G H σ E S n r b c
    obtain ⟨p, us, ev, g0, hh0, _⟩ := (S.ok i _ a1).list a2
    refine ⟨.ref p, ev, .inl ⟨rfl, us, .inl (.inl hh0)⟩, ha _ (fun y e => y = x ∧ e = e2) _ _ h1 ⟨rfl, rfl⟩ G H σ S _ fun v d G1 H1 e3 S1 T1 rv ⟨z1, z2⟩ => ?_⟩
    subst z1 z2
    obtain ⟨p', vs, ev', g1, hh, ra⟩ := (S1.ok i _ h3).list h4
    rw [ev] at ev'
    cases ev'
    have os := list_owned h4
    have fin : ∀ {ws : List V}, RpAll W G1 ws ys → _ := fun {ws} rb => n G1 _ σ _ (S1.chg (o := .lst (vs ++ ws)) h3 os ev (okS_listTo h4 g1 (ra.append rb))) (T1.trans S (Tr.chg S1 h3 os ev (pin_listTo h4))) hr
    rcases seqOf_of h2 with hx | hx
    · cases hx
      obtain ⟨a, ws, rfl, hs, rb⟩ := rv.lst_inv
      exact .inl ⟨p, a, vs, ws, rfl, rfl, hh, S1.gh _ _ hs, by rw [ra.length, rb.length]; exact hz, fin rb⟩
    · cases hx
      obtain ⟨a, ws, rfl, hs, rb⟩ := rv.tup_inv
      exact .inr ⟨p, a, vs, ws, rfl, rfl, hh, Same.tup S1.gh hs, by rw [ra.length, rb.length]; exact hz, fin rb⟩
  · cases hm
/-- xs[lo:hi], a new list -/
def mLSl (i : Nat) (lo hi : M (Option Int)) : M D := fun e => (isL i e).bind fun _ => (lo e).bind fun p => (hi p.2).bind fun q => (isL i q.2).bind fun xs => some (.lst (cut xs p.1 q.1), q.2)
theorem se_lsl {i : Nat} {tl th : TO} {ml mh : M (Option Int)} (hl : SimO W tl ml) (hh : SimO W th mh) : SimE W (tSl (rSlU W.K) (tVar i) tl th) (mLSl i ml mh) := fun env R d e1 hm hr => by
  obtain ⟨k0, h0, hm⟩ := bind_of' hm
  obtain ⟨lo, e2, h1, hm⟩ := bind_of hm
  obtain ⟨hi, e3, h2, hm⟩ := bind_of hm
  obtain ⟨xs, h3, hm⟩ := bind_of' hm
  cases hm
  obtain ⟨s0, a1, a2⟩ := isL_of h0
  obtain ⟨s, b1, b2⟩ := isL_of h3
  intro G H σ S Q q
  obtain ⟨p, _, ev, _⟩ := (S.ok i _ a1).list a2
  refine ⟨.ref p, ev, hl _ (fun x e => x = lo ∧ e = e2) _ _ h1 ⟨rfl, rfl⟩ G H σ S _ fun l1 G1 H1 e3' S1 T1 ⟨z1, z2⟩ => ?_⟩
  subst z1 z2
  refine hh _ (fun x e => x = hi ∧ e = e3) _ _ h2 ⟨rfl, rfl⟩ G1 H1 σ S1 _ fun l2 G2 H2 e4 S2 T2 ⟨z3, z4⟩ => ?_
  subst z3 z4
  obtain ⟨p', vs, ev', g1, hv, ra⟩ := (S2.ok i _ b1).list b2
  rw [ev] at ev'
  cases ev'
  refine .inl ⟨p, vs, rfl, .inl (.inl hv), fun r hp => ?_⟩
  obtain ⟨g, rr⟩ := Gr.newL (W := W) S2.gh hp (ra.cut l1 l2)
  exact q _ _ _ _ _ (S2.up g) ((T1.trans S T2).trans S (Tr.up S2 g)) rr hr
end
end Nv

set_option Elab.async false
set_option linter.all false
set_option maxRecDepth 100000
set_option maxHeartbeats 4000000
/-! NvJ2: dicts by keys that are computed. -/
namespace Nv
open PySem L2 PyProof.Rows PySem.Spec
section
variable {W : Wd} {ta tb tc te ty tx : TE} {ma mb mc me mk mv : M D}
/-- d[k] = v, d one's own -/
def mDPutK (i : Nat) (b a : M D) : MS := fun e => (a e).bind fun p => (isOD i p.2).bind fun _ => (b p.2).bind fun q => (keyD q.1).bind fun k => (q.2[i]?).bind fun s => s.dict.bind fun kvs => if kvs.length < sizeLine then some (.nx, q.2.set i (s.dictTo (putD kvs k p.1))) else none
theorem ss_dputk {i : Nat} (hy : SimE W ty mk) (ha : SimE W te me) : SimS W (sDPut (tVar i) ty te) (mDPutK i mk me) := fun env P o e1 hm hr => by
  obtain ⟨x, e2, h1, hm⟩ := bind_of hm
  obtain ⟨k0, h2, hm⟩ := bind_of' hm
  obtain ⟨y, e3, h3, hm⟩ := bind_of hm
  obtain ⟨k, h4, hm⟩ := bind_of' hm
  obtain ⟨s, h5, hm⟩ := bind_of' hm
  obtain ⟨kvs, h6, hm⟩ := bind_of' hm
  split at hm
  · rename_i hl
    cases hm
    obtain ⟨s0, a1, a2⟩ := isOD_of h2
    intro G H σ E S n r b c
    refine ha _ (fun y e => y = x ∧ e = e2) _ _ h1 ⟨rfl, rfl⟩ G H σ S _ fun v d G1 H1 e1' S1 T1 rv ⟨z1, z2⟩ => ?_
    subst z1 z2
    obtain ⟨p, _, ev, _⟩ := (S1.ok i _ a1).dict a2
    refine ⟨.ref p, ev, hy _ (fun z e => z = y ∧ e = e3) _ _ h3 ⟨rfl, rfl⟩ G1 H1 σ S1 _ fun u du G2 H2 e4 S2 T2 ru ⟨z3, z4⟩ => ?_⟩
    subst z3 z4
    obtain ⟨p', vs, ev', g2, hh, ke, ra⟩ := (S2.ok i _ h5).dict h6
    rw [ev] at ev'
    cases ev'
    have lv : vs.length = kvs.length := by
      have := congrArg List.length ke
      simpa using this
    obtain ⟨z1, z2⟩ := put_of (k := k) (rv.up T2.gg) ke ra
    have os := dict_owned h6
    refine ⟨p, upd H2 p (.dK (putK vs k v)), rfl, .inl ⟨vs, k, hh, key_of ru h4, by rw [lv]; exact hl, rfl⟩, n G2 _ σ _ (S2.chg (o := .dK (putK vs k v)) h5 os ev ?_) ((T1.trans S T2).trans S (Tr.chg S2 h5 os ev ?_)) hr⟩
    · cases s <;> first | (cases h6; done) | skip
      all_goals
        cases h6
        exact ⟨p, _, rfl, g2, upd_same, z1, z2⟩
    · cases s <;> first | (cases h6; done) | skip
      all_goals
        intro y
        first | rfl | cases y
  · cases hm
/-! data -/
def isDct : D → Option (List (Key × D))
  | .dct kvs => some kvs
  | _ => none
theorem isDct_of {d : D} {kvs : List (Key × D)} (h : isDct d = some kvs) : d = .dct kvs := by
  cases d <;> first | (cases h; done) | skip
  cases h
  rfl
theorem val_no {k : Key} : ∀ {vs : List (Key × V)} {ds : List (Key × D)}, vs.map (·.1) = ds.map (·.1) → valD ds k = none → valV vs k = none
  | [], [], _, _ => rfl
  | [], _ :: _, e, _ => by cases e
  | _ :: _, [], e, _ => by cases e
  | (k1, v1) :: vs, (k2, d2) :: ds, e, h => by
    simp only [List.map_cons, List.cons.injEq] at e
    obtain ⟨rfl, e⟩ := e
    by_cases z : k1 = k
    · exfalso
      unfold valD at h
      rw [List.find?_cons_of_pos (by simpa using z)] at h
      cases h
    · have h' : valD ds k = none := by
        unfold valD at h ⊢
        rw [List.find?_cons_of_neg (by simpa using z)] at h
        exact h
      have := val_no (k := k) e h'
      unfold valV at this ⊢
      rw [List.find?_cons_of_neg (by simpa using z)]
      exact this
theorem valO {G : Hp} {k : Key} {vs : List (Key × V)} {ds : List (Key × D)} (e : vs.map (·.1) = ds.map (·.1)) (r : RpAll W G (vs.map (·.2)) (ds.map (·.2))) : (∃ d v, valD ds k = some d ∧ valV vs k = some v ∧ Rp W G v d) ∨ (valD ds k = none ∧ valV vs k = none) := by
  cases h : valD ds k with
  | none => exact .inr ⟨rfl, val_no e h⟩
  | some d =>
    obtain ⟨v, a, b⟩ := val_of e r h
    exact .inl ⟨d, v, rfl, a, b⟩
theorem Rd.same {G H : Hp} {a : Addr} {o : HO} (g : Same G H) (h : Rd G a o) : Rd H a o := by
  rcases h with h | ⟨x, h⟩
  · exact .inl (g _ _ h)
  · exact .inr ⟨x, g _ _ h⟩
/-- d[k] -/
def mDIx (a b : M D) : M D := fun e => (a e).bind fun p => (isDct p.1).bind fun kvs => (b p.2).bind fun q => (keyD q.1).bind fun k => (valD kvs k).bind fun d => some (d, q.2)
theorem se_dix (ha : SimE W ta ma) (hb : SimE W tb mb) : SimE W (tDGet ta tb) (mDIx ma mb) := fun env R d e1 hm hr => by
  obtain ⟨x, e2, h1, hm⟩ := bind_of hm
  obtain ⟨kvs, h2, hm⟩ := bind_of' hm
  obtain ⟨y, e3, h3, hm⟩ := bind_of hm
  obtain ⟨k, h4, hm⟩ := bind_of' hm
  obtain ⟨z, h5, hm⟩ := bind_of' hm
  cases hm
  intro G H σ S Q q
  refine ha _ (fun y e => y = x ∧ e = e2) _ _ h1 ⟨rfl, rfl⟩ G H σ S _ fun v dv G1 H1 e1' S1 T1 rv ⟨z1, z2⟩ => ?_
  subst z1 z2
  have ed := isDct_of h2
  subst ed
  refine hb _ (fun z e => z = y ∧ e = e3) _ _ h3 ⟨rfl, rfl⟩ G1 H1 σ S1 _ fun u du G2 H2 e4 S2 T2 ru ⟨z3, z4⟩ => ?_
  subst z3 z4
  obtain ⟨a, vs, rfl, hd, ke, ra⟩ := (rv.up T2.gg).dct_inv
  obtain ⟨w, w1, w2⟩ := val_of ke ra h5
  exact ⟨a, w, rfl, .inl ⟨vs, k, Rd.same S2.gh hd, key_of ru h4, w1.symm⟩, q w _ G2 H2 _ S2 (T1.trans S T2) w2 hr⟩
/-- d.get(k, x) -/
def mDGet2 (a b c : M D) : M D := fun e => (a e).bind fun p => (isDct p.1).bind fun kvs => (b p.2).bind fun q => (keyD q.1).bind fun k => (c q.2).bind fun r => some ((valD kvs k).getD r.1, r.2)
theorem se_dget2 (ha : SimE W ta ma) (hb : SimE W tb mb) (hc : SimE W tc mc) : SimE W (tDGet2 ta tb tc) (mDGet2 ma mb mc) := fun env R d e1 hm hr => by
  obtain ⟨x, e2, h1, hm⟩ := bind_of hm
  obtain ⟨kvs, h2, hm⟩ := bind_of' hm
  obtain ⟨y, e3, h3, hm⟩ := bind_of hm
  obtain ⟨k, h4, hm⟩ := bind_of' hm
  obtain ⟨w, e4, h5, hm⟩ := bind_of hm
  cases hm
  intro G H σ S Q q
  refine ha _ (fun y e => y = x ∧ e = e2) _ _ h1 ⟨rfl, rfl⟩ G H σ S _ fun v dv G1 H1 e1' S1 T1 rv ⟨z1, z2⟩ => ?_
  subst z1 z2
  have ed := isDct_of h2
  subst ed
  obtain ⟨a0, vs0, e0, hd0, _, _⟩ := rv.dct_inv
  refine ⟨a0, e0, .inl ⟨vs0, Rd.same S1.gh hd0⟩, ?_⟩
  refine hb _ (fun z e => z = y ∧ e = e3) _ _ h3 ⟨rfl, rfl⟩ G1 H1 σ S1 _ fun u du G2 H2 e5 S2 T2 ru ⟨z3, z4⟩ => ?_
  subst z3 z4
  refine hc _ (fun z e => z = w ∧ e = e4) _ _ h5 ⟨rfl, rfl⟩ G2 H2 σ S2 _ fun t dt G3 H3 e6 S3 T3 rt ⟨z5, z6⟩ => ?_
  subst z5 z6
  obtain ⟨a, vs, e9, hd, ke, ra⟩ := (rv.up (T2.gg.trans T3.gg)).dct_inv
  rw [e0] at e9
  cases e9
  have T := (T1.trans S T2).trans S T3
  have ek := key_of ru h4
  rcases valO (k := k) ke ra with ⟨d, v', b1, b2, b3⟩ | ⟨b1, b2⟩
  · refine ⟨some v', .inl ⟨vs, k, Rd.same S3.gh hd, ek, b2.symm⟩, q v' _ G3 H3 _ S3 T ?_ hr⟩
    rw [b1]
    exact b3
  · refine ⟨none, .inl ⟨vs, k, Rd.same S3.gh hd, ek, b2.symm⟩, q t _ G3 H3 _ S3 T ?_ hr⟩
    rw [b1]
    exact rt
/-- k in d, k not in d -/
def rDIn (f : Bool → Bool) : R2 := fun y x H Q => ∃ a o, x = .ref a ∧ DGet H a y o ∧ Q (.bl (f o.isSome)) H
def inDct (f : Bool → Bool) : D → D → Option D
  | k, .dct kvs => (keyD k).bind fun k => some (.bl (f (valD kvs k).isSome))
  | _, _ => none
theorem opd_din {f : Bool → Bool} : OpD W (rDIn f) (inDct f) := by
  intro G H x y dx dy dz e rx ry ho Q q
  cases dy <;> first | (cases ho; done) | skip
  rename_i kvs
  obtain ⟨k, hk, ho⟩ := bind_of' (show (keyD dx).bind _ = some dz from ho)
  cases ho
  obtain ⟨a, vs, rfl, hd, ke, ra⟩ := ry.dct_inv
  have ek := key_of rx hk
  rcases valO (k := k) ke ra with ⟨d, v', b1, b2, b3⟩ | ⟨b1, b2⟩
  · refine ⟨a, some v', rfl, .inl ⟨vs, k, Rd.same e hd, ek, b2.symm⟩, q _ G H (Gr.refl e) ?_⟩
    rw [b1]
    exact .bl _
  · refine ⟨a, none, rfl, .inl ⟨vs, k, Rd.same e hd, ek, b2.symm⟩, q _ G H (Gr.refl e) ?_⟩
    rw [b1]
    exact .bl _
theorem pe_din {X : Cx} {o i : Expr} {td ty : TE} {pos : Pos} (hu : X.A.units + 1 < cLine) (hy : PE X i ty) (hd : PE X o td) (hm : behindInMarks CmpOp.In o = false) : PE X (i.Compare [.In] [o] pos) (tOp (rDIn fun b => b) ty td) := pe_cmp (pc_din hu hy hd) hm
theorem pe_dnotin {X : Cx} {o i : Expr} {td ty : TE} {pos : Pos} (hu : X.A.units + 1 < cLine) (hy : PE X i ty) (hd : PE X o td) (hm : behindInMarks CmpOp.NotIn o = false) : PE X (i.Compare [.NotIn] [o] pos) (tOp (rDIn fun b => !b) ty td) := pe_cmp (pc_dnotin hu hy hd) hm
theorem pt_din {X : Cx} {o i : Expr} {td ty : TE} {pos : Pos} (hu : X.A.units + 1 < cLine) (hy : PE X i ty) (hd : PE X o td) (hm : behindInMarks CmpOp.In o = false) : PT X (i.Compare [.In] [o] pos) (tB (tOp (rDIn fun b => b) ty td)) := pt_cmp (pc_din hu hy hd) hm
theorem pt_dnotin {X : Cx} {o i : Expr} {td ty : TE} {pos : Pos} (hu : X.A.units + 1 < cLine) (hy : PE X i ty) (hd : PE X o td) (hm : behindInMarks CmpOp.NotIn o = false) : PT X (i.Compare [.NotIn] [o] pos) (tB (tOp (rDIn fun b => !b) ty td)) := pt_cmp (pc_dnotin hu hy hd) hm
end
end Nv

set_option Elab.async false
set_option linter.all false
set_option maxRecDepth 100000
set_option maxHeartbeats 4000000
/-! NvJ3: tuple(d), d a dict. -/
namespace Nv
open PySem L2 PyProof.Rows PySem.Spec
theorem collect_kdl {prog : Program} {w : World} {A : Around} {E : Value → Shared → Prop} {s : Shared} {T : String} {r d : Addr} {n : Nat} {P : Nat → Value → Prop} {OK : Heap → Prop} {Q : List Value → Shared → Prop}
    (K : PySem.W.KdlSrc prog w T r d n P OK) (hh : A.handled = none) (hok : OK s.heap) (hn : n ≤ sizeLine)
    (hQ : ∀ (h' : Heap) (tk : Nat) (acc : Array Value), (∀ (b : Addr) (o : Obj), s.heap.get? b = some o → h'.get? b = some o) → s.heap.objs.size ≤ h'.objs.size → ItemsOf P acc n → Q acc.toList { heap := h', gens := s.gens, drawn := s.drawn, toks := tk, os := s.os }) :
    wpAny (model prog w) A (collect (Value.ref r)) Q E s := by
  unfold collect
  refine wpAny_bind (wpAny_runValue (codeAny_builtin PySem.F.entry_proto_collect ?_))
  rw [Around.under_plainId PySem.F.plain_proto_collect]
  have hS := Heap.get?_push_size s.heap (o := { cls := Value.type "list", data := Data.seq #[] }) rfl
  have hlt := K.there s.heap hok
  show wpAny (model prog w) A.in1 (newList [] >>= fun y => again (Code.builtin "list.__iadd__" { pos := [y, .ref r] })) _ _ s
  refine wpAny_bind (wpAny_newObj_type (wpAny_pure ⟨plainId_quiet PySem.F.plain_list_iadd _, codeAny_builtin PySem.F.entry_list_iadd ?_⟩))
  rw [Around.under_plainId PySem.F.plain_list_iadd]
  show wpAny (model prog w) A.in1 (Builtin.List.listExtendWith (.ref s.heap.objs.size) (.ref r) (.ref s.heap.objs.size)) _ _ _
  refine PySem.W.kdl_extend (c₀ := 0) K hh (K.keep s.heap _ hok fun b x o e => Heap.get?_push_of_some { cls := Value.type "list", data := Data.seq #[] } e) s.heap.objs.size (Nat.ne_of_gt hlt.left) (Nat.ne_of_gt hlt.right) (.ref s.heap.objs.size) hS (R := fun x s' =>
      match x with
      | Except.ok (Flow.ret v) =>
        wpAny (model prog w) A
          (match v with
          | Value.ref a => do
            let __do_lift ← load a
            match __do_lift.data with
              | Data.seq xs epoch => pure xs.toList
              | x => unsupported "internal:collect"
          | x => unsupported "internal:collect")
          Q E s'
      | Except.ok a => False
      | Except.error e => E e s') (fun h' tk acc c' hk hg ha => ?_) hn
  show wpAny (model prog w) A (load s.heap.objs.size >>= fun o => match o.data with
    | Data.seq xs epoch => pure xs.toList
    | x => unsupported "internal:collect") Q E { heap := h', gens := s.gens, drawn := s.drawn, toks := tk, os := s.os }
  refine wpAny_bind (wpAny_load hg ?_)
  exact wpAny_pure (hQ h' tk acc (fun b o e => hk b o (Nat.ne_of_lt (Heap.lt_size e)) (Heap.get?_push_of_some _ e)) (Nat.le_of_lt (Heap.lt_size hg)) ha)
theorem code_tuple_kdl {prog : Program} {w : World} {A : Around} {E : Value → Shared → Prop} {s : Shared} {T : String} {r d : Addr} {n : Nat} {P : Nat → Value → Prop} {OK : Heap → Prop} {Q₁ : Value → Shared → Prop}
    (K : PySem.W.KdlSrc prog w T r d n P OK) (hh : A.handled = none) (hok : OK s.heap) (hn : n ≤ sizeLine)
    (h : ∀ (h' : Heap) (tk : Nat) (acc : Array Value), (∀ (b : Addr) (o : Obj), s.heap.get? b = some o → h'.get? b = some o) → s.heap.objs.size ≤ h'.objs.size → ItemsOf P acc n →
      Q₁ (Value.ref h'.objs.size) { heap := h'.push { cls := Value.type "tuple", data := Data.seq acc }, gens := s.gens, drawn := s.drawn, toks := tk, os := s.os }) :
    codeAny (model prog w) A (Code.call (Value.builtin "tuple.__new__") { pos := [Value.type "tuple", Value.ref r] }) (wants Q₁ E) s := by
  have hT := K.type s hok
  refine codeAny_call_builtin PySem.F.plain_tuple_new PySem.F.entry_tuple_new (wpAny_of_eq (PySem.F.newCall_tuple_1 (Value.ref r)) ?_)
  refine wpAny_bind (wpAny_pure (wpAny_ite_false (Eq.refl (decide ((!true) = true))) (wpAny_bind (wpAny_of_eq sub_tuple_self (wpAny_ite_false (Eq.refl (decide ((!true) = true))) (wpAny_ite_false (Eq.refl (decide (((Manifest.find? "tuple").elim false fun x => x.noNew) = true))) ?_))))))
  refine wpAny_bind (wpAny_of_eq madeHere_tuple (wpAny_bind (wpAny_of_eq init_tuple_lookup (wpAny_ite_true (Eq.refl (decide ((some (Value.builtin "object.__init__") == some (Value.builtin "object.__init__")) = true))) ?_))))
  refine wpAny_bind (wpAny_ite_true (Eq.refl (decide (({ pos := [Value.type "tuple", Value.ref r] } : Args).kw.isEmpty = true))) (wpAny_pure ?_))
  refine wpAny_bind (wpAny_of_eq (show checkCount "tuple" 0 1 [Value.ref r].length = pure () from rfl) ?_)
  refine wpAny_ite_true (Eq.refl (decide ((Value.type "tuple" == Value.type "tuple") = true))) ?_
  refine wpAny_bind (wpAny_bind (wpAny_typeOf hT (wpAny_pure ?_)))
  show wpAny (model prog w) A.in1 (if (Value.type T == Value.type "tuple") = true then _ else _) _ _ _
  rw [K.notTuple]
  rw [if_neg Bool.false_ne_true]
  refine wpAny_bind (collect_kdl K hh hok hn fun h' tk acc hk hg ha => ?_)
  rw [Array.toArray_toList]
  refine wpAny_bind (wpAny_pure ?_)
  refine wpAny_bind (wpAny_newObj_type (wpAny_pure (h h' tk acc hk hg ha)) ?_)
  show acc.size ≤ sizeLine
  rw [ha.1]
  exact hn
theorem call_tuple_kdl {prog : Program} {w : World} {A : Around} {E : Value → Shared → Prop} {s : Shared} {T : String} {r d : Addr} {n : Nat} {P : Nat → Value → Prop} {OK : Heap → Prop} {Q : Value → Shared → Prop}
    (K : PySem.W.KdlSrc prog w T r d n P OK) (hh : A.handled = none) (hok : OK s.heap) (hn : n ≤ sizeLine)
    (h : ∀ (h' : Heap) (tk : Nat) (acc : Array Value), (∀ (b : Addr) (o : Obj), s.heap.get? b = some o → h'.get? b = some o) → s.heap.objs.size ≤ h'.objs.size → ItemsOf P acc n →
      Q (Value.ref h'.objs.size) { heap := h'.push { cls := Value.type "tuple", data := Data.seq acc }, gens := s.gens, drawn := s.drawn, toks := tk, os := s.os }) :
    wpAny (model prog w) A (call (Value.type "tuple") [Value.ref r]) Q E s :=
  callType_codes (Q₁ := fun obj s₁ => s₁.TypeIs obj "tuple" ∧ Q obj s₁) PySem.F.called_tuple (PySem.F.typeCall_tuple_1 (Value.ref r)) PySem.F.entry_object_init
    (code_tuple_kdl (A := A.in1) K hh hok hn fun h' tk acc hk hg ha => ⟨⟨{ cls := Value.type "tuple", data := Data.seq acc }, Heap.get?_push_size h' rfl, rfl⟩, h h' tk acc hk hg ha⟩)
    fun obj s₁ h₁ => ⟨h₁.1, PySem.F.args_object_init_2 obj (Value.ref r), object_init_meets PySem.F.called_tuple.init.lookup PySem.F.called_tuple.made (of_decide_eq_true (id (Eq.refl true))) prog w A.in1 (wants (fun r s₂ => r = Value.none ∧ Q obj s₂) E) s₁ ⟨h₁.1, rfl, h₁.2⟩⟩
theorem call_tupleD {X : Cx} (hc : X.calm = true) : CallR X (Value.type "tuple") fun xs H Q => ∃ (a : Addr) (kvs : List (Key × V)), xs = [V.ref a] ∧ Rd H a (.dK kvs) ∧ ∀ p, H p = none → Q (V.ref p) (upd H p (.tup (kvs.map fun kv => kV kv.1))) := by
  intro pins s σ H xs us Q I r h
  obtain ⟨a, kvs, rfl, hd, q⟩ := h
  obtain ⟨u, rfl, rx⟩ := vals1 r
  cases rx
  obtain ⟨z, lo, vs, rel, dd⟩ := dk_rd I.hok hd
  obtain ⟨ep, hat⟩ := Heap.DictOf.dictAt dd
  have ek : kvs.map (fun kv => kV kv.1) = vs.map (fun p => kV p.1) := by
    have e := congrArg (List.map kV) (KV.keys rel)
    rw [List.map_map, List.map_map] at e
    exact e
  refine call_tuple_kdl (PySem.W.kdl_dict lo) (I.ok.hd hc) hat (by rw [← KV.length rel]; exact z) fun h' tk acc hk grow ha => ?_
  have hv : Vals (kvs.map fun kv => kV kv.1) acc.toList := by
    rw [ek]
    exact keys_at (by rw [Array.length_toList]; exact ha.1) fun j v e => ha.2 j v (by rw [← Array.getElem?_toList]; exact e)
  refine ⟨.ref h'.objs.size, upd H h'.objs.size (.tup (kvs.map fun kv => kV kv.1)), I.laid (fun b o e => Heap.get?_push_of_some _ (hk b o e)) grow ?_, rfl, q _ (I.hok.fresh grow)⟩
  exact ⟨by rw [List.length_map]; exact z, acc.toList, hv, by
    rw [Array.toArray_toList]
    exact IsTup.new h' acc⟩
end Nv

set_option Elab.async false
set_option linter.all false
set_option maxRecDepth 100000
set_option maxHeartbeats 4000000
/-! NvJ4: stars in displays; tuple and list of a dict; dict of a list of pairs; texts put together. -/
namespace Nv
open PySem L2 PyProof.Rows PySem.Spec
section
variable {W : Wd} {ta te : TE} {ma me : M D} {tr : TA} {mr : M (List D)}
/-- *xs in a display -/
def mStar (a : M D) (r : M (List D)) : M (List D) := fun e => (a e).bind fun p => (seqOf [p.1]).bind fun xs => (r p.2).bind fun q => some (xs ++ q.1, q.2)
theorem sa_star (ha : SimE W ta ma) (h : SimA W tr mr) : SimA W (StX.tStar W.K ta tr) (mStar ma mr) := fun env R d e1 hm hr => by
  obtain ⟨x, e2, h1, hm⟩ := bind_of hm
  obtain ⟨xs, h2, hm⟩ := bind_of' hm
  obtain ⟨y, e3, h3, hm⟩ := bind_of hm
  cases hm
  intro G H σ S Q q
  refine ha _ (fun y e => y = x ∧ e = e2) _ _ h1 ⟨rfl, rfl⟩ G H σ S _ fun v dv G1 H1 e1' S1 T1 rv ⟨z1, z2⟩ => ?_
  subst z1 z2
  have go : ∀ {a : Addr} {vs : List V}, (SqT W.K H1 a vs ∨ SqL W.K H1 a vs) → RpAll W G1 vs xs → v = .ref a → (∃ p xs, v = V.ref p ∧ (SqT W.K H1 p xs ∨ SqL W.K H1 p xs) ∧ tr σ H1 fun ys H2 => Q (xs ++ ys) H2) := fun {a vs} hs ra ev => by
    refine ⟨a, vs, ev, hs, h _ (fun z e => z = y ∧ e = e3) _ _ h3 ⟨rfl, rfl⟩ G1 H1 σ S1 _ fun us du G2 H2 e4 S2 T2 ru ⟨z3, z4⟩ => ?_⟩
    subst z3 z4
    exact q _ _ G2 H2 _ S2 (T1.trans S T2) ((ra.up T2.gg).append ru) hr
  rcases seqOf_of h2 with hx | hx
  · cases hx
    obtain ⟨a, vs, rfl, hs, ra⟩ := rv.lst_inv
    exact go (.inr (.inl (.inl (S1.gh _ _ hs)))) ra rfl
  · cases hx
    obtain ⟨a, vs, rfl, hs, ra⟩ := rv.tup_inv
    exact go (.inl (Same.tup S1.gh hs)) ra rfl
/-! keys -/
def kD : Key → D
  | .inl i => .int i
  | .inr x => .str x
theorem rp_key {G : Hp} (k : Key) : Rp W G (kV k) (kD k) := by
  cases k
  · exact .int _
  · exact .str _
theorem rp_keys {G : Hp} : ∀ {vs : List (Key × V)} {ds : List (Key × D)}, vs.map (·.1) = ds.map (·.1) → RpAll W G (vs.map fun kv => kV kv.1) (ds.map fun kv => kD kv.1)
  | [], [], _ => .nil
  | [], _ :: _, e => by cases e
  | _ :: _, [], e => by cases e
  | v :: vs, d :: ds, e => by
    simp only [List.map_cons, List.cons.injEq] at e
    have := rp_key (W := W) (G := G) v.1
    rw [e.1] at this
    rw [List.map_cons, List.map_cons, e.1]
    exact .cons this (rp_keys e.2)
def rTupS (K : PySem.W.Frag) : List V → Hp → VK → Prop := fun xs H Q => (∃ p ys, xs = [.ref p] ∧ ((SqL K H p ys ∧ ∀ l, H l = none → Q (.ref l) (upd H l (.tup ys))) ∨ (SqT K H p ys ∧ Q (.ref p) H))) ∨
  ∃ (a : Addr) (kvs : List (Key × V)), xs = [V.ref a] ∧ Rd H a (.dK kvs) ∧ ∀ p, H p = none → Q (V.ref p) (upd H p (.tup (kvs.map fun kv => kV kv.1)))
theorem ka_tupS {X : Cx} {K : PySem.W.Frag} (hc : X.calm = true) (h : X.K = K) : CallR X (.type "tuple") (rTupS K) := h ▸ callr_or call_tuple_of (call_tupleD hc)
def tupOfS : List D → Option D
  | [.dct kvs] => some (.tup (kvs.map fun kv => kD kv.1))
  | ds => tupOfD ds
theorem cd_tupS : CallD W (rTupS W.K) tupOfS := by
  intro G H xs ds dz e r ho Q q
  unfold tupOfS at ho
  split at ho
  · cases ho
    obtain ⟨v, rfl, r0⟩ := rp1 r
    obtain ⟨a, vs, rfl, hd, ke, ra⟩ := r0.dct_inv
    refine .inr ⟨a, vs, rfl, Rd.same e hd, fun p hp => ?_⟩
    obtain ⟨g, rr⟩ := Gr.newT (W := W) e hp (rp_keys ke)
    exact q _ _ _ g rr
  · exact .inl (cd_tuple G H xs ds dz e r ho Q q)
/-! list(d) -/
def rListX (K : PySem.W.Frag) : List V → Hp → VK → Prop := fun xs H Q => rListS K xs H Q ∨ ∃ (a : Addr) (kvs : List (Key × V)), xs = [.ref a] ∧ Rd H a (.dK kvs) ∧ ∀ p, H p = none → Q (.ref p) (upd H p (.lst (kvs.map fun kv => kV kv.1)))
theorem ka_listX {X : Cx} {K : PySem.W.Frag} (hc : X.calm = true) (h : X.K = K) : CallR X (.type "list") (rListX K) := callr_or (ka_listS hc h) (call_listD hc)
def seqOfX : List D → Option (List D)
  | [.dct kvs] => some (kvs.map fun kv => kD kv.1)
  | ds => seqOfS ds
def mListX (r : M (List D)) : M (List D) := fun e => (r e).bind fun p => (seqOfX p.1).bind fun xs => some (xs, p.2)
theorem sf_listX (h : SimA W tr mr) : SimF W (tCB (rListX W.K) tr) (mListX mr) := fun env R d e1 hm hr => by
  obtain ⟨x, e2, h1, hm⟩ := bind_of hm
  obtain ⟨z, h3, hm⟩ := bind_of' hm
  cases hm
  intro G H σ S Q q
  by_cases hs : ∃ kvs, x = [.dct kvs]
  · obtain ⟨kvs, rfl⟩ := hs
    cases h3
    refine h _ (fun x' e' => x' = [.dct kvs] ∧ e' = e2) _ _ h1 ⟨rfl, rfl⟩ G H σ S _ fun vs ds G1 H1 e1' S1 T1 r ⟨z1, z2⟩ => ?_
    subst z1 z2
    obtain ⟨v, rfl, r0⟩ := rp1 r
    obtain ⟨a, us, rfl, hd, ke, ra⟩ := r0.dct_inv
    refine .inr ⟨a, us, rfl, Rd.same S1.gh hd, fun p hp => ?_⟩
    have no : ¬ own σ e1' p := fun z => by
      obtain ⟨_, o, ho⟩ := S1.own_at z
      rw [hp] at ho
      cases ho
    exact q p _ _ G1 _ e1' (S1.mut (S1.gh.free hp) no) (T1.late (kp_none T1 hp)) (kp_none T1 hp) upd_same (S1.gh.free hp) no (rp_keys ke) hr
  · have h4 : seqOfS x = some d := by
      unfold seqOfX at h3
      split at h3
      · rename_i t ht
        exact absurd ⟨_, ht⟩ hs
      · exact h3
    refine h _ (fun x' e' => x' = x ∧ e' = e2) _ _ h1 ⟨rfl, rfl⟩ G H σ S _ fun vs ds G1 H1 e1' S1 T1 r ⟨z1, z2⟩ => ?_
    subst z1 z2
    refine .inl ?_
    have fin : ∀ {ws : List V} (p : Addr), H1 p = none → RpAll W G1 ws d → Q (.ref p) (upd H1 p (.lst ws)) := fun {ws} p hp ra => by
      have no : ¬ own σ e1' p := fun z => by
        obtain ⟨_, o, ho⟩ := S1.own_at z
        rw [hp] at ho
        cases ho
      exact q p _ _ G1 _ e1' (S1.mut (S1.gh.free hp) no) (T1.late (kp_none T1 hp)) (kp_none T1 hp) upd_same (S1.gh.free hp) no ra hr
    unfold seqOfS at h4
    split at h4
    · rename_i t
      split at h4
      · rename_i hz
        cases h4
        obtain ⟨v, rfl, r0⟩ := rp1 r
        rw [r0.str_inv]
        exact .inr ⟨_, rfl, hz, fun p hp => fin p hp (rp_signs _)⟩
      · cases h4
    · rcases seqOf_of h4 with hx | hx
      · subst hx
        obtain ⟨v, rfl, r0⟩ := rp1 r
        obtain ⟨a, ys, rfl, hs', ra⟩ := r0.lst_inv
        exact .inl ⟨a, ys, rfl, .inl (.inl (.inl (S1.gh _ _ hs'))), fun p hp => fin p hp ra⟩
      · subst hx
        obtain ⟨v, rfl, r0⟩ := rp1 r
        obtain ⟨a, ys, rfl, hs', ra⟩ := r0.tup_inv
        exact .inl ⟨a, ys, rfl, .inr (Same.tup S1.gh hs'), fun p hp => fin p hp ra⟩
end
end Nv

set_option Elab.async false
set_option linter.all false
set_option maxRecDepth 100000
set_option maxHeartbeats 4000000
/-! NvJ5: dict of a list of pairs. -/
namespace Nv
open PySem L2 PyProof.Rows PySem.Spec
section
variable {W : Wd} {G H : Hp}
def pairsOf : List D → Option (List (Key × D))
  | [] => some []
  | d :: r => match d with
    | .tup [k, v] => (keyD k).bind fun k => (pairsOf r).bind fun q => some ((k, v) :: q)
    | _ => none
theorem pairs_rp (e : Same G H) : ∀ {ys : List V} {xs : List D} {ds : List (Key × D)}, RpAll W G ys xs → pairsOf xs = some ds →
    ∃ (ps : List Addr) (kvs : List (Key × V)), ys = ps.map V.ref ∧ Paired (fun p (kv : Key × V) => SqT W.K H p [kV kv.1, kv.2]) ps kvs ∧ kvs.map (·.1) = ds.map (·.1) ∧ RpAll W G (kvs.map (·.2)) (ds.map (·.2))
  | _, [], ds, r, h => by
    cases r
    cases h
    exact ⟨[], [], rfl, .nil, rfl, .nil⟩
  | _, d :: xs, ds, r, h => by
    cases r with
    | cons r0 r =>
      unfold pairsOf at h
      split at h
      · rename_i k v
        obtain ⟨k', hk, h⟩ := bind_of' h
        obtain ⟨q, hq, h⟩ := bind_of' h
        cases h
        obtain ⟨ps, kvs, rfl, pp, ke, ra⟩ := pairs_rp e r hq
        obtain ⟨a, us, rfl, ht, ru⟩ := r0.tup_inv
        obtain ⟨v1, v2, rfl, r1, r2⟩ := rp2 ru
        have ek := key_of r1 hk
        subst ek
        exact ⟨a :: ps, (k', v2) :: kvs, rfl, .cons (Same.tup e ht) pp, by rw [List.map_cons, List.map_cons, ke], .cons r2 ra⟩
      · cases h
def rDictP (K : PySem.W.Frag) : List V → Hp → VK → Prop := fun xs H Q => ∃ (a : Addr) (ps : List Addr) (kvs : List (Key × V)), xs = [.ref a] ∧ SqL K H a (ps.map V.ref) ∧ Paired (fun p (kv : Key × V) => SqT K H p [kV kv.1, kv.2]) ps kvs ∧ ∀ p, H p = none → Q (.ref p) (upd H p (.dK (mergeK [] kvs)))
theorem ka_dictP {X : Cx} {K : PySem.W.Frag} (hc : X.calm = true) (h : X.K = K) : CallR X (.type "dict") (rDictP K) := h ▸ call_dictP hc
def dictPD : List D → Option D
  | [.lst xs] => (pairsOf xs).bind fun ds => some (.dct (mergeD [] ds))
  | _ => none
theorem cd_dictP : CallD W (rDictP W.K) dictPD := by
  intro G H xs ds dz e r ho Q q
  unfold dictPD at ho
  split at ho
  · obtain ⟨ps, hp, ho⟩ := bind_of' ho
    cases ho
    obtain ⟨v, rfl, r0⟩ := rp1 r
    obtain ⟨a, ys, rfl, hs, ra⟩ := r0.lst_inv
    obtain ⟨as, kvs, rfl, pp, ke, rb⟩ := pairs_rp e ra hp
    obtain ⟨m1, m2⟩ := KvR.merge (W := W) (G := G) (more := kvs) (mds := ps) (kvs := []) (kds := []) ⟨ke, rb⟩ ⟨rfl, .nil⟩
    refine ⟨a, as, kvs, rfl, .inl (.inl (e _ _ hs)), pp, fun p hp => ?_⟩
    have g : Gr G H (upd G p (.dK (mergeK [] kvs))) (upd H p (.dK (mergeK [] kvs))) := Gr.new e hp
    exact q _ _ _ g (.dct (.inl upd_same) m1 (m2.up g.gg))
  · cases ho
end
end Nv

set_option Elab.async false
set_option linter.all false
set_option maxRecDepth 100000
set_option maxHeartbeats 4000000
/-! NvJ6: del xs[a:]. -/
namespace Nv
open PySem L2 PyProof.Rows PySem.Spec
theorem filt_take {α : Type} {p : Nat → Bool} {a N : Nat} (hp : ∀ k : Nat, k < N → p k = decide (a ≤ k)) : ∀ (l : List α) (j : Nat), j + l.length ≤ N → ((l.zipIdx j).filterMap fun x => match x with | (x, k) => if p k = true then none else some x) = l.take (a - j)
  | [], j, _ => by simp
  | x :: l, j, hj => by
    rw [List.length_cons] at hj
    rw [List.zipIdx_cons, List.filterMap_cons]
    have ih := filt_take hp l (j + 1) (by omega)
    show (match (if p j = true then (none : Option α) else some x) with | none => _ | some b => _ :: _) = _
    rw [hp j (by omega)]
    by_cases h : a ≤ j
    · rw [decide_eq_true h, if_pos rfl]
      show List.filterMap _ _ = _
      rw [ih, show a - (j + 1) = 0 by omega, show a - j = 0 by omega, List.take_zero, List.take_zero]
    · rw [decide_eq_false h, if_neg Bool.false_ne_true]
      show x :: List.filterMap _ _ = _
      rw [ih, show a - j = (a - (j + 1)) + 1 by omega, List.take_succ_cons]
theorem slice_noindex : typeLookup (.type "slice") (Str.ofString "__index__") = pure none := by
  rw [typeLookup_type, builtinLookup_eq_fast]
  rfl
theorem delItem_cut {prog : Program} {w : World} {A : Around} {E : Value → Shared → Prop} {s : Shared} {l sl : Addr} {items : Array Value} {n : Nat} {vl vu vs : Value} {a : Nat} {Q : Unit → Shared → Prop}
    (hl : s.heap.get? l = some { cls := Value.type "list", data := Data.seq items n }) (hs : s.heap.IsSliceOf sl vl vu vs) (pl : IsPart vl (some (a : Int))) (pu : IsPart vu none) (ps : IsPart vs none) (ha : a ≤ items.size) (hz : items.size ≤ sizeLine)
    (h : ∀ f : Array Value → Array Value, f items = (items.toList.take a).toArray → Q () { heap := s.heap.update l (Obj.mapSeq f), gens := s.gens, drawn := s.drawn, toks := s.toks, os := s.os }) :
    wpAny (model prog w) A (delItem (.ref l) (.ref sl)) Q E s := by
  obtain ⟨os, hos, hcs, hds⟩ := id hs
  have hTs : s.TypeIs (.ref sl) "slice" := ⟨os, hos, hcs⟩
  have hTl : s.TypeIs (.ref l) "list" := ⟨_, hl, rfl⟩
  refine wpAny_delItem_slot hTl (by decide) PySem.F.slot_list_delitem (wpAny_call_entry PySem.F.slot_list_delitem hTl PySem.F.entry_list_delitem ?_ (PySem.F.args_list_delitem_2 _ _))
  unfold Builtin.«list.__delitem__»
  refine wpAny_bind (wpAny_of_eq (show slotArgs "__delitem__" 1 { pos := [Value.ref l, Value.ref sl] } = pure (Value.ref l, [Value.ref sl]) from rfl) ?_)
  refine wpAny_bind (?_ : wpAny _ _ (Builtin.List.listSubscript? (.ref sl)) _ _ _)
  unfold Builtin.List.listSubscript?
  refine wpAny_bind (wpAny_specialOf hTs slice_noindex (wpAny_ite_true rfl (wpAny_pure ?_)))
  refine wpAny_bind (wpAny_typeOf hTs (wpAny_ite_false rfl ?_))
  refine wpAny_bind (?_ : wpAny _ _ (Builtin.List.listSliceParts (.ref sl)) _ _ _)
  rw [listSliceParts_eq]
  refine wpAny_bind (wpAny_field hos hds (x := vs) rfl (wpAny_bind (wpAny_listPart ps ?_)))
  refine wpAny_ite_false rfl (wpAny_bind (wpAny_field hos hds (x := vl) rfl (wpAny_bind (wpAny_listPart pl ?_))))
  refine wpAny_bind (wpAny_field hos hds (x := vu) rfl (wpAny_bind (wpAny_listPart pu (wpAny_pure ?_))))
  refine wpAny_bind (listItems_at hl rfl ?_)
  refine wpAny_bind (wpAny_of_eq (sliceIndices_raw (some (a : Int)) none none items.size (fun z => nomatch z)) ?_)
  have hb : sliceBounds (some (a : Int)) none none items.size = ((a : Int), (items.size : Int), 1) := by
    have e : (if (a : Int) < 0 then (a : Int) + items.size else a) = a := if_neg (by omega)
    show ((if (1 : Int) > 0 then max 0 (min (if (a : Int) < 0 then (a : Int) + items.size else a) items.size) else max (-1) (min (if (a : Int) < 0 then (a : Int) + items.size else a) (items.size - 1))), (if (1 : Int) > 0 then (items.size : Int) else -1), (1 : Int)) = _
    rw [e, if_pos (show (1 : Int) > 0 by decide), if_pos (show (1 : Int) > 0 by decide)]
    congr 1
    omega
  rw [hb]
  refine wpAny_bind (wpAny_rule ?_)
  have key : ∀ p : Nat → Bool, (∀ k : Nat, k < items.size → p k = decide (a ≤ k)) → (items.toList.zipIdx.filterMap fun x => match x with | (x, k) => if p k = true then none else some x) = items.toList.take a := fun p hp => by
    have := filt_take (a := a) (N := items.size) hp items.toList 0 (by rw [Array.length_toList]; omega)
    rw [Nat.sub_zero] at this
    exact this
  have sel : ∀ k : Nat, k < items.size → ((if (1 : Int) > 0 then decide ((a : Int) ≤ (k : Int)) && decide ((k : Int) < (items.size : Int)) && (((k : Int) - (a : Int)) % 1 == 0) else decide ((items.size : Int) < (k : Int)) && decide ((k : Int) ≤ (a : Int)) && (((a : Int) - (k : Int)) % -1 == 0)) : Bool) = decide (a ≤ k) := fun k hk => by
    rw [if_pos (show (1 : Int) > 0 by decide), decide_eq_true (show (k : Int) < (items.size : Int) by omega), Int.emod_one]
    rw [Bool.and_true, show ((0 : Int) == 0) = true from rfl, Bool.and_true]
    exact decide_eq_decide.mpr (by omega)
  refine wpAny_bind (listUpdate_at hl rfl ?_ hz ?_)
  · refine wpAny_bind (wpAny_letGo ?_)
    refine wpAny_pure ⟨_, rfl, h _ ?_⟩
    exact congrArg List.toArray (key _ sel)
  · have e := key _ sel
    have e2 := congrArg List.toArray e
    show (List.toArray _).size ≤ _
    rw [List.size_toArray]
    refine Nat.le_trans (List.length_filterMap_le _ _) ?_
    rw [List.length_zipIdx, Array.length_toList]
    omega
section
variable {X : Cx}
/-- del xs[lo:] -/
def tDelSl (to : TE) (tl : TO) : TS := fun D σ H => to σ H fun x H1 => tl σ H1 fun o H2 => ∃ (l : Addr) (xs : List V) (a : Nat), x = .ref l ∧ o = some (a : Int) ∧ H2 l = some (.lst xs) ∧ a ≤ xs.length ∧ D.nx σ (upd H2 l (.lst (xs.take a)))
theorem ps_delSl {pos tpos p : Pos} {o lo : Expr} {to : TE} {tl : TO} (ho : PE X o to) (hl : PO X (some lo) tl) : PS X (.Delete [.Subscript o (.Slice (some lo) none none p) tpos] pos) (tDelSl to tl) := by
  refine ⟨fun pins s σ H D I h => ?_⟩
  refine wpAny_Delete (wpAny_deleteEach_cons (wpAny_delete_Subscript (thn (ho.run pins s σ H _ I h) fun u s1 ⟨x, H1, I1, rx, q1⟩ => ?_)))
  refine wpAny_Slice (thn (hl.run pins s1 σ H1 _ I1 q1) fun vl s2 ⟨o2, H2, I2, pl, q2⟩ => ?_)
  refine thn (po_none.run pins s2 σ H2 (fun o H3 => o = none ∧ H3 = H2) I2 ⟨rfl, rfl⟩) fun vu s3 ⟨u3, H3, I3, pu, eu, e3⟩ => ?_
  subst eu e3
  refine thn (po_none.run pins s3 σ H3 (fun o H4 => o = none ∧ H4 = H3) I3 ⟨rfl, rfl⟩) fun vs s4 ⟨u4, H4, I4, ps, eo, e4⟩ => ?_
  subst eo e4
  obtain ⟨l, xs, a, rfl, rfl, hH, ha, hq⟩ := q2
  cases rx
  have I5 : Inv X pins σ H4 { s4 with heap := s4.heap.push { cls := .type "slice", data := .fields #[vl, vu, vs] } } := I4.kept (t' := s4.toks) fun b ob q => Heap.get?_push_of_some _ q
  obtain ⟨z, its, n, r, hlen, e⟩ := I5.lstM hH
  have e1 : its.toArray.size = its.length := List.size_toArray
  refine delItem_cut e (Heap.IsSliceOf.new _ vl vu vs) pl pu ps (by omega) (by omega) fun f hf => ?_
  refine wpAny_deleteEach_nil ⟨σ, upd H4 l (.lst (xs.take a)), ?_, hq⟩
  exact I5.lset hH e (its' := its.take a) hf (r.take a) (by rw [List.length_take]; omega)
end
section
variable {W : Wd}
/-- del xs[lo:], xs one's own -/
def mDelSl (i : Nat) (a : M D) : MS := fun e => (isL i e).bind fun _ => (a e).bind fun p => (isInt p.1).bind fun k => (p.2[i]?).bind fun s => s.list.bind fun xs => if 0 ≤ k ∧ k ≤ xs.length then some (.nx, p.2.set i (s.listTo (xs.take k.toNat))) else none
theorem ss_delSl {i : Nat} {ta : TE} {ma : M D} (ha : SimE W ta ma) : SimS W (tDelSl (tVar i) (tPart ta)) (mDelSl i ma) := fun env P o e1 hm hr => by
  obtain ⟨k0, h0, hm⟩ := bind_of' hm
  obtain ⟨x, e2, h1, hm⟩ := bind_of hm
  obtain ⟨k, h2, hm⟩ := bind_of' hm
  obtain ⟨s, h3, hm⟩ := bind_of' hm
  obtain ⟨xs, h4, hm⟩ := bind_of' hm
  split at hm
  · rename_i hz
    cases hm
    obtain ⟨s0, a1, a2⟩ := isL_of h0
    intro G H σ E S n r b c
    obtain ⟨p, us, ev, g0, hh0, _⟩ := (S.ok i _ a1).list a2
    refine ⟨.ref p, ev, ha _ (fun y e => y = x ∧ e = e2) _ _ h1 ⟨rfl, rfl⟩ G H σ S _ fun v d G1 H1 e3 S1 T1 rv ⟨z1, z2⟩ => ?_⟩
    subst z1 z2
    have ek : d = .int k := isInt_of h2
    subst ek
    rw [rv.int_inv]
    obtain ⟨p', vs, ev', g1, hh, ra⟩ := (S1.ok i _ h3).list h4
    rw [ev] at ev'
    cases ev'
    have os := list_owned h4
    refine ⟨k, rfl, p, vs, k.toNat, rfl, by congr 1; omega, hh, by rw [ra.length]; omega, ?_⟩
    exact n G1 _ σ _ (S1.chg (o := .lst (vs.take k.toNat)) h3 os ev (okS_listTo h4 g1 (ra.take k.toNat))) (T1.trans S (Tr.chg S1 h3 os ev (pin_listTo h4))) hr
  · cases hm
end
end Nv

set_option Elab.async false
set_option linter.all false
set_option maxRecDepth 100000
set_option maxHeartbeats 4000000
/-! NvJ7: repr([..]) of a list that is written there, with dicts in it. -/
namespace Nv
open PySem L2 PyProof.Rows PySem.Spec
section
variable {X : Cx}
theorem size_big {pins : List (Addr × Obj)} {σ : L2.St} {H : Hp} {s : Shared} (I : Inv X pins σ H s) : s.heap.objs.size ≠ sysModules := by
  obtain ⟨m, ⟨o, es, ep, e, _⟩, _⟩ := I.loc
  have h1 := Heap.lt_size e
  have h2 := I.ok.above
  have h3 := I.ok.bsz
  obtain ⟨o', _, _, e', _⟩ := I.ok.mod.glob
  have h4 := Heap.lt_size e'
  have h5 : 3 < s.heap.objs.size := Nat.lt_trans (Nat.lt_of_lt_of_le h4 (Nat.le_trans h3 h2)) h1
  intro z
  rw [z] at h5
  exact absurd h5 (by decide)
def tLstN (t : TA) : TE := fun σ H Q => t σ H fun xs H1 => xs.length ≤ sizeLine ∧ ∀ p : Addr, H1 p = none → p ≠ sysModules → Q (.ref p) (upd H1 p (.lst xs))
theorem pe_lstN {es : List Expr} {t : TA} {pos : Pos} (h : PA X es t) : PE X (.List es pos) (tLstN t) := by
  refine ⟨fun pins s σ H Q I hq => ?_⟩
  refine wpAny_List_spliced (thn (h.run pos pins s σ H _ I hq) fun us s1 ⟨xs, H1, I1, r, z, q⟩ => ⟨by rw [← Vals.length r]; exact z, ?_⟩)
  have hf := HOk.fresh I1.hok (Nat.le_refl s1.heap.objs.size)
  exact ⟨.ref s1.heap.objs.size, upd H1 s1.heap.objs.size (.lst xs), I1.laid (fun b u e => Heap.get?_push_of_some _ e) (Nat.le_refl _) ⟨z, us, 0, r, Heap.get?_push_size s1.heap rfl⟩, rfl, q _ hf (size_big I1)⟩
def rReprL (K : PySem.W.Frag) : List V → Hp → VK → Prop := fun xs H Q => ∃ (a : Addr) (ds : List PyData), xs = [.ref a] ∧ a ≠ sysModules ∧ Dt K H (.ref a) (.list ds) ∧ noListAll ds = true ∧ (PyData.list ds).showable = true ∧ (PyData.list ds).depth ≤ 60 ∧ (PyData.list ds).shown.length ≤ sizeLine ∧ Q (.str (PyData.list ds).shown) H
theorem cr_reprL (hg : X.A.guards = some []) (hu : X.A.units + 64 < cLine) : CallR X (.builtin "repr") (rReprL X.K) := by
  intro pins s σ H xs us Q I r h
  obtain ⟨a, ds, rfl, hne, hd, ht, hs, hz, hl, q⟩ := h
  obtain ⟨u, rfl, ru⟩ := vals1 r
  obtain ⟨as, rd⟩ := Dt.reads I (.list ds) (.ref a) u hd ru
  cases ru
  have no : sysModules ∉ as := by
    cases hd with
    | lst hs ha =>
      obtain ⟨its, rv, ⟨o, n, ho, hc, _, hd⟩, _⟩ := I.list hs
      cases rd with
      | list h1 h2 h3 h4 =>
        rw [ho] at h1
        cases h1
        rw [hd] at h3
        cases h3
        intro hm
        rcases List.mem_cons.mp hm with hm | hm
        · exact hne hm.symm
        · exact as_okAll I ds _ _ _ ha rv (by simpa using h4) ht hm
  refine repr_of_reads' rd hs (fun _ => no) hg (by omega) (fun _ _ e => e) (fun h' u tk hk => ?_) hl
  exact ⟨.str _, H, I.kept hk, ⟨u, rfl⟩, q⟩
theorem ka_reprL {K : PySem.W.Frag} (hg : X.A.guards = some []) (hu : X.A.units + 64 < cLine) (h : X.K = K) : CallR X (.builtin "repr") (rReprL K) := h ▸ cr_reprL hg hu
end
section
variable {W : Wd} {tr : TA} {mr : M (List D)}
def rokL (ds : List D) : Bool := plainAll ds && noListAll (pyAll ds) && (D.lst ds).py.showable && decide ((D.lst ds).py.depth ≤ 60) && decide ((D.lst ds).py.shown.length ≤ sizeLine) && decide (ds.length ≤ sizeLine)
def mReprL (r : M (List D)) : M D := fun e => (r e).bind fun p => if rokL p.1 = true then some (.str (D.lst p.1).py.shown, p.2) else none
theorem se_reprL (h : SimA W tr mr) : SimE W (tCB (rReprL W.K) (tCons (tLstN tr) tNil)) (mReprL mr) := fun env R d e1 hm hr => by
  obtain ⟨x, e2, h1, hm⟩ := bind_of hm
  split at hm
  · rename_i hz
    cases hm
    unfold rokL at hz
    simp only [Bool.and_eq_true, decide_eq_true_eq] at hz
    obtain ⟨⟨⟨⟨⟨z1, z2⟩, z3⟩, z4⟩, z5⟩, z6⟩ := hz
    intro G H σ S Q q
    refine h _ (fun y e => y = x ∧ e = e2) _ _ h1 ⟨rfl, rfl⟩ G H σ S _ fun us ds G1 H1 e1' S1 T1 r ⟨y1, y2⟩ => ?_
    subst y1 y2
    refine ⟨by rw [r.length]; exact z6, fun p hp hne => ?_⟩
    obtain ⟨g, rr⟩ := Gr.newL (W := W) S1.gh hp r
    have S2 := S1.up g
    refine ⟨p, pyAll ds, rfl, hne, Dt.up S2.gh _ _ (dt_of (.lst ds) (.ref p) rr z1), z2, z3, z4, z5, ?_⟩
    exact q _ _ _ _ _ S2 (T1.trans S (Tr.up S1 g)) (.str _) hr
  · cases hm
end
end Nv

set_option Elab.async false
set_option linter.all false
set_option maxRecDepth 100000
set_option maxHeartbeats 4000000
/-! NvJ8: enumerate over a tuple; dict comprehensions with two names; f-strings of two parts. -/
namespace PySem
open Sem (wp)
open AutoSeq1 (wpAny_loadPart')
/-- the new thing of enumerate(v) -/
abbrev enumO (p : Addr) : Obj := { cls := .type "enumerate", data := .fields #[.none, .bool false, .ref p, rawInt 0, .none, .none] }
theorem meets_enumOne {v : Value} {o : Obj} {H : Heap → Prop} (B : Begins v o H) :
    Meets (Builtin.«enumerate.__new__» ⟨[.type "enumerate", v], []⟩) (fun _ R s => H s.heap ∧ R (.ok (.ret (.ref (s.heap.push o).objs.size))) { s with heap := (s.heap.push o).push (enumO s.heap.objs.size) }) :=
  .of_wp fun prog w A R s h => by
    obtain ⟨hp, g, d, tk, os⟩ := s
    obtain ⟨h1, h⟩ := h
    have hsub := sub_enumerate
    have q1 : ∀ {A' : Around} {F : Value → Shared → Prop} {Z : Value → Shared → Prop}, Z (.ref hp.objs.size) ⟨hp.push o, g, d, tk, os⟩ → wpAny (model prog w) A' (pyIter v) Z F ⟨hp, g, d, tk, os⟩ := fun z =>
      B.iter prog w _ _ ⟨hp, g, d, tk, os⟩ _ h1 z
    wp_walk using q1
    refine wpAny_stack_any fun st => ?_
    refine wpAny_pure ?_
    split
    · next c _ _ _ _ _ =>
      cases (c == Value.type "enumerate") <;> (wp_walk using q1; exact ⟨_, rfl, h⟩)
    · wp_walk using q1
      exact ⟨_, rfl, h⟩
theorem call_enumOne {prog : Program} {w : World} {A : Around} {E : Value → Shared → Prop} {s : Shared} {v : Value} {o : Obj} {H : Heap → Prop} {Q : Value → Shared → Prop} (B : Begins v o H) (h1 : H s.heap)
    (h : ∀ h', IsEnum h' (s.heap.objs.size + 1) s.heap.objs.size 0 .none → h'.get? s.heap.objs.size = some o → h'.objs.size = s.heap.objs.size + 2 → (∀ b o, s.heap.get? b = some o → h'.get? b = some o) →
      Q (.ref (s.heap.objs.size + 1)) { s with heap := h' }) : wpAny (model prog w) A (call (.type "enumerate") [v]) Q E s := by
  have hz : (s.heap.push o).objs.size = s.heap.objs.size + 1 := Heap.size_push ..
  have he : IsEnum ((s.heap.push o).push (enumO s.heap.objs.size)) (s.heap.objs.size + 1) s.heap.objs.size 0 .none := by
    have z := Heap.get?_push_size (s.heap.push o) (o := enumO s.heap.objs.size) rfl
    rw [hz] at z
    exact z
  refine callType_new F.called_enumerate (by decide) (F.typeCall_enumerate_1 _) (F.newCall_enumerate_1 _) (fun obj => F.args_object_init_2 obj _)
    F.entry_enumerate_new (meets_enumOne B) ⟨h1, ?_⟩
  show _ ∧ _
  rw [hz]
  exact ⟨⟨_, he, rfl⟩, h _ he (Heap.get?_push_of_some _ (Heap.get?_push_size _ B.free)) (by rw [Heap.size_push, hz]) fun b o x => Heap.get?_push_of_some _ (Heap.get?_push_of_some _ x)⟩
theorem next_enumTup {prog : Program} {w : World} {A : Around} {E : Value → Shared → Prop} {s : Shared} {e it t : Addr} {i : Nat} {items : Array Value} {old : Value} {Q : Option Value → Shared → Prop} (hh : A.handled = none)
    (he : IsEnum s.heap e it i old) (hit : s.heap.IsTupleIter it t i) (ht : s.heap.IsTuple t items) (hx : items[i]? = none) (hQ : ∀ h', Heap.ExtBut it s.heap h' → Q none { s with heap := h' }) :
    wpAny (model prog w) A (pyNext (.ref e)) Q E s := by
  have hT : s.TypeIs (.ref e) "enumerate" := ⟨_, he, rfl⟩
  unfold pyNext
  refine wpAny_bind (wpAny_attempt ?_)
  refine wpAny_callSpecial?_slot (name := Str.ofString "__next__") hT F.slot_enumerate_next ?_
  refine wpAny_call_entry F.slot_enumerate_next hT F.entry_enumerate_next ?_ (F.args_enumerate_next_1 _)
  show wpAny _ _ (field (.ref e) 2 >>= _) _ _ _
  refine wpAny_bind ?_
  refine wpAny_field he rfl (x := .ref it) rfl ?_
  refine wpAny_bind ?_
  refine wpAny_nextOf_tuple_end hh hit ht hx fun h' x he' ⟨o, ho, hc⟩ => ?_
  refine wpAny_bind ?_
  exact wpAny_isInstance (T := "StopIteration") (b := true) ⟨o, ho, hc⟩ isSubtype_stop (wpAny_pure (hQ _ he'))
end PySem

namespace L2
open PySem PySem.Spec PyProof.Rows
/-- the tuple at a, the items in new pairs -/
def Itet (K : PySem.W.Frag) (a : Addr) : It :=
  ⟨fun i H => ∃ (xs : List V) (x : V), SqT K H a xs ∧ xs[i]? = some x,
   fun i H v H' => ∃ T x, v = .ref T ∧ H T = none ∧ H' = upd H T (.tup [.int (i : Nat), x]) ∧ ∀ xs, SqT K H a xs → xs[i]? = some x,
   fun i H => ∃ xs : List V, SqT K H a xs ∧ xs.length ≤ i⟩
theorem turn_enumTup {P : Program} {w : World} {K : PySem.W.Frag} {elts : List Expr} {kk : Nat} {tpos : Pos} (a e it : Addr) :
    Turn P w K (.Tuple elts kk tpos) (Itet K a) [e, it] e (fun i h => (∃ old, IsEnum h e it ((i : Nat) : Int) old) ∧ h.IsTupleIter it a i ∧ e ≠ it ∧ a ≠ it ∧ a ≠ e) where
  mem := by simp
  obj := fun i h st b hb => by
    obtain ⟨⟨old, he⟩, ⟨o, ho, hc, hd⟩, _⟩ := st
    rcases (show b = e ∨ b = it by simpa using hb) with z | z
    · rw [z]
      exact ⟨_, he, fun v q => nomatch q⟩
    · rw [z]
      exact ⟨o, ho, fun v q => by rw [hd] at q; cases q⟩
  keep := fun i h h' st k => by
    obtain ⟨⟨old, he⟩, hi, hne⟩ := st
    exact ⟨⟨old, k e (by simp) _ he⟩, hi.at (fun o q => k it (by simp) o q), hne⟩
  item := by
    intro X hP hw hK hc i pins s σ H E I hf st hg
    subst hP hw hK
    obtain ⟨⟨old, he⟩, hit, hne, hai, hae⟩ := st
    obtain ⟨xs, x, hq, hx⟩ := hg
    obtain ⟨its, rv, p, hz⟩ := I.tuple hq
    have p : s.heap.IsTuple a its.toArray := p
    obtain ⟨u, hu, ru⟩ := rv.get hx
    have hel : e < s.heap.objs.size := Heap.lt_size he
    have hil : it < s.heap.objs.size := by
      obtain ⟨_, q, _⟩ := hit
      exact Heap.lt_size q
    have il : i < its.toArray.size := by
      have := (List.getElem?_eq_some_iff.mp hu).1
      simpa using this
    have Dr := Draws.tuple (prog := X.prog) (w := X.w) (A := X.A.in1) (by have := I.ok.hd hc; exact this) it a hai its.toArray
    refine wpAny_pyNext_enum_itemD Dr he ⟨hit, p⟩ il hne (by simp [hne, Ne.symm hae]) fun y h' tk hy ho st' hT hsz hk => ?_
    have hyu : y = u := by
      have hy : its.toArray[i]? = some y := hy
      have q : its.toArray[i]? = some u := by simpa using hu
      rw [q] at hy
      exact (Option.some.inj hy).symm
    subst hyu
    refine ⟨_, rfl, ?_⟩
    refine wpAny_letOwnedTupleGo_enum (s := { s with heap := h', toks := tk + 1 }) ho fun h'' he' sb => ?_
    have hT2 : h''.get? s.heap.objs.size = some { cls := .type "tuple", data := .seq #[.int i tk, y] } := by
      rw [← hT]
      exact sb.2 _ (Nat.ne_of_gt hel)
    have new : ObjOk X.prog X.w (upd H s.heap.objs.size (.tup [.int (i : Nat), x])) h'' s.heap.objs.size (.tup [.int (i : Nat), x]) :=
      ⟨by show 2 ≤ sizeLine; decide, [.int i tk, y], .cons ⟨_, rfl⟩ (.cons ru .nil), ⟨_, hT2, rfl, _, rfl⟩⟩
    have I1 : Inv X pins σ (upd H s.heap.objs.size (.tup [.int (i : Nat), x])) { s with heap := h'', toks := tk + 1 } := by
      refine I.turnedNew (ch := [e, it]) (fun b ob hb q => ?_) hf (Nat.le_refl _) new
      have n1 : b ≠ e := fun z => hb (by simp [z])
      have n2 : b ≠ it := fun z => hb (by simp [z])
      exact (sb.2 b n1).trans (hk b ob n1 n2 q)
    refine ⟨.ref s.heap.objs.size, _, I1, rfl, ?_, ?_, ?_⟩
    · exact ⟨_, x, rfl, I.hok.fresh (Nat.le_refl _), rfl, fun ys hy => by rw [I.tuple_inj hy hq]; exact hx⟩
    · have e1 : ((i + 1 : Nat) : Int) = (i : Int) + 1 := by omega
      exact ⟨⟨y, by rw [e1]; exact he'⟩, st'.1.at fun o q => (sb.2 it (Ne.symm hne)).trans q, hne, hai, hae⟩
    · intro b hb
      have hb' : b < s.heap.objs.size := by
        rcases (show b = e ∨ b = it by simpa using hb) with z | z
        · rw [z]; exact hel
        · rw [z]; exact hil
      rw [upd_ne (Nat.ne_of_lt hb')]
      exact (hf b hb).1
  done := by
    intro X hP hw hK hc i pins s σ H E I hf st hg
    subst hP hw hK
    obtain ⟨⟨old, he⟩, hit, hne, _⟩ := st
    obtain ⟨xs, hq, hx⟩ := hg
    obtain ⟨its, rv, p, hz⟩ := I.tuple hq
    obtain ⟨f0, f1, f2, f3, f4, f5⟩ := hf it (by simp)
    have hl := rv.length
    refine next_enumTup (I.ok.hd hc) he hit (show s.heap.IsTuple a its.toArray from p) (by simp; omega) fun h' eb => ⟨rfl, ?_⟩
    exact I.turned (t' := s.toks) (fun b o hb q => eb b o hb q) f0 f1 f3 f4 f5
  self := fun A i s Q E st h => by
    obtain ⟨⟨_, he⟩, _⟩ := st
    exact wpAny_pyIter_enum he h
def iEnumT (K : PySem.W.Frag) (ta : TA) : TI := fun σ H R => ta σ H fun vs H1 => ∃ a xs, vs = [.ref a] ∧ SqT K H1 a xs ∧ R (Itet K a) H1
theorem pi_enumT {X : Cx} {e : Expr} {ta : TA} {p pos tpos : Pos} {elts : List Expr} {kk : Nat} (hg : Gl X "enumerate") (hm : X.mg "enumerate" = none) (ha : PA X [e] ta) (hs : starEach [e] X.env = [(false, eval e X.env)] := by rfl) :
    PI X (.Tuple elts kk tpos) (.Call (.Name "enumerate" p) [e] [] pos) (iEnumT X.K ta) := by
  refine ⟨fun pins s σ H R I h => ?_⟩
  refine Call_ (ld_blt I hg hm boot_enumerate ?_)
  refine PyProof.Rows.callWith_type1 (thn (ha.run pos pins s σ H _ I h) fun us s1 ⟨vs, H1, I1, r1, a, xs, ex, hq, q⟩ => ?_) hs rfl
  subst ex
  cases r1 with
  | cons r rr =>
    cases rr
    cases r
    obtain ⟨its, rv, p', hz⟩ := I1.tuple hq
    have p' : s1.heap.IsTuple a its.toArray := p'
    have al : a < s1.heap.objs.size := by
      obtain ⟨o, z, _⟩ := p'
      exact Heap.lt_size z
    refine call_enumOne (begins_tuple a its.toArray) p' fun h' he hit hsz hk => ?_
    refine wpAny_pyIter_enum he ?_
    refine ⟨s1.heap.objs.size + 1, [s1.heap.objs.size + 1, s1.heap.objs.size], _, _, H1, rfl, I1.kept (t' := s1.toks) hk, turn_enumTup a (s1.heap.objs.size + 1) s1.heap.objs.size, ?_, fun b hb => ?_, q⟩
    · exact ⟨⟨.none, he⟩, ⟨_, hit, rfl, rfl⟩, Nat.succ_ne_self _, Nat.ne_of_lt al, Nat.ne_of_lt (Nat.lt_succ_of_lt al)⟩
    · have hle : s1.heap.objs.size ≤ b := by
        rcases (show b = s1.heap.objs.size + 1 ∨ b = s1.heap.objs.size by simpa using hb) with z | z
        · rw [z]; exact Nat.le_add_right _ _
        · rw [z]; exact Nat.le_refl _
      exact I1.fpOk hle (I1.hok.fresh hle)
end L2

set_option Elab.async false
set_option linter.all false
set_option maxRecDepth 100000
set_option maxHeartbeats 4000000
/-! NvJ9: mirrors of enumerate over a tuple, of dict comprehensions with two names, of f-strings of two parts. -/
namespace Nv
open PySem L2 PyProof.Rows PySem.Spec
section
variable {W : Wd} {G H G1 H1 G2 H2 : Hp} {σ σ1 σ2 : L2.St} {env env1 env2 : List Sl} {A : Addr}
def enumGo : Nat → List D → List D
  | _, [] => []
  | n, d :: ds => .tup [.int (n : Nat), d] :: enumGo (n + 1) ds
theorem enum_len : ∀ (n : Nat) (ds : List D), (enumGo n ds).length = ds.length
  | _, [] => rfl
  | n, _ :: ds => congrArg Nat.succ (enum_len (n + 1) ds)
theorem enum_get : ∀ (n : Nat) (ds : List D) (i : Nat), (enumGo n ds)[i]? = ds[i]?.map fun d => D.tup [.int ((n + i : Nat) : Int), d]
  | _, [], _ => by simp [enumGo]
  | n, d :: ds, 0 => by simp [enumGo]
  | n, d :: ds, i + 1 => by
    have := enum_get (n + 1) ds i
    rw [show n + (i + 1) = n + 1 + i by omega]
    simpa [enumGo] using this
def tup1 : List D → Option (List D)
  | [.tup xs] => some xs
  | _ => none
theorem tup1_of {ds xs : List D} (h : tup1 ds = some xs) : ds = [.tup xs] := by
  unfold tup1 at h
  split at h
  · cases h
    rfl
  · cases h
theorem isw_enumT {a : Addr} {vs : List V} {ds : List D} (hs : SqT W.K G a vs) (r : RpAll W G vs ds) : IsW W (Itet W.K a) G (enumGo 0 ds) where
  go := fun i G' H' e e' h => by
    rw [enum_len] at h
    exact ⟨vs, vs[i]'(by rw [r.length]; exact h), Same.tup e' (Same.tup e hs), by simp [r.length, h]⟩
  stop := fun G' H' e e' => ⟨vs, Same.tup e' (Same.tup e hs), by rw [enum_len]; exact Nat.le_of_eq r.length⟩
  yld := fun i G' H' x H'' d e e' hd ⟨T, y, ex, hT, eH, hy⟩ => by
    rw [enum_get] at hd
    cases q : ds[i]? with
    | none => rw [q] at hd; cases hd
    | some d0 =>
      rw [q] at hd
      cases hd
      obtain ⟨v, h1, h2⟩ := r.get q
      have z := hy vs (Same.tup e' (Same.tup e hs))
      rw [h1] at z
      cases z
      subst ex eH
      have g := Gr.new (o := .tup [.int (i : Nat), y]) e' hT
      refine ⟨_, g, .tup (xs := [.int (i : Nat), y]) (.inl (.inl upd_same)) (.cons ?_ (.cons (h2.up (e.trans g.gg)) .nil))⟩
      rw [Nat.zero_add]
      exact .int _
def mEnumT (a : M (List D)) : M (List D) := fun e => (a e).bind fun p => (tup1 p.1).bind fun xs => some (enumGo 0 xs, p.2)
theorem si_enumT {ta : TA} {ma : M (List D)} (ha : SimA W ta ma) : SimI W (iEnumT W.K ta) (mEnumT ma) := fun env R d e1 hm hr => by
  obtain ⟨x, e2, h1, hm⟩ := bind_of hm
  obtain ⟨z, h3, hm⟩ := bind_of' hm
  cases hm
  have hx : x = [.tup z] := tup1_of h3
  intro G H σ S Q q
  refine ha _ (fun ds e => ds = x ∧ e = e2) _ _ h1 ⟨rfl, rfl⟩ G H σ S _ fun vs ds G1 H1 e1' S1 T1 r ⟨z1, z2⟩ => ?_
  rw [hx] at z1
  rw [z1] at r
  rw [z2] at S1 T1
  cases r with
  | cons r0 rr =>
    cases rr
    obtain ⟨a, xs, rfl, hs, ra⟩ := r0.tup_inv
    exact ⟨a, xs, rfl, Same.tup S1.gh hs, q _ _ G1 H1 _ S1 T1 (isw_enumT hs ra) hr⟩

/-! ### {k: v for a, b in ..} -/
structure AtM (W : Wd) (G H : Hp) (σ : L2.St) (env : List Sl) (A : Addr) (kvs : List (Key × D)) : Prop where
  ex : ∃ vs, H A = some (.dK vs) ∧ vs.map (·.1) = kvs.map (·.1) ∧ RpAll W G (vs.map (·.2)) (kvs.map (·.2))
  g : G A = none
  o : ¬ own σ env A
theorem AtM.step {kvs : List (Key × D)} (h : AtM W G H σ env A kvs) (T : Tr σ env G H σ env1 G1 H1) : AtM W G1 H1 σ env1 A kvs := by
  obtain ⟨⟨av, a1, a0, a2⟩, a3, a4⟩ := h
  refine ⟨⟨av, T.fr A _ a4 a1, a0, a2.up T.gg⟩, T.nw A a4 (by rw [a1]; exact fun z => nomatch z) a3, fun z => ?_⟩
  rcases T.ow A z with y | y
  · exact a4 y
  · rw [a1] at y
    cases y
def twoD : D → Option (D × D)
  | .tup [a, b] => some (a, b)
  | _ => none
theorem two_of {d : D} {p : D × D} (h : twoD d = some p) : d = .tup [p.1, p.2] := by
  unfold twoD at h
  split at h
  · cases h
    rfl
  · cases h
def dcGo (i j : Nat) (t : M Bool) (mk mv : M D) : List D → List (Key × D) → M (List (Key × D))
  | [], acc, e => some (acc, e)
  | d :: ds, acc, e => (twoD d).bind fun w => (t ((e.set i (.d w.1)).set j (.d w.2))).bind fun b =>
    if b.1 = true then (mk b.2).bind fun p => (mv p.2).bind fun q => (keyD p.1).bind fun k => if acc.length < sizeLine ∧ allNo [i, j] ((q.2.set i .no).set j .no) = true then dcGo i j t mk mv ds (putD acc k q.1) ((q.2.set i .no).set j .no) else none
    else if allNo [i, j] ((b.2.set i .no).set j .no) = true then dcGo i j t mk mv ds acc ((b.2.set i .no).set j .no) else none
def mDc (it : M (List D)) (t : M Bool) (mk mv : M D) (i j : Nat) : M D := fun e => (it e).bind fun p => if allNo [i, j] p.2 = true then (dcGo i j t mk mv p.1 [] p.2).bind fun r => some (.dct r.1, r.2) else none
theorem se_dc {wi : TI} {mi : M (List D)} {tt : TT} {mt : M Bool} {tk tv : TE} {mk mv : M D} {i j : Nat} (hi : SimI W wi mi) (ht : SimT W tt mt) (hk : SimE W tk mk) (hv : SimE W tv mv) :
    SimE W (tDc wi (gTup W.K 2 (gCons (gName i) (gCons (gName j) gNil))) tt tk tv [i, j]) (mDc mi mt mk mv i j) := fun env R d e1 hm hr => by
  obtain ⟨ds, e2, h1, hm⟩ := bind_of hm
  split at hm
  · rename_i hz
    obtain ⟨r, ef, h2, hm⟩ := bind_of hm
    cases hm
    intro G H σ S Q q
    refine hi _ (fun ds' e' => ds' = ds ∧ e' = e2) _ _ h1 ⟨rfl, rfl⟩ G H σ S _ fun J ds1 G1 H1 e1 S1 T1 hw ⟨y1, y2⟩ => ?_
    subst y1 y2
    intro A hA
    have nA : ¬ own σ e1 A := fun z => by
      obtain ⟨_, o, ho⟩ := S1.own_at z
      rw [hA] at ho
      cases ho
    have gA : G1 A = none := S1.gh.free hA
    have h0 : H A = none := by
      cases z : H A with
      | none => rfl
      | some o => exact absurd hA (T1.kp A (by rw [z]; exact fun y => nomatch y))
    have S2 : St W G1 (upd H1 A (.dK [])) σ e1 := S1.mut gA nA
    let I : Nat → Hp → Prop := fun n H2 => n ≤ ds1.length ∧ ∃ G2 e2 acc, St W G2 H2 σ e2 ∧ Tr σ e1 G1 H1 σ e2 G2 (Nv.del A H2) ∧ allNo [i, j] e2 = true ∧ AtM W G2 H2 σ e2 A acc ∧ dcGo i j mt mk mv (ds1.drop n) acc e2 = some (r, ef)
    refine ⟨fun n m H2 => m = ds1.length - n ∧ I n H2, ⟨ds1.length, by simp, Nat.zero_le _, G1, e1, [], S2, ?_, hz, ⟨⟨[], upd_same, rfl, .nil⟩, gA, nA⟩, h2⟩, ?_⟩
    · rw [del_upd, del_off hA]
      exact Tr.refl S1
    rintro n m H2 ⟨rfl, hn, G2, e2, acc2, S2, T2, hv2, hA2, k2⟩
    have hv2 := allNo_of hv2
    by_cases hlt : n < ds1.length
    · refine .inr ⟨hw.go n G2 H2 T2.gg S2.gh hlt, I (n + 1), fun H3 z => ⟨ds1.length - (n + 1), by omega, rfl, z⟩, fun x H3 y => ?_⟩
      obtain ⟨G3, g3, r3⟩ := hw.yld n G2 H2 x H3 ds1[n] T2.gg S2.gh (by simp [hlt]) y
      have e : ds1.drop n = ds1[n] :: ds1.drop (n + 1) := by simp [hlt]
      rw [e] at k2
      obtain ⟨w, hw2, k2⟩ := bind_of' k2
      rw [two_of hw2] at r3
      obtain ⟨b, e4, ht4, k2⟩ := bind_of k2
      obtain ⟨ax, xs, rfl, hsq, ra⟩ := r3.tup_inv
      cases ra with
      | @cons v1 _ _ _ r1 rr =>
      cases rr with
      | @cons v2 _ _ _ r2 rr =>
      cases rr
      have out : ∀ m, m ∉ [i, j] → (wipe σ [i, j])[m]? = σ[m]? := fun m h => wipe_out h
      let σ2 : L2.St := ((wipe σ [i, j]).set i (some v1)).set j (some v2)
      have outx : ∀ m, m ∉ [i, j] → σ2[m]? = σ[m]? := fun m h => by
        show (((wipe σ [i, j]).set i (some v1)).set j (some v2))[m]? = _
        rw [List.getElem?_set_ne (fun z : j = m => h (by simp [z])), List.getElem?_set_ne (fun z : i = m => h (by simp [z])), out m h]
      have len2 : σ2.length = σ.length := by
        show (((wipe σ [i, j]).set i (some v1)).set j (some v2)).length = _
        rw [List.length_set, List.length_set, wipe_length]
      have wp2 : wipe σ2 [i, j] = wipe σ [i, j] := by
        apply List.ext_getElem?
        intro m
        by_cases h : m ∈ [i, j]
        · rw [wipe_in h, wipe_in h, len2]
        · rw [wipe_out h, wipe_out h, outx m h]
      refine ⟨ax, [v1, v2], rfl, Same.tup g3.gh hsq, rfl, v1, [v2], rfl, v2, [], rfl, rfl, wp2, ?_⟩
      show tt σ2 H3 _
      have S3 : St W G3 H3 σ e2 := S2.up g3
      have S4 : St W G3 H3 σ2 ((e2.set i (.d w.1)).set j (.d w.2)) := ((St.free hv2 (wipe_length σ [i, j]) out S3).set r1).set r2
      have down : ∀ b, own σ2 ((e2.set i (.d w.1)).set j (.d w.2)) b → own σ e2 b := fun b z => own_free hv2 out (own_set (own_set z))
      have hA4 : AtM W G3 H3 σ2 ((e2.set i (.d w.1)).set j (.d w.2)) A acc2 := by
        obtain ⟨⟨av, a1, a0, a2⟩, a3, a4⟩ := hA2
        exact ⟨⟨av, g3.hh _ _ a1, a0, a2.up g3.gg⟩, g3.nw A (by rw [a1]; exact fun z => nomatch z) a3, fun z => a4 (down A z)⟩
      -- what a turn leaves
      have back : ∀ {G5 H5 : Hp} {e5 : List Sl} {acc5 : List (Key × D)}, St W G5 H5 σ2 e5 → Tr σ2 ((e2.set i (.d w.1)).set j (.d w.2)) G3 (Nv.del A H3) σ2 e5 G5 (Nv.del A H5) → AtM W G5 H5 σ2 e5 A acc5 → allNo [i, j] ((e5.set i .no).set j .no) = true →
          dcGo i j mt mk mv (ds1.drop (n + 1)) acc5 ((e5.set i .no).set j .no) = some (r, ef) → I (n + 1) H5 := fun {G5 H5 e5 acc5} S5 T5 hA5 hv5 k5 => by
        have hv5' := allNo_of hv5
        have lower : ∀ b, own σ ((e5.set i .no).set j .no) b → own σ2 e5 b := fun b z => own_drop (own_drop (own_free (σ1 := σ) (σ := σ2) hv5' (fun m h => (outx m h).symm) z))
        refine ⟨hlt, G5, _, acc5, St.free hv5' len2.symm (fun m h => (outx m h).symm) ((S5.drop i).drop j), (T2.trans' (Tr.up S2 g3).del).trans' ⟨T5.gg, fun b o n h => T5.fr b o (fun z => n (down b z)) h, fun b m => T5.nw b fun z => m (down b z), fun b z => (T5.ow b (lower b z)).imp (down b) id, T5.kp, fun m s es h => ?_⟩, hv5, ⟨hA5.ex, hA5.g, fun z => hA5.o (lower A z)⟩, k5⟩
        have nm : m ∉ [i, j] := fun z => by
          rw [hv2 m z] at es
          cases es
          cases h
        have ni : i ≠ m := fun z => nm (by simp [z])
        have nj : j ≠ m := fun z => nm (by simp [z])
        obtain ⟨_, s', e', h'⟩ := T5.pn m s (by rw [List.getElem?_set_ne nj, List.getElem?_set_ne ni]; exact es) h
        exact ⟨rfl, s', by rw [List.getElem?_set_ne nj, List.getElem?_set_ne ni]; exact e', h'⟩
      refine ht _ (fun b' e' => b' = b ∧ e' = e4) _ _ ht4 ⟨rfl, rfl⟩ G3 H3 σ2 S4 _ fun bb G4 H4 e4' S5 T5 ⟨y1, y2⟩ => ?_
      subst y1 y2
      cases bb with
      | false =>
        split at k2
        · rename_i q2
          cases q2
        split at k2
        · rename_i hz2
          exact back S5 T5.del (hA4.step T5) hz2 k2
        · cases k2
      | true =>
        split at k2
        · obtain ⟨p, e5, hk5, k2⟩ := bind_of k2
          obtain ⟨z, e6, hv6, k2⟩ := bind_of k2
          obtain ⟨k, hkey, k3⟩ := bind_of' k2
          have k3 : (if acc2.length < sizeLine ∧ allNo [i, j] ((e6.set i .no).set j .no) = true then dcGo i j mt mk mv (ds1.drop (n + 1)) (putD acc2 k z) ((e6.set i .no).set j .no) else none) = some (r, ef) := k3
          clear k2
          split at k3
          · rename_i hz2
            show tk σ2 H4 _
            refine hk _ (fun b' e' => b' = p ∧ e' = e5) _ _ hk5 ⟨rfl, rfl⟩ G4 H4 σ2 S5 _ fun y dy G5 H5 e5' S6 T6 ry ⟨y1, y2⟩ => ?_
            subst y1 y2
            refine hv _ (fun b' e' => b' = z ∧ e' = e6) _ _ hv6 ⟨rfl, rfl⟩ G5 H5 σ2 S6 _ fun u du G6 H6 e6' S7 T7 ru ⟨y3, y4⟩ => ?_
            subst y3 y4
            have T8 := (T5.trans' T6).trans' T7
            have hA7 := hA4.step T8
            obtain ⟨⟨av, a1, a0, a2⟩, a3, a4⟩ := hA7
            obtain ⟨p1, p2⟩ := put_of (k := k) ru a0 a2
            have lv : av.length = acc2.length := by
              have := congrArg List.length a0
              simpa using this
            refine ⟨av, k, key_of ry hkey, a1, by rw [lv]; exact hz2.1, ?_⟩
            refine back (S7.mut a3 a4) ?_ ⟨⟨_, upd_same, p1, p2⟩, a3, a4⟩ hz2.2 k3
            rw [del_upd]
            exact T8.del
          · cases k3
        · rename_i q2
          exact absurd rfl q2
    · have e : n = ds1.length := by omega
      subst e
      rw [List.drop_length] at k2
      have k2 : some (acc2, e2) = some (r, ef) := k2
      have ke : acc2 = r := congrArg Prod.fst (Option.some.inj k2)
      have kf : e2 = ef := congrArg Prod.snd (Option.some.inj k2)
      subst ke kf
      obtain ⟨⟨av, a1, a0, a2⟩, a3, a4⟩ := hA2
      have T4 : Tr σ e1 G1 H1 σ e2 G2 H2 := by
        have := T2.late (o := .dK av) hA
        rw [upd_del a1] at this
        exact this
      have gg : Same G2 (upd G2 A (.dK av)) := fun b u z => by
        rw [upd_ne (ne_of_none z a3)]
        exact z
      exact .inl ⟨hw.stop G2 H2 T2.gg S2.gh, q (.ref A) _ (upd G2 A (.dK av)) H2 e2 (S2.freeze a1 a3 a4) ((T1.trans S T4).told S h0) (.dct (.inl upd_same) a0 (a2.up gg)) hr⟩
  · cases hm
end
end Nv

set_option Elab.async false
set_option linter.all false
set_option maxRecDepth 100000
set_option maxHeartbeats 4000000
/-! NvJa: mirrors of f-strings. -/
namespace Nv
open PySem L2 PyProof.Rows PySem.Spec
section
variable {W : Wd}
def fmtI (i : Int) : Str := toString i
def fmtD : D → Option Str
  | .str y => if y.length ≤ sizeLine then some y else none
  | .int i => if i.natAbs.log2 < 1920 then some (fmtI i) else none
  | _ => none
theorem fmt_of {d : D} {y : Str} (h : fmtD d = some y) : (d = .str y ∧ y.length ≤ sizeLine) ∨ ∃ i, d = .int i ∧ i.natAbs.log2 < 1920 ∧ y = fmtI i := by
  cases d <;> first | (cases h; done) | skip
  · simp only [fmtD] at h
    split at h
    · rename_i hz
      cases h
      exact .inr ⟨_, rfl, hz, rfl⟩
    · cases h
  · simp only [fmtD] at h
    split at h
    · rename_i hz
      cases h
      exact .inl ⟨rfl, hz⟩
    · cases h
def mFmt (a : M D) : M D := fun e => (a e).bind fun p => (fmtD p.1).bind fun y => some (.str y, p.2)
theorem se_fmt {te : TE} {me : M D} (ha : SimE W te me) : SimE W (tFmt te) (mFmt me) := fun env R d e1 hm hr => by
  obtain ⟨x, e2, h1, hm⟩ := bind_of hm
  obtain ⟨y, h2, hm⟩ := bind_of' hm
  cases hm
  have h2 : fmtD x = some y := h2
  intro G H σ S Q q
  refine ha _ (fun x' e' => x' = x ∧ e' = e2) _ _ h1 ⟨rfl, rfl⟩ G H σ S _ fun v dv G1 H1 e1' S1 T1 r ⟨z1, z2⟩ => ?_
  subst z1 z2
  rcases fmt_of h2 with ⟨k1, hz⟩ | ⟨i, k1, hz, k2⟩
  · subst k1
    exact .inl ⟨_, r.str_inv, hz, q _ _ _ _ _ S1 T1 (.str _) hr⟩
  · subst k1 k2
    exact .inr ⟨_, r.int_inv, hz, q _ _ _ _ _ S1 T1 (.str _) hr⟩
inductive SJ (W : Wd) : List TE → List (M D) → Prop
  | nil : SJ W [] []
  | cons {t : TE} {m : M D} {ts : List TE} {ms : List (M D)} (h : SimE W t m) (k : SJ W ts ms) : SJ W (t :: ts) (m :: ms)
def mJs : List (M D) → Str → M Str
  | [], acc, e => some (acc, e)
  | m :: ms, acc, e => (m e).bind fun p => (isStr p.1).bind fun y => if (acc ++ y).length ≤ sizeLine then mJs ms (acc ++ y) p.2 else none
theorem js_run {ts : List TE} {ms : List (M D)} (h : SJ W ts ms) : ∀ (acc : Str) (env : Env) (out : Str) (e1 : Env), mJs ms acc env = some (out, e1) → ∀ (G H : Hp) (σ : L2.St), St W G H σ env → ∀ Q : Str → Hp → Prop,
    (∀ G' H', St W G' H' σ e1 → Tr σ env G H σ e1 G' H' → Q out H') → tJs ts acc σ H Q := by
  induction h with
  | nil =>
    intro acc env out e1 hm G H σ S Q q
    cases hm
    exact q G H S (Tr.refl S)
  | cons h k ih =>
    intro acc env out e1 hm G H σ S Q q
    obtain ⟨x, e2, h1, hm⟩ := bind_of hm
    obtain ⟨y, h2, hm⟩ := bind_of' hm
    split at hm
    · rename_i hz
      refine h _ (fun x' e' => x' = x ∧ e' = e2) _ _ h1 ⟨rfl, rfl⟩ G H σ S _ fun v dv G1 H1 e1' S1 T1 r ⟨z1, z2⟩ => ?_
      subst z1 z2
      have k1 : dv = .str y := isStr_of h2
      subst k1
      exact ⟨y, r.str_inv, hz, ih _ _ _ _ hm G1 H1 σ S1 Q fun G' H' S' T' => q G' H' S' (T1.trans S T')⟩
    · cases hm
def mJ (ms : List (M D)) : M D := fun e => (mJs ms Str.empty e).bind fun p => some (.str p.1, p.2)
theorem se_js {ts : List TE} {ms : List (M D)} (h : SJ W ts ms) : SimE W (fun σ H Q => tJs ts Str.empty σ H fun out H1 => Q (.str out) H1) (mJ ms) := fun env R d e1 hm hr => by
  obtain ⟨x, e2, h1, hm⟩ := bind_of hm
  cases hm
  intro G H σ S Q q
  exact js_run h _ _ _ _ h1 G H σ S _ fun G' H' S' T' => q _ _ G' H' _ S' T' (.str _) hr
end
end Nv
namespace Nv
open PySem L2 PyProof.Rows PySem.Spec
theorem ka_enumT {X : Cx} {K : PySem.W.Frag} (hK : X.K = K) {e : Expr} {ta : TA} {p pos tpos : Pos} {elts : List Expr} {kk : Nat} (hg : Gl X "enumerate") (hm : X.mg "enumerate" = none) (ha : PA X [e] ta) (hs : starEach [e] X.env = [(false, eval e X.env)] := by rfl) :
    PI X (.Tuple elts kk tpos) (.Call (.Name "enumerate" p) [e] [] pos) (iEnumT K ta) := by
  subst hK
  exact pi_enumT hg hm ha hs
end Nv
namespace Nv
open PySem L2 PyProof.Rows PySem.Spec
theorem ka_gtup {X : Cx} {K : PySem.W.Frag} (hK : X.K = K) {es : List Expr} {k : Nat} {pos : Pos} {t : TGs} {n : Nat} (hc : X.calm = true) (h : PGs X es t) (hn : (assignEach es X.env).length = n := by rfl) (hst : (assignEach es X.env).findIdx? (·.1) = none := by rfl) :
    PG X (.Tuple es k pos) (gTup K n t) := hK ▸ pg_tup hc h hn hst
end Nv

set_option Elab.async false
set_option linter.all false
set_option maxRecDepth 100000
set_option maxHeartbeats 1000000
/-! NvHb: forwards: own lists that are popped, extended, cut; dicts; stars; enumerate; f-strings. -/
namespace Nv
open PySem L2 PyProof.Rows PySem.Spec
section
variable {i j : Nat} {e : Env} {a b c mk mv : M D} {t : M Bool} {r it : M (List D)} {Q : D → Env → Prop} {R : Out → Env → Prop}
theorem wp_pop {s : Sl} {xs : List D} {d : D} (h0 : e[i]? = some s) (h1 : s.list = some (xs ++ [d])) (k : Q d (e.set i (s.listTo xs))) : Wp (mPop i) e Q := by
  refine ⟨d, _, ?_, k⟩
  unfold mPop
  rw [h0]
  show (s.list).bind _ = _
  rw [h1]
  show ((xs ++ [d])[(xs ++ [d]).length - 1]?).bind _ = _
  rw [show (xs ++ [d])[(xs ++ [d]).length - 1]? = some d by simp]
  show some (d, e.set i (s.listTo (xs ++ [d]).dropLast)) = _
  rw [List.dropLast_concat]
theorem isL_mk {s : Sl} {xs : List D} (h : e[i]? = some s) (h1 : s.list = some xs) : isL i e = some xs := by
  unfold isL
  rw [h]
  exact h1
theorem wp_ext {s0 : Sl} {k0 : List D} (h0 : e[i]? = some s0) (h0' : s0.list = some k0) (h : Wp a e fun x e1 => ∃ ys s xs, seqOf [x] = some ys ∧ e1[i]? = some s ∧ s.list = some xs ∧ xs.length + ys.length ≤ sizeLine ∧ R .nx (e1.set i (s.listTo (xs ++ ys)))) : Wp (mExt i a) e R := by
  obtain ⟨x, e1, h1, ys, s, xs, h2, h3, h4, h5, k⟩ := h
  refine ⟨.nx, _, ?_, k⟩
  unfold mExt
  rw [isL_mk h0 h0']
  show (a e).bind _ = _
  rw [h1]
  show (seqOf [x]).bind _ = _
  rw [h2]
  show (e1[i]?).bind _ = _
  rw [h3]
  show (s.list).bind _ = _
  rw [h4]
  exact if_pos h5
theorem wp_lsl {lo hi : M (Option Int)} {s0 : Sl} {k0 : List D} (h0 : e[i]? = some s0) (h0' : s0.list = some k0) (h : Wp lo e fun l e1 => Wp hi e1 fun u e2 => ∃ s xs, e2[i]? = some s ∧ s.list = some xs ∧ Q (.lst (cut xs l u)) e2) : Wp (mLSl i lo hi) e Q := by
  obtain ⟨l, e1, h1, u, e2, h2, s, xs, h3, h4, k⟩ := h
  refine ⟨_, e2, ?_, k⟩
  unfold mLSl
  rw [isL_mk h0 h0']
  show (lo e).bind _ = _
  rw [h1]
  show (hi e1).bind _ = _
  rw [h2]
  show (isL i e2).bind _ = _
  rw [isL_mk h3 h4]
  rfl
theorem wp_delSl {s0 : Sl} {k0 : List D} (h0 : e[i]? = some s0) (h0' : s0.list = some k0) (h : Wp a e fun x e1 => ∃ k s xs, x = .int k ∧ e1[i]? = some s ∧ s.list = some xs ∧ (0 ≤ k ∧ k ≤ xs.length) ∧ R .nx (e1.set i (s.listTo (xs.take k.toNat)))) : Wp (mDelSl i a) e R := by
  obtain ⟨x, e1, h1, k, s, xs, rfl, h3, h4, h5, kk⟩ := h
  refine ⟨.nx, _, ?_, kk⟩
  unfold mDelSl
  rw [isL_mk h0 h0']
  show (a e).bind _ = _
  rw [h1]
  show (e1[i]?).bind _ = _
  rw [h3]
  show (s.list).bind _ = _
  rw [h4]
  exact if_pos h5
theorem wp_ownD (hf : freeB e j = true) (k : R .nx (e.set j (.od []))) : Wp (mOwnD j) e R := ⟨.nx, _, if_pos hf, k⟩
theorem wp_dputk (h : Wp a e fun x e1 => (∃ s kvs, e1[i]? = some s ∧ s.dict = some kvs) ∧ Wp b e1 fun y e2 => ∃ k s kvs, keyD y = some k ∧ e2[i]? = some s ∧ s.dict = some kvs ∧ kvs.length < sizeLine ∧ R .nx (e2.set i (s.dictTo (putD kvs k x)))) : Wp (mDPutK i b a) e R := by
  obtain ⟨x, e1, h1, ⟨s0, kv0, g1, g2⟩, y, e2, h2, k, s, kvs, h3, h4, h5, h6, kk⟩ := h
  refine ⟨.nx, _, ?_, kk⟩
  unfold mDPutK
  rw [h1]
  show (isOD i e1).bind _ = _
  unfold isOD
  rw [g1]
  show (s0.dict.bind _) = _
  rw [g2]
  show (b e1).bind _ = _
  rw [h2]
  show (keyD y).bind _ = _
  rw [h3]
  show (e2[i]?).bind _ = _
  rw [h4]
  show (s.dict).bind _ = _
  rw [h5]
  exact if_pos h6
theorem wp_dix (h : Wp a e fun x e1 => ∃ kvs, x = .dct kvs ∧ Wp b e1 fun y e2 => ∃ k d, keyD y = some k ∧ valD kvs k = some d ∧ Q d e2) : Wp (mDIx a b) e Q := by
  obtain ⟨x, e1, h1, kvs, rfl, y, e2, h2, k, d, h3, h4, kk⟩ := h
  refine ⟨d, e2, ?_, kk⟩
  unfold mDIx
  rw [h1]
  show (b e1).bind _ = _
  rw [h2]
  show (keyD y).bind _ = _
  rw [h3]
  show (valD kvs k).bind _ = _
  rw [h4]
  rfl
theorem wp_dget2 (h : Wp a e fun x e1 => ∃ kvs, x = .dct kvs ∧ Wp b e1 fun y e2 => ∃ k, keyD y = some k ∧ Wp c e2 fun z e3 => Q ((valD kvs k).getD z) e3) : Wp (mDGet2 a b c) e Q := by
  obtain ⟨x, e1, h1, kvs, rfl, y, e2, h2, k, h3, z, e3, h4, kk⟩ := h
  refine ⟨_, e3, ?_, kk⟩
  unfold mDGet2
  rw [h1]
  show (b e1).bind _ = _
  rw [h2]
  show (keyD y).bind _ = _
  rw [h3]
  show (c e2).bind _ = _
  rw [h4]
  rfl
theorem wp_star {Q : List D → Env → Prop} (h : Wp a e fun x e1 => ∃ xs, seqOf [x] = some xs ∧ Wp r e1 fun ys e2 => Q (xs ++ ys) e2) : Wp (mStar a r) e Q := by
  obtain ⟨x, e1, h1, xs, h2, ys, e2, h3, k⟩ := h
  refine ⟨_, e2, ?_, k⟩
  unfold mStar
  rw [h1]
  show (seqOf [x]).bind _ = _
  rw [h2]
  show (r e1).bind _ = _
  rw [h3]
  rfl
theorem wp_listX {Q : List D → Env → Prop} (h : Wp r e fun xs e1 => ∃ ys, seqOfX xs = some ys ∧ Q ys e1) : Wp (mListX r) e Q := by
  obtain ⟨x, e1, h1, ys, h2, k⟩ := h
  exact ⟨ys, e1, by unfold mListX; rw [h1]; show (seqOfX x).bind _ = _; rw [h2]; rfl, k⟩
theorem wp_reprL (h : Wp r e fun xs e1 => rokL xs = true ∧ Q (.str (D.lst xs).py.shown) e1) : Wp (mReprL r) e Q := by
  obtain ⟨x, e1, h1, h2, k⟩ := h
  exact ⟨_, e1, by unfold mReprL; rw [h1]; exact if_pos h2, k⟩
theorem wp_enumT {Q : List D → Env → Prop} (h : Wp r e fun xs e1 => ∃ ys, xs = [.tup ys] ∧ Q (enumGo 0 ys) e1) : Wp (mEnumT r) e Q := by
  obtain ⟨x, e1, h1, ys, rfl, k⟩ := h
  exact ⟨_, e1, by unfold mEnumT; rw [h1]; rfl, k⟩
theorem wp_while {n : Nat} {m1 : MS} (h : Wp (whGo t m1 n) e R) : Wp (mWhile n t m1) e R := h
end
end Nv

set_option Elab.async false
set_option linter.all false
set_option maxRecDepth 100000
set_option maxHeartbeats 4000000
namespace Nv
open PySem L2 PyProof.Rows PySem.Spec
def top (i : Nat) : Stmt := PySem.Challenge.pw_nevermet_k05_filled_and_renamed.main.body.getD i (.Pass ⟨0, 0, 0, 0⟩)
abbrev s_walk : Stmt := top 1
abbrev N_walk : List Str := ["terms", "found", "waiting", "term"]
theorem sc_walk : FnScope N_walk ["terms"] (defScope s_walk) := ⟨rfl, rfl, rfl, by decide +kernel, rfl, by decide +kernel, by decide +kernel⟩
abbrev s_variables_in : Stmt := top 2
abbrev N_variables_in : List Str := ["terms", "found", "piece"]
theorem sc_variables_in : FnScope N_variables_in ["terms"] (defScope s_variables_in) := ⟨rfl, rfl, rfl, by decide +kernel, rfl, by decide +kernel, by decide +kernel⟩
abbrev s_filled : Stmt := top 3
abbrev N_filled : List Str := ["term", "fill", "held", "piece", "many", "parts"]
theorem sc_filled : FnScope N_filled ["term", "fill"] (defScope s_filled) := ⟨rfl, rfl, rfl, by decide +kernel, rfl, by decide +kernel, by decide +kernel⟩
abbrev s_filled_all : Stmt := top 4
abbrev N_filled_all : List Str := ["terms", "fill", "term"]
theorem sc_filled_all : FnScope N_filled_all ["terms", "fill"] (defScope s_filled_all) := ⟨rfl, rfl, rfl, by decide +kernel, rfl, by decide +kernel, by decide +kernel⟩
abbrev s_renamed : Stmt := top 5
abbrev N_renamed : List Str := ["terms", "at", "name"]
theorem sc_renamed : FnScope N_renamed ["terms"] (defScope s_renamed) := ⟨rfl, rfl, rfl, by decide +kernel, rfl, by decide +kernel, by decide +kernel⟩
abbrev s__law_pen : Stmt := top 7
abbrev N__law_pen : List Str := ["_law_script"]
theorem sc__law_pen : FnScope N__law_pen ["_law_script"] (defScope s__law_pen) := ⟨rfl, rfl, rfl, by decide +kernel, rfl, by decide +kernel, by decide +kernel⟩
abbrev s__law_draw : Stmt := top 8
abbrev N__law_draw : List Str := ["_law_pen_here", "_law_many", "_law_digit", "_law_at", "_law_cell", "_law_great", "_law_mixed"]
theorem sc__law_draw : FnScope N__law_draw ["_law_pen_here", "_law_many"] (defScope s__law_draw) := ⟨rfl, rfl, rfl, by decide +kernel, rfl, by decide +kernel, by decide +kernel⟩
abbrev s__law_names : Stmt := top 9
abbrev N__law_names : List Str := ["_law_pen_here", "_law_many", "_law_letters_here", "_law_way", "_law_begin", "_law_found", "_law_k", "_law_sign", "_law_tail", "_law_name", "_law_j"]
theorem sc__law_names : FnScope N__law_names ["_law_pen_here", "_law_many"] (defScope s__law_names) := ⟨rfl, rfl, rfl, by decide +kernel, rfl, by decide +kernel, by decide +kernel⟩
abbrev s__law_words : Stmt := top 10
abbrev N__law_words : List Str := ["_law_pen_here", "_law_names_here", "_law_found", "_law_k"]
theorem sc__law_words : FnScope N__law_words ["_law_pen_here"] (defScope s__law_words) := ⟨rfl, rfl, rfl, by decide +kernel, rfl, by decide +kernel, by decide +kernel⟩
abbrev s__law_letters : Stmt := top 11
abbrev N__law_letters : List Str := ["_law_pen_here", "_law_way", "_law_begin", "_law_signs", "_law_k"]
theorem sc__law_letters : FnScope N__law_letters ["_law_pen_here"] (defScope s__law_letters) := ⟨rfl, rfl, rfl, by decide +kernel, rfl, by decide +kernel, by decide +kernel⟩
abbrev s__law_term : Stmt := top 12
abbrev N__law_term : List Str := ["_law_pen_here", "_law_lexicon", "_law_letters_here", "_law_deep", "_law_purse", "_law_way", "_law_found", "_law_k"]
theorem sc__law_term : FnScope N__law_term ["_law_pen_here", "_law_lexicon", "_law_letters_here", "_law_deep", "_law_purse"] (defScope s__law_term) := ⟨rfl, rfl, rfl, by decide +kernel, rfl, by decide +kernel, by decide +kernel⟩
abbrev s__law_full : Stmt := top 13
abbrev N__law_full : List Str := ["_law_pen_here", "_law_lexicon", "_law_letters_here", "_law_deep", "_law_parts", "_law_k"]
theorem sc__law_full : FnScope N__law_full ["_law_pen_here", "_law_lexicon", "_law_letters_here", "_law_deep"] (defScope s__law_full) := ⟨rfl, rfl, rfl, by decide +kernel, rfl, by decide +kernel, by decide +kernel⟩
abbrev s__law_pieces : Stmt := top 15
abbrev N__law_pieces : List Str := ["_law_tree", "_law_found", "_law_part"]
theorem sc__law_pieces : FnScope N__law_pieces ["_law_tree"] (defScope s__law_pieces) := ⟨rfl, rfl, rfl, by decide +kernel, rfl, by decide +kernel, by decide +kernel⟩
abbrev s__law_variables : Stmt := top 16
abbrev N__law_variables : List Str := ["_law_trees", "_law_found", "_law_tree", "_law_piece"]
theorem sc__law_variables : FnScope N__law_variables ["_law_trees"] (defScope s__law_variables) := ⟨rfl, rfl, rfl, by decide +kernel, rfl, by decide +kernel, by decide +kernel⟩
abbrev s__law_filled : Stmt := top 17
abbrev N__law_filled : List Str := ["_law_tree", "_law_swap_here", "_law_part"]
theorem sc__law_filled : FnScope N__law_filled ["_law_tree", "_law_swap_here"] (defScope s__law_filled) := ⟨rfl, rfl, rfl, by decide +kernel, rfl, by decide +kernel, by decide +kernel⟩
abbrev s__law_all_filled : Stmt := top 18
abbrev N__law_all_filled : List Str := ["_law_trees", "_law_swap_here", "_law_tree"]
theorem sc__law_all_filled : FnScope N__law_all_filled ["_law_trees", "_law_swap_here"] (defScope s__law_all_filled) := ⟨rfl, rfl, rfl, by decide +kernel, rfl, by decide +kernel, by decide +kernel⟩
abbrev s__law_renamed : Stmt := top 19
abbrev N__law_renamed : List Str := ["_law_trees", "_law_names_here", "_law_k"]
theorem sc__law_renamed : FnScope N__law_renamed ["_law_trees"] (defScope s__law_renamed) := ⟨rfl, rfl, rfl, by decide +kernel, rfl, by decide +kernel, by decide +kernel⟩
abbrev s__law_swap : Stmt := top 20
abbrev N__law_swap : List Str := ["_law_pen_here", "_law_lexicon", "_law_letters_here", "_law_way", "_law_found", "_law_k"]
theorem sc__law_swap : FnScope N__law_swap ["_law_pen_here", "_law_lexicon", "_law_letters_here"] (defScope s__law_swap) := ⟨rfl, rfl, rfl, by decide +kernel, rfl, by decide +kernel, by decide +kernel⟩
abbrev s__law_wood : Stmt := top 21
abbrev N__law_wood : List Str := ["_law_deep", "_law_start", "_law_many", "_law_k"]
theorem sc__law_wood : FnScope N__law_wood ["_law_deep", "_law_start"] (defScope s__law_wood) := ⟨rfl, rfl, rfl, by decide +kernel, rfl, by decide +kernel, by decide +kernel⟩
abbrev s__law_filled_right : Stmt := top 22
abbrev N__law_filled_right : List Str := ["_law_tree", "_law_swap_here", "_law_kept", "_law_due", "_law_turned", "_law_told", "_law_name"]
theorem sc__law_filled_right : FnScope N__law_filled_right ["_law_tree", "_law_swap_here"] (defScope s__law_filled_right) := ⟨rfl, rfl, rfl, by decide +kernel, rfl, by decide +kernel, by decide +kernel⟩
abbrev s_law : Stmt := top 23
abbrev N_law : List Str := ["_law_script", "_law_pen_here", "_law_lexicon", "_law_letters_here", "_law_turn", "_law_some", "_law_tree", "_law_lot", "_law_due", "_law_deep", "_law_great", "_law_k"]
theorem sc_law : FnScope N_law ["_law_script"] (defScope s_law) := ⟨rfl, rfl, rfl, by decide +kernel, rfl, by decide +kernel, by decide +kernel⟩
/-! mirrors -/
def m_walk (c : Nat → Fm) : MS := (mSeq (mOwn 1 (mSz mNil))
    (mSeq (mOwn 2 (mList (mCons (mUn (revD none) (mVar 0)) mNil)))
    (mSeq (mWhile 1000 (mPeekT (mTru (mVar 2))) (mSeq (mSet 3 (mPop 2))
    (mSeq (mApp 1 (mVar 3))
    (mIf (mTru (mIs isTupD (mVar 3))) (mExt 2 (mUn (revD (some 0)) (mVar 3))) mNext))))
    (mRet (mVar 1)))))
def m_variables_in (c : Nat → Fm) : MS := (mSeq (mOwnD 1)
    (mSeq (mFor (mIList (mCall 1 (c 30) (mCons (mVar 0) mNil))) 2 (mIf (mTru (mIs isStrD (mVar 2))) (mDPutK 1 (mVar 2) (mC (.bl true))) mNext))
    (mRet (mCb tupOfS (mCons (mVar 1) mNil)))))
def m_filled (c : Nat → Fm) : MS := (mSeq (mOwn 2 (mSz mNil))
    (mSeq (mFor (mIList (mUn revLD (mCall 1 (c 30) (mCons (mTup (mCons (mVar 0) mNil)) mNil)))) 3 (mIf (mTru (mIs isStrD (mVar 3))) (mApp 2 (mIf (mBl (mOp (inDct fun b => b) (mVar 3) (mVar 1))) (mDIx (mVar 1) (mVar 3)) (mVar 3))) (mSeq (mSet 4 (mOp (intD fun i j => some (.int (i - j))) (mCb lenD (mCons (mVar 3) mNil)) (mC (.int 1))))
    (mSeq (mSet 5 (mUn revLD (mLSl 2 (mOSome (mOp (intD fun i j => some (.int (i - j))) (mPeek (mCb lenD (mCons (mVar 2) mNil))) (mVar 4))) mONone)))
    (mSeq (mDelSl 2 (mOp (intD fun i j => some (.int (i - j))) (mPeek (mCb lenD (mCons (mVar 2) mNil))) (mVar 4)))
    (mApp 2 (mTup (mCons (mOp ixD (mVar 3) (mC (.int 0))) (mStar (mVar 5) mNil)))))))))
    (mRet (mLGet 2 (mC (.int 0))))))
def m_filled_all (c : Nat → Fm) : MS := (mRet (mCb tupOfD (mCons (mLst (mLc (mITup (mVar 0)) mYes (mCall 2 (c 39) (mCons (mVar 2) (mCons (mVar 1) mNil))) 2)) mNil)))
def m_renamed (c : Nat → Fm) : MS := (mRet (mCall 2 (c 40) (mCons (mVar 0) (mCons (mDc (mEnumT (mCons (mCall 1 (c 31) (mCons (mVar 0) mNil)) mNil)) mYes (mVar 2) (mJ [(mC (.str "V")), (mFmt (mVar 1))]) 1 2) mNil))))
def m__law_draw (c : Nat → Fm) : MS := (mSeq (mIf (mBl (mOp gtD (mDGet 0 (mC (.str "left"))) (mC (.int 0)))) (mSeq (mSet 2 (mOp (intD fun i j => if 0 < j then some (.int (i % j)) else none) (mCb intOfD (mCons (mDGet 0 (mC (.str "left"))) mNil)) (mVar 1)))
    (mSeq (mDPut 0 (.inr "left") (mOp (intD fun i j => if CDiv i j then some (.int (i / j)) else none) (mCb intOfD (mCons (mDGet 0 (mC (.str "left"))) mNil)) (mVar 1)))
    (mRet (mVar 2)))) mNext)
    (mSeq (mSet 3 (mDGet 0 (mC (.str "at"))))
    (mSeq (mDPut 0 (.inr "at") (mOp addD (mVar 3) (mC (.int 1))))
    (mSeq (mSet 4 (mOp addD (mOp (intD fun i j => if CMul i j then some (.int (i * j)) else none) (mC (.int 7411)) (mVar 3)) (mC (.int 389))))
    (mSeq (mIf (mBl (mOp neXD (mDGet 0 (mC (.str "cells"))) (mLst (mSz mNil)))) (mSet 4 (mOp ixD (mDGet 0 (mC (.str "cells"))) (mOp (intD fun i j => if 0 < j then some (.int (i % j)) else none) (mCb intOfD (mCons (mVar 3) mNil)) (mCb lenD (mCons (mDGet 0 (mC (.str "cells"))) mNil))))) mNext)
    (mSeq (mIf (mAnd (mBl (mOp ltD (mVar 3) (mCb lenD (mCons (mDGet 0 (mC (.str "cells"))) mNil)))) (mBl (mOp geD (mCb absD (mCons (mVar 4) mNil)) (mOp (intD fun i j => if CPow i j then some (.int (i ^ j.toNat)) else none) (mC (.int 10)) (mC (.int 18)))))) (mSeq (mSet 5 (mOp addD (mOp (intD fun i j => if CMul i j then some (.int (i * j)) else none) (mC (.int 2)) (mCb absD (mCons (mVar 4) mNil))) (mCb intOfD (mCons (mOp ltD (mVar 4) (mC (.int 0))) mNil))))
    (mSeq (mDPut 0 (.inr "left") (mOp (intD fun i j => if CDiv i j then some (.int (i / j)) else none) (mCb intOfD (mCons (mVar 5) mNil)) (mVar 1)))
    (mRet (mOp (intD fun i j => if 0 < j then some (.int (i % j)) else none) (mCb intOfD (mCons (mVar 5) mNil)) (mVar 1))))) mNext)
    (mSeq (mSet 6 (mOp (intD fun i j => if 0 < j then some (.int (i % j)) else none) (mCb intOfD (mCons (mOp (intD fun i j => if CPow i j then some (.int (i ^ j.toNat)) else none) (mOp addD (mOp addD (mOp (intD fun i j => if 0 < j then some (.int (i % j)) else none) (mCb intOfD (mCons (mVar 4) mNil)) (mC (.int 2147483563))) (mOp (intD fun i j => if CMul i j then some (.int (i * j)) else none) (mC (.int 52361)) (mVar 3))) (mC (.int 41))) (mC (.int 3))) mNil)) (mC (.int 2147483647))))
    (mSeq (mSet 6 (mOp (intD fun i j => if 0 < j then some (.int (i % j)) else none) (mCb intOfD (mCons (mOp (intD fun i j => if CPow i j then some (.int (i ^ j.toNat)) else none) (mOp addD (mOp addD (mOp (intD fun i j => if CMul i j then some (.int (i * j)) else none) (mVar 6) (mOp addD (mOp (intD fun i j => if CMul i j then some (.int (i * j)) else none) (mC (.int 2)) (mVar 3)) (mC (.int 9)))) (mOp (intD fun i j => if CMul i j then some (.int (i * j)) else none) (mOp (intD fun i j => if CMul i j then some (.int (i * j)) else none) (mC (.int 70001)) (mVar 3)) (mVar 3))) (mC (.int 17))) (mC (.int 3))) mNil)) (mC (.int 2147483587))))
    (mRet (mOp (intD fun i j => if 0 < j then some (.int (i % j)) else none) (mCb intOfD (mCons (mOp (intD fun i j => if CDiv i j then some (.int (i / j)) else none) (mVar 6) (mC (.int 32))) mNil)) (mVar 1)))))))))))
def m__law_names (c : Nat → Fm) : MS := (mSeq (mSet 2 (mC (.str "abcdefghijklmnopqrstuvwxyz")))
    (mSeq (mSet 3 (mCallP 2 0 (c 8) (mCons (mC (.int 3)) mNil)))
    (mSeq (mSet 4 (mCallP 2 0 (c 8) (mCons (mC (.int 26)) mNil)))
    (mSeq (mOwn 5 (mSz mNil))
    (mSeq (mFor (mIRng (mCons (mVar 1) mNil)) 6 (mSeq (mSet 7 (mOp ixD (mVar 2) (mOp (intD fun i j => if 0 < j then some (.int (i % j)) else none) (mCb intOfD (mCons (mOp addD (mVar 4) (mOp (intD fun i j => if CMul i j then some (.int (i * j)) else none) (mC (.int 7)) (mVar 6))) mNil)) (mC (.int 26)))))
    (mSeq (mSet 8 (mM1 joinD (mC (.str "")) (mLst (mLc (mIRng (mCons (mCallP 2 0 (c 8) (mCons (mC (.int 8)) mNil)) mNil)) mYes (mOp ixD (mVar 2) (mCallP 2 0 (c 8) (mCons (mC (.int 26)) mNil))) 10))))
    (mSeq (mSet 9 (mOp ixD (mLst (mSz (mCons (mVar 7) (mCons (mOp addD (mC (.str "zzzzzzz")) (mVar 7)) (mCons (mOp addD (mVar 7) (mVar 8)) mNil))))) (mVar 3)))
    (mSeq (mIf (mBl (mOp (inD false) (mVar 9) (mTup (mCons (mC (.str "self")) (mCons (mC (.str "head")) mNil))))) (mSet 9 (mOp addD (mVar 9) (mC (.str "s")))) mNext)
    (mApp 5 (mVar 9)))))))
    (mRet (mVar 5)))))))
def m__law_words (c : Nat → Fm) : MS := (mSeq (mSet 1 (mCallP 2 0 (c 10) (mCons (mC (.int 5)) mNil)))
    (mSeq (mOwn 2 (mSz mNil))
    (mSeq (mFor (mIRng (mCons (mOp addD (mC (.int 2)) (mCallP 2 0 (c 8) (mCons (mC (.int 5)) mNil))) mNil)) 3 (mApp 2 (mOp addD (mOp addD (mOp ixD (mVar 1) (mOp (intD fun i j => if 0 < j then some (.int (i % j)) else none) (mCb intOfD (mCons (mVar 3) mNil)) (mC (.int 2)))) (mC (.str "."))) (mOp ixD (mVar 1) (mOp addD (mC (.int 2)) (mOp (intD fun i j => if 0 < j then some (.int (i % j)) else none) (mCb intOfD (mCons (mOp (intD fun i j => if CDiv i j then some (.int (i / j)) else none) (mVar 3) (mC (.int 2))) mNil)) (mC (.int 3))))))))
    (mRet (mVar 2)))))
def m__law_letters (c : Nat → Fm) : MS := (mSeq (mSet 1 (mCallP 2 0 (c 8) (mCons (mC (.int 3)) mNil)))
    (mSeq (mSet 2 (mCallP 2 0 (c 8) (mCons (mC (.int 22)) mNil)))
    (mSeq (mSet 3 (mC (.str "ABCDEFGHIJKLMNOPQRSTUVWXYZ")))
    (mSeq (mIf (mBl (mOp eqXD (mVar 1) (mC (.int 0)))) (mRet (mLst (mLc (mIRng (mCons (mC (.int 5)) mNil)) mYes (mOp ixD (mVar 3) (mOp addD (mVar 2) (mVar 4))) 4))) mNext)
    (mSeq (mIf (mBl (mOp eqXD (mVar 1) (mC (.int 1)))) (mRet (mLst (mLc (mIRng (mCons (mC (.int 5)) mNil)) mYes (mOp addD (mC (.str "V")) (mCb strOfD (mCons (mOp (intD fun i j => some (.int (i - j))) (mC (.int 4)) (mVar 4)) mNil))) 4))) mNext)
    (mRet (mLst (mSz (mCons (mOp ixD (mVar 3) (mVar 2)) (mCons (mOp addD (mOp ixD (mVar 3) (mVar 2)) (mC (.str "0"))) (mCons (mOp addD (mOp ixD (mVar 3) (mVar 2)) (mC (.str "00"))) (mCons (mOp addD (mOp ixD (mVar 3) (mVar 2)) (mC (.str "07"))) (mCons (mOp addD (mOp ixD (mVar 3) (mVar 2)) (mC (.str "999"))) mNil)))))))))))))
def m__law_term (c : Nat → Fm) : MS := (mSeq (mLPut 4 0 (mOp (intD fun i j => some (.int (i - j))) (mLGet 4 (mC (.int 0))) (mC (.int 1))))
    (mSeq (mSet 5 (mCallP 2 0 (c 8) (mCons (mC (.int 5)) mNil)))
    (mSeq (mIf (mAnd (mBl (mOp neXD (mVar 2) (mLst (mSz mNil)))) (mBl (mOp ltD (mVar 5) (mC (.int 2))))) (mRet (mOp ixD (mVar 2) (mCallP 2 0 (c 8) (mCons (mCb lenD (mCons (mVar 2) mNil)) mNil)))) mNext)
    (mSeq (mSet 6 (mTup (mCons (mOp ixD (mVar 1) (mCallP 2 0 (c 8) (mCons (mCb lenD (mCons (mVar 1) mNil)) mNil))) mNil)))
    (mSeq (mFor (mIRng (mCons (mOp (intD fun i j => if CMul i j then some (.int (i * j)) else none) (mOp ixD (mLst (mSz (mCons (mC (.int 0)) (mCons (mC (.int 1)) (mCons (mC (.int 2)) (mCons (mC (.int 3)) (mCons (mC (.int 3)) mNil))))))) (mVar 5)) (mCb intOfD (mCons (mOp gtD (mVar 3) (mC (.int 1))) mNil))) mNil)) 7 (mIf (mBl (mOp gtD (mLGet 4 (mC (.int 0))) (mC (.int 0)))) (mSet 6 (mOp addD (mVar 6) (mTup (mCons (mCallL 5 (c 11) (mLOwn 0 (mLDat (mVar 1) (mLDat (mVar 2) (mLDat (mOp (intD fun i j => some (.int (i - j))) (mVar 3) (mC (.int 1))) (mLOwn 4 mLNil)))))) mNil)))) mNext))
    (mRet (mVar 6)))))))
def m__law_full (c : Nat → Fm) : MS := (mSeq (mIf (mBl (mOp eqXD (mVar 3) (mC (.int 1)))) (mRet (mOp ixD (mOp addD (mVar 2) (mLst (mSz (mCons (mTup (mCons (mOp ixD (mVar 1) (mC (.int 0))) mNil)) mNil)))) (mCallP 2 0 (c 8) (mCons (mOp addD (mCb lenD (mCons (mVar 2) mNil)) (mC (.int 1))) mNil)))) mNext)
    (mSeq (mSet 4 (mCb tupOfD (mCons (mLst (mLc (mIRng (mCons (mC (.int 3)) mNil)) mYes (mCallP 4 0 (c 15) (mCons (mVar 1) (mCons (mVar 2) (mCons (mOp (intD fun i j => some (.int (i - j))) (mVar 3) (mC (.int 1))) mNil)))) 5)) mNil)))
    (mRet (mOp addD (mTup (mCons (mOp ixD (mVar 1) (mCallP 2 0 (c 8) (mCons (mCb lenD (mCons (mVar 1) mNil)) mNil))) mNil)) (mVar 4)))))
def m__law_pieces (c : Nat → Fm) : MS := (mSeq (mOwn 1 (mSz (mCons (mVar 0) mNil)))
    (mSeq (mIf (mNot (mTru (mIs isStrD (mVar 0)))) (mFor (mITup (mSl (mVar 0) (mOSome (mC (.int 1))) mONone)) 2 (mExt 1 (mCall 1 (c 34) (mCons (mVar 2) mNil)))) mNext)
    (mRet (mVar 1))))
def m__law_variables (c : Nat → Fm) : MS := (mSeq (mOwn 1 (mSz mNil))
    (mSeq (mFor (mITup (mVar 0)) 2 (mFor (mIList (mCall 1 (c 34) (mCons (mVar 2) mNil))) 3 (mIf (mAnd (mTru (mIs isStrD (mVar 3))) (mBl (mPeek (mOp (inD true) (mVar 3) (mVar 1))))) (mApp 1 (mVar 3)) mNext)))
    (mRet (mVar 1))))
def m__law_filled (c : Nat → Fm) : MS := (mSeq (mIf (mTru (mIs isStrD (mVar 0))) (mRet (mDGet2 (mVar 1) (mVar 0) (mVar 0))) mNext)
    (mRet (mOp addD (mTup (mCons (mOp ixD (mVar 0) (mC (.int 0))) mNil)) (mCb tupOfD (mCons (mLst (mLc (mITup (mSl (mVar 0) (mOSome (mC (.int 1))) mONone)) mYes (mCall 2 (c 41) (mCons (mVar 2) (mCons (mVar 1) mNil))) 2)) mNil)))))
def m__law_all_filled (c : Nat → Fm) : MS := (mRet (mCb tupOfD (mCons (mLst (mLc (mITup (mVar 0)) mYes (mCall 2 (c 41) (mCons (mVar 2) (mCons (mVar 1) mNil))) 2)) mNil)))
def m__law_renamed (c : Nat → Fm) : MS := (mSeq (mSet 1 (mCall 1 (c 42) (mCons (mVar 0) mNil)))
    (mRet (mCall 2 (c 43) (mCons (mVar 0) (mCons (mCb dictPD (mCons (mLst (mLc (mIRng (mCons (mCb lenD (mCons (mVar 1) mNil)) mNil)) mYes (mTup (mCons (mOp ixD (mVar 1) (mVar 2)) (mCons (mOp addD (mC (.str "V")) (mCb strOfD (mCons (mVar 2) mNil))) mNil))) 2)) mNil)) mNil)))))
def m__law_swap (c : Nat → Fm) : MS := (mSeq (mSet 3 (mCallP 2 0 (c 8) (mCons (mC (.int 5)) mNil)))
    (mSeq (mOwnD 4)
    (mSeq (mFor (mIRng (mCons (mCb lenD (mCons (mVar 2) mNil)) mNil)) 5 (mIf (mBl (mOp eqXD (mVar 3) (mC (.int 0)))) (mDPutK 4 (mOp ixD (mVar 2) (mVar 5)) (mOp ixD (mVar 2) (mOp (intD fun i j => if 0 < j then some (.int (i % j)) else none) (mCb intOfD (mCons (mOp addD (mVar 5) (mC (.int 1))) mNil)) (mCb lenD (mCons (mVar 2) mNil))))) (mIf (mOr (mBl (mOp eqXD (mVar 3) (mC (.int 1)))) (mBl (mOp eqXD (mCallP 2 0 (c 8) (mCons (mC (.int 2)) mNil)) (mC (.int 0))))) (mDPutK 4 (mOp ixD (mVar 2) (mVar 5)) (mCallF 5 (c 11) (mFOwn 0 (mFDat (mVar 1) (mFDat (mVar 2) (mFDat (mC (.int 5)) (mFLast (mSz (mCons (mC (.int 9)) mNil))))))))) mNext)))
    (mSeq (mIf (mBl (mOp eqXD (mVar 3) (mC (.int 4)))) (mRet (mC (.dct []))) mNext)
    (mSeq (mDPutK 4 (mOp addD (mC (.str "Q")) (mCb strOfD (mCons (mCallP 2 0 (c 8) (mCons (mC (.int 9)) mNil)) mNil))) (mTup (mCons (mOp ixD (mVar 1) (mC (.int 0))) mNil)))
    (mRet (mVar 4)))))))
def m__law_wood (c : Nat → Fm) : MS := (mSeq (mIf (mBl (mOp eqXD (mVar 0) (mC (.int 1)))) (mRet (mOp addD (mOp ixD (mC (.str "ABCDEFGHIJKLMNOPQRSTUVWXYZ")) (mOp (intD fun i j => if 0 < j then some (.int (i % j)) else none) (mCb intOfD (mCons (mVar 1) mNil)) (mC (.int 26)))) (mCb strOfD (mCons (mOp (intD fun i j => if CDiv i j then some (.int (i / j)) else none) (mVar 1) (mC (.int 26))) mNil)))) mNext)
    (mSeq (mSet 2 (mOp ixD (mLst (mSz (mCons (mC (.int 1)) (mCons (mC (.int 3)) (mCons (mC (.int 9)) (mCons (mC (.int 27)) mNil)))))) (mOp (intD fun i j => some (.int (i - j))) (mVar 0) (mC (.int 2)))))
    (mRet (mOp addD (mTup (mCons (mC (.str "a.b")) mNil)) (mCb tupOfD (mCons (mLst (mLc (mIRng (mCons (mC (.int 3)) mNil)) mYes (mCall 2 (c 44) (mCons (mOp (intD fun i j => some (.int (i - j))) (mVar 0) (mC (.int 1))) (mCons (mOp addD (mVar 1) (mOp (intD fun i j => if CMul i j then some (.int (i * j)) else none) (mVar 3) (mVar 2))) mNil))) 3)) mNil))))))
def m__law_filled_right (c : Nat → Fm) : MS := (mSeq (mSet 2 (mReprL (mCons (mVar 0) (mCons (mVar 1) mNil))))
    (mSeq (mSet 3 (mRepr (mCons (mCall 2 (c 41) (mCons (mVar 0) (mCons (mVar 1) mNil))) mNil)))
    (mSeq (mSet 4 (mCb dictPD (mCons (mLst (mLc (mIList (mUn revLD (mLst (mListX (mCons (mVar 1) mNil))))) mYes (mTup (mCons (mVar 6) (mCons (mDIx (mVar 1) (mVar 6)) mNil))) 6)) mNil)))
    (mSeq (mSet 5 (mLst (mSz (mCons (mCall 2 (c 39) (mCons (mVar 0) (mCons (mVar 1) mNil))) (mCons (mCallK 2 2 [1, 0] (c 39) (mCons (mVar 4) (mCons (mVar 0) mNil))) (mCons (mCall 2 (c 39) (mCons (mVar 0) (mCons (mVar 1) mNil))) mNil))))))
    (mRet (mAndV (mOp eqXD (mRepr (mCons (mVar 5) mNil)) (mRepr (mCons (mOp repD (mLst (mSz (mCons (mCall 2 (c 41) (mCons (mVar 0) (mCons (mVar 1) mNil))) mNil))) (mC (.int 3))) mNil))) (mAndV (mOp eqXD (mRepr (mCons (mOp ixD (mVar 5) (mC (.int 0))) mNil)) (mVar 3)) (mOp eqXD (mReprL (mCons (mVar 0) (mCons (mVar 1) mNil))) (mVar 2)))))))))
def m_law (c : Nat → Fm) : MS := (mSeq (mPen 0 1)
    (mSeq (mSet 2 (mCallP 1 1 (c 16) mNil))
    (mSeq (mSet 3 (mCallP 1 1 (c 17) mNil))
    (mSeq (mFor (mIRng (mCons (mC (.int 4)) mNil)) 4 (mSeq (mOwn 5 (mLc (mIRng (mCons (mCallP 2 1 (c 8) (mCons (mC (.int 4)) mNil)) mNil)) mYes (mCallF 5 (c 11) (mFOwn 1 (mFDat (mVar 2) (mFDat (mVar 3) (mFDat (mC (.int 6)) (mFLast (mSz (mCons (mC (.int 40)) mNil)))))))) 11))
    (mSeq (mApp 5 (mCallP 4 1 (c 15) (mCons (mVar 2) (mCons (mVar 3) (mCons (mOp addD (mC (.int 1)) (mCallP 2 1 (c 8) (mCons (mC (.int 4)) mNil))) mNil)))))
    (mSeq (mFor (mIList (mVar 5)) 6 (mIf (mNot (mTru (mCall 2 (c 220) (mCons (mVar 6) (mCons (mCallP 3 1 (c 48) (mCons (mVar 2) (mCons (mVar 3) mNil))) mNil))))) (mRet (mC (.bl false))) mNext))
    (mFor (mITup (mTup (mCons (mTup mNil) (mCons (mCb tupOfD (mCons (mSl (mVar 5) mONone (mOSome (mC (.int 1)))) mNil)) (mCons (mCb tupOfD (mCons (mSl (mVar 5) (mOSome (mUn negD (mC (.int 2)))) mONone) mNil)) (mCons (mCb tupOfD (mCons (mSl (mVar 5) mONone (mOSome (mC (.int 3)))) mNil)) mNil)))))) 7 (mSeq (mSet 8 (mRepr (mCons (mCall 1 (c 221) (mCons (mVar 7) mNil)) mNil)))
    (mIf (mOr (mBl (mOp neXD (mRepr (mCons (mCall 1 (c 55) (mCons (mVar 7) mNil)) mNil)) (mVar 8))) (mBl (mOp neXD (mRepr (mCons (mCallK 1 1 [0] (c 55) (mCons (mVar 7) mNil)) mNil)) (mVar 8)))) (mRet (mC (.bl false))) mNext)))))))
    (mSeq (mSet 9 (mOp addD (mC (.int 1)) (mCallP 2 1 (c 8) (mCons (mC (.int 5)) mNil))))
    (mSeq (mSet 10 (mCb tupOfD (mCons (mLst (mLc (mIRng (mCons (mC (.int 3)) mNil)) mYes (mCall 2 (c 44) (mCons (mVar 9) (mCons (mOp (intD fun i j => if CMul i j then some (.int (i * j)) else none) (mVar 11) (mOp ixD (mLst (mSz (mCons (mC (.int 1)) (mCons (mC (.int 3)) (mCons (mC (.int 9)) (mCons (mC (.int 27)) (mCons (mC (.int 81)) mNil))))))) (mOp (intD fun i j => some (.int (i - j))) (mVar 9) (mC (.int 1))))) mNil))) 11)) mNil)))
    (mRet (mOp eqXD (mRepr (mCons (mCall 1 (c 55) (mCons (mVar 10) mNil)) mNil)) (mRepr (mCons (mCall 1 (c 221) (mCons (mVar 10) mNil)) mNil))))))))))
def bd (c : Nat → Fm) : Nat → Fm
  | 30 => defM 1 4 (m_walk c)
  | 31 => defM 1 3 (m_variables_in c)
  | 39 => defM 2 6 (m_filled c)
  | 40 => defM 2 3 (m_filled_all c)
  | 55 => defM 1 3 (m_renamed c)
  | 8 => defM 2 7 (m__law_draw c)
  | 10 => defM 2 11 (m__law_names c)
  | 16 => defM 1 4 (m__law_words c)
  | 17 => defM 1 5 (m__law_letters c)
  | 11 => defM 5 8 (m__law_term c)
  | 15 => defM 4 6 (m__law_full c)
  | 34 => defM 1 3 (m__law_pieces c)
  | 42 => defM 1 4 (m__law_variables c)
  | 41 => defM 2 3 (m__law_filled c)
  | 43 => defM 2 3 (m__law_all_filled c)
  | 221 => defM 1 3 (m__law_renamed c)
  | 48 => defM 3 6 (m__law_swap c)
  | 44 => defM 2 4 (m__law_wood c)
  | 220 => defM 2 7 (m__law_filled_right c)
  | _ => fun _ => none
def cs : Nat → Nat → Fm
  | 0 => fun _ _ => none
  | k + 1 => bd (cs k)
structure Tx (W : Wd) (mg : Str → Option Value) where
  walk : DefAt W.K mg "walk" s_walk ["terms"]
  variables_in : DefAt W.K mg "variables_in" s_variables_in ["terms"]
  filled : DefAt W.K mg "filled" s_filled ["term", "fill"]
  filled_all : DefAt W.K mg "filled_all" s_filled_all ["terms", "fill"]
  renamed : DefAt W.K mg "renamed" s_renamed ["terms"]
  _law_pen : DefAt W.K mg "_law_pen" s__law_pen ["_law_script"]
  _law_draw : DefAt W.K mg "_law_draw" s__law_draw ["_law_pen_here", "_law_many"]
  _law_names : DefAt W.K mg "_law_names" s__law_names ["_law_pen_here", "_law_many"]
  _law_words : DefAt W.K mg "_law_words" s__law_words ["_law_pen_here"]
  _law_letters : DefAt W.K mg "_law_letters" s__law_letters ["_law_pen_here"]
  _law_term : DefAt W.K mg "_law_term" s__law_term ["_law_pen_here", "_law_lexicon", "_law_letters_here", "_law_deep", "_law_purse"]
  _law_full : DefAt W.K mg "_law_full" s__law_full ["_law_pen_here", "_law_lexicon", "_law_letters_here", "_law_deep"]
  _law_pieces : DefAt W.K mg "_law_pieces" s__law_pieces ["_law_tree"]
  _law_variables : DefAt W.K mg "_law_variables" s__law_variables ["_law_trees"]
  _law_filled : DefAt W.K mg "_law_filled" s__law_filled ["_law_tree", "_law_swap_here"]
  _law_all_filled : DefAt W.K mg "_law_all_filled" s__law_all_filled ["_law_trees", "_law_swap_here"]
  _law_renamed : DefAt W.K mg "_law_renamed" s__law_renamed ["_law_trees"]
  _law_swap : DefAt W.K mg "_law_swap" s__law_swap ["_law_pen_here", "_law_lexicon", "_law_letters_here"]
  _law_wood : DefAt W.K mg "_law_wood" s__law_wood ["_law_deep", "_law_start"]
  _law_filled_right : DefAt W.K mg "_law_filled_right" s__law_filled_right ["_law_tree", "_law_swap_here"]
  law : DefAt W.K mg "law" s_law ["_law_script"]
  k_filled_fill_term : KwB W.K filled.fd ["term", "fill"] ["fill", "term"] [1, 0]
  k_renamed_terms : KwB W.K renamed.fd ["terms"] ["terms"] [0]
  m_list : mg "list" = none
  m_tuple : mg "tuple" = none
  m_range : mg "range" = none
  m_isinstance : mg "isinstance" = none
  m_str : mg "str" = none
  m_repr : mg "repr" = none
  m_dict : mg "dict" = none
  m_int : mg "int" = none
  m_len : mg "len" = none
  m_abs : mg "abs" = none
  m_enumerate : mg "enumerate" = none
variable {P : Program} {w : World} {base : Heap} {W : Wd} {mg : Str → Option Value}
structure All (P : Program) (w : World) (base : Heap) {W : Wd} {mg : Str → Option Value} (T : Tx W mg) (k : Nat) : Prop where
  walk : FnG P w W.K mg base k T.walk.f T.walk.fd ["terms"] (SpD W 1 (PhiF (cs k 30)))
  variables_in : FnG P w W.K mg base k T.variables_in.f T.variables_in.fd ["terms"] (SpD W 1 (PhiF (cs k 31)))
  filled : FnG P w W.K mg base k T.filled.f T.filled.fd ["term", "fill"] (SpD W 2 (PhiF (cs k 39)))
  filled_all : FnG P w W.K mg base k T.filled_all.f T.filled_all.fd ["terms", "fill"] (SpD W 2 (PhiF (cs k 40)))
  renamed : FnG P w W.K mg base k T.renamed.f T.renamed.fd ["terms"] (SpD W 1 (PhiF (cs k 55)))
  _law_draw : FnG P w W.K mg base k T._law_draw.f T._law_draw.fd ["_law_pen_here", "_law_many"] (SpD W 2 (PhiF (cs k 8)))
  _law_names : FnG P w W.K mg base k T._law_names.f T._law_names.fd ["_law_pen_here", "_law_many"] (SpD W 2 (PhiF (cs k 10)))
  _law_words : FnG P w W.K mg base k T._law_words.f T._law_words.fd ["_law_pen_here"] (SpD W 1 (PhiF (cs k 16)))
  _law_letters : FnG P w W.K mg base k T._law_letters.f T._law_letters.fd ["_law_pen_here"] (SpD W 1 (PhiF (cs k 17)))
  _law_term : FnG P w W.K mg base k T._law_term.f T._law_term.fd ["_law_pen_here", "_law_lexicon", "_law_letters_here", "_law_deep", "_law_purse"] (SpD W 5 (PhiF (cs k 11)))
  _law_full : FnG P w W.K mg base k T._law_full.f T._law_full.fd ["_law_pen_here", "_law_lexicon", "_law_letters_here", "_law_deep"] (SpD W 4 (PhiF (cs k 15)))
  _law_pieces : FnG P w W.K mg base k T._law_pieces.f T._law_pieces.fd ["_law_tree"] (SpD W 1 (PhiF (cs k 34)))
  _law_variables : FnG P w W.K mg base k T._law_variables.f T._law_variables.fd ["_law_trees"] (SpD W 1 (PhiF (cs k 42)))
  _law_filled : FnG P w W.K mg base k T._law_filled.f T._law_filled.fd ["_law_tree", "_law_swap_here"] (SpD W 2 (PhiF (cs k 41)))
  _law_all_filled : FnG P w W.K mg base k T._law_all_filled.f T._law_all_filled.fd ["_law_trees", "_law_swap_here"] (SpD W 2 (PhiF (cs k 43)))
  _law_renamed : FnG P w W.K mg base k T._law_renamed.f T._law_renamed.fd ["_law_trees"] (SpD W 1 (PhiF (cs k 221)))
  _law_swap : FnG P w W.K mg base k T._law_swap.f T._law_swap.fd ["_law_pen_here", "_law_lexicon", "_law_letters_here"] (SpD W 3 (PhiF (cs k 48)))
  _law_wood : FnG P w W.K mg base k T._law_wood.f T._law_wood.fd ["_law_deep", "_law_start"] (SpD W 2 (PhiF (cs k 44)))
  _law_filled_right : FnG P w W.K mg base k T._law_filled_right.f T._law_filled_right.fd ["_law_tree", "_law_swap_here"] (SpD W 2 (PhiF (cs k 220)))
theorem ok_walk (T : Tx W mg) {k : Nat} (I : All P w base T k) : FnG P w W.K mg base (k + 1) T.walk.f T.walk.fd ["terms"] (SpD W 1 (PhiF (cs (k + 1) 30))) := by
  refine fn_m (m := m_walk (cs k)) T.walk.fn sc_walk rfl rfl fun cdv A outer s H E hg hr => ?_
  exact ⟨_, (pss_cons (ps_set (i := 1) sc_walk.nd rfl (by first | exact Or.inl rfl | exact Or.inr rfl) (pe_lst pa_nil))
    (pss_cons (ps_set (i := 2) sc_walk.nd rfl (by first | exact Or.inl rfl | exact Or.inr rfl) (pe_callTy (ka_list (K := W.K) rfl) rfl T.m_list (by decide +kernel) (pa_cons (pe_revN (.inl rfl) (pv 0) po_none (fun _ _ _ h => h)) pa_nil)))
    (pss_cons (ps_while PassesOwn.never (ka_tru (K := W.K) rfl (pv 2) (by intro _; rfl)) (pss_cons (ps_set (i := 3) sc_walk.nd rfl (by first | exact Or.inl rfl | exact Or.inr rfl) (pe_bm0 PySem.F.plainAttrs_list PySem.F.slot_list_pop PySem.F.type_list_pop mt_pop (pv 2)))
    (pss_cons (ps_expr (pe_bm PySem.F.plainAttrs_list PySem.F.slot_list_append PySem.F.type_list_append mt_append (pv 1) (pa_cons (pv 3) pa_nil)))
    (pss_one (ps_if (ka_tru (K := W.K) rfl (pe_callB (ka_isi (K := W.K) rfl) rfl T.m_isinstance (by decide +kernel) (pa_cons (pv 3) (pa_cons (pe_bltn (v := .ty "tuple") (u := .type "tuple") rfl T.m_tuple (by decide +kernel) rfl) pa_nil))) (by intro _; rfl)) (pss_one (ps_expr (pe_bm PySem.F.plainAttrs_list PySem.F.slot_list_extend PySem.F.type_list_extend (mt_extS (K := W.K) rfl) (pv 2) (pa_cons (pe_revN (.inr rfl) (pv 3) (po_some pe_int) (fun _ _ _ h => ⟨0, rfl, h⟩)) pa_nil)))) pss_nil)))))
    (pss_one (ps_ret (pv 1)))))),
    (ss_seq (ss_own (sf_lst sa_nil))
    (ss_seq (ss_own (sf_list (sa_cons (se_revT se_var) sa_nil)))
    (ss_seq (ss_while (n := 1000) (st_peek (st_tru se_var)) (ss_seq (ss_set se_pop)
    (ss_seq (ss_app se_var)
    (ss_if (st_tru (se_is isk_tup se_var)) (ss_ext (se_revT se_var)) ss_next))))
    (ss_ret se_var))))⟩
theorem ok_variables_in (T : Tx W mg) {k : Nat} (I : All P w base T k) : FnG P w W.K mg base (k + 1) T.variables_in.f T.variables_in.fd ["terms"] (SpD W 1 (PhiF (cs (k + 1) 31))) := by
  refine fn_m (m := m_variables_in (cs k)) T.variables_in.fn sc_variables_in rfl rfl fun cdv A outer s H E hg hr => ?_
  exact ⟨_, (pss_cons (ps_set (i := 1) sc_variables_in.nd rfl (by first | exact Or.inl rfl | exact Or.inr rfl) pe_dnewK)
    (pss_cons (ps_for PassesOwn.never rfl (ka_plist (K := W.K) rfl (pe_g I.walk hg hr rfl T.walk.mg T.walk.fn.kp T.walk.bd (pa_cons (pv 0) pa_nil))) (pg_name (i := 2) sc_variables_in.nd rfl (by first | exact Or.inl rfl | exact Or.inr rfl)) (pss_one (ps_if (ka_tru (K := W.K) rfl (pe_callB (ka_isi (K := W.K) rfl) rfl T.m_isinstance (by decide +kernel) (pa_cons (pv 2) (pa_cons (pe_bltn (v := .ty "str") (u := .type "str") rfl T.m_str (by decide +kernel) rfl) pa_nil))) (by intro _; rfl)) (pss_one (ps_dput (u1 hr) (pv 1) (pv 2) pe_bl (by rfl))) pss_nil)))
    (pss_one (ps_ret (pe_callTy (ka_tupS (K := W.K) rfl rfl) rfl T.m_tuple (by decide +kernel) (pa_cons (pv 1) pa_nil)))))),
    (ss_seq ss_ownD
    (ss_seq (ss_for (si_list (se_g (sa_cons se_var sa_nil))) (ss_if (st_tru (se_is isk_str se_var)) (ss_dputk se_var se_bl) ss_next))
    (ss_ret (se_cb cd_tupS (sa_cons se_var sa_nil)))))⟩
theorem ok_filled (T : Tx W mg) {k : Nat} (I : All P w base T k) : FnG P w W.K mg base (k + 1) T.filled.f T.filled.fd ["term", "fill"] (SpD W 2 (PhiF (cs (k + 1) 39))) := by
  refine fn_m (m := m_filled (cs k)) T.filled.fn sc_filled rfl rfl fun cdv A outer s H E hg hr => ?_
  exact ⟨_, (pss_cons (ps_set (i := 2) sc_filled.nd rfl (by first | exact Or.inl rfl | exact Or.inr rfl) (pe_lst pa_nil))
    (pss_cons (ps_for PassesOwn.never rfl (ka_plist (K := W.K) rfl (pe_revL (pe_g I.walk hg hr rfl T.walk.mg T.walk.fn.kp T.walk.bd (pa_cons (pe_tup (pa_cons (pv 0) pa_nil)) pa_nil)))) (pg_name (i := 3) sc_filled.nd rfl (by first | exact Or.inl rfl | exact Or.inr rfl)) (pss_one (ps_if (ka_tru (K := W.K) rfl (pe_callB (ka_isi (K := W.K) rfl) rfl T.m_isinstance (by decide +kernel) (pa_cons (pv 3) (pa_cons (pe_bltn (v := .ty "str") (u := .type "str") rfl T.m_str (by decide +kernel) rfl) pa_nil))) (by intro _; rfl)) (pss_one (ps_expr (pe_bm PySem.F.plainAttrs_list PySem.F.slot_list_append PySem.F.type_list_append mt_append (pv 2) (pa_cons (pe_ifExp (pt_din (u1 hr) (pv 3) (pv 1) rfl) (pe_dget (u1 hr) (pv 1) (pv 3) (fun _ _ => rfl)) (pv 3)) pa_nil)))) (pss_cons (ps_set (i := 4) sc_filled.nd rfl (by first | exact Or.inl rfl | exact Or.inr rfl) (pe_op op_sub (pe_callB (ka_len (K := W.K) rfl) rfl T.m_len (by decide +kernel) (pa_cons (pv 3) pa_nil)) pe_int))
    (pss_cons (ps_set (i := 5) sc_filled.nd rfl (by first | exact Or.inl rfl | exact Or.inr rfl) (pe_revL (pe_slice (ka_sl (K := W.K) rfl) (pv 2) (po_some (pe_op op_sub (pe_callB (ka_len (K := W.K) rfl) rfl T.m_len (by decide +kernel) (pa_cons (pv 2) pa_nil)) (pv 4))) po_none)))
    (pss_cons (ps_delSl (pv 2) (po_some (pe_op op_sub (pe_callB (ka_len (K := W.K) rfl) rfl T.m_len (by decide +kernel) (pa_cons (pv 2) pa_nil)) (pv 4))))
    (pss_one (ps_expr (pe_bm PySem.F.plainAttrs_list PySem.F.slot_list_append PySem.F.type_list_append mt_append (pv 2) (pa_cons (pe_tup (pa_cons (pe_ix (ka_ix (K := W.K) rfl) (pv 3) pe_int (fun _ _ => rfl)) (StX.pa_star (pv 5) pa_nil))) pa_nil))))))))))
    (pss_one (ps_ret (pe_ix (ka_ix (K := W.K) rfl) (pv 2) pe_int (fun _ _ => rfl)))))),
    (ss_seq (ss_own (sf_lst sa_nil))
    (ss_seq (ss_for (si_list (se_revL (se_g (sa_cons (se_tup (sa_cons se_var sa_nil)) sa_nil)))) (ss_if (st_tru (se_is isk_str se_var)) (ss_app (se_if (st_test (se_op opd_din se_var se_var)) (se_dix se_var se_var) se_var)) (ss_seq (ss_set (se_op opd_sub (se_cb cd_len (sa_cons se_var sa_nil)) se_int))
    (ss_seq (ss_set (se_revL (se_lsl (so_some (se_op opd_sub (se_peek (se_cb cd_len (sa_cons se_var sa_nil))) se_var)) so_none)))
    (ss_seq (ss_delSl (se_op opd_sub (se_peek (se_cb cd_len (sa_cons se_var sa_nil))) se_var))
    (ss_app (se_tup (sa_cons (se_op opd_ix se_var se_int) (sa_star se_var sa_nil)))))))))
    (ss_ret (se_lget se_int))))⟩
theorem ok_filled_all (T : Tx W mg) {k : Nat} (I : All P w base T k) : FnG P w W.K mg base (k + 1) T.filled_all.f T.filled_all.fd ["terms", "fill"] (SpD W 2 (PhiF (cs (k + 1) 40))) := by
  refine fn_m (m := m_filled_all (cs k)) T.filled_all.fn sc_filled_all rfl rfl fun cdv A outer s H E hg hr => ?_
  exact ⟨_, (pss_one (ps_ret (pe_callTy (ka_tuple (K := W.K) rfl) rfl T.m_tuple (by decide +kernel) (pa_cons (pe_lc (own := [("term", 2)]) rfl sc_filled_all.nd (ka_ptup (K := W.K) rfl (pv 0)) (blkOk_by (own := [("term", 2)]) (N := N_filled_all) (sc := defScope s_filled_all) (by decide +kernel)) (fun _ _ _ _ _ => (pg_name (i := 2) sc_filled_all.nd rfl (by first | exact Or.inl rfl | exact Or.inr rfl))) (fun _ _ _ _ _ => pts_nil) (fun _ _ _ _ _ => (pe_g I.filled hg hr rfl T.filled.mg T.filled.fn.kp T.filled.bd (pa_cons (pv 2) (pa_cons (pv 1) pa_nil))))) pa_nil)))),
    (ss_ret (se_cb cd_tuple (sa_cons (se_f (sf_lc (j := 2) (si_tup se_var) st_yes (se_g (sa_cons se_var (sa_cons se_var sa_nil))))) sa_nil)))⟩
theorem ok_renamed (T : Tx W mg) {k : Nat} (I : All P w base T k) : FnG P w W.K mg base (k + 1) T.renamed.f T.renamed.fd ["terms"] (SpD W 1 (PhiF (cs (k + 1) 55))) := by
  refine fn_m (m := m_renamed (cs k)) T.renamed.fn sc_renamed rfl rfl fun cdv A outer s H E hg hr => ?_
  exact ⟨_, (pss_one (ps_ret (pe_g I.filled_all hg hr rfl T.filled_all.mg T.filled_all.fn.kp T.filled_all.bd (pa_cons (pv 0) (pa_cons (pe_dc (own := [("at", 1), ("name", 2)]) rfl sc_renamed.nd (ka_enumT (K := W.K) rfl rfl T.m_enumerate (pa_cons (pe_g I.variables_in hg hr rfl T.variables_in.mg T.variables_in.fn.kp T.variables_in.bd (pa_cons (pv 0) pa_nil)) pa_nil)) (blkOk_by (own := [("at", 1), ("name", 2)]) (N := N_renamed) (sc := defScope s_renamed) (by decide +kernel)) (fun _ _ _ _ _ => (ka_gtup (K := W.K) rfl rfl (pgs_cons (pg_name (i := 1) sc_renamed.nd rfl (by first | exact Or.inl rfl | exact Or.inr rfl)) (pgs_cons (pg_name (i := 2) sc_renamed.nd rfl (by first | exact Or.inl rfl | exact Or.inr rfl)) pgs_nil)))) (fun _ _ _ _ _ => pts_nil) (fun _ _ _ _ _ => (pv 2)) (fun _ _ _ _ _ => (pe_joined (.cons pe_str (.cons (pe_fmt (pv 1)) .nil))))) pa_nil))))),
    (ss_ret (se_g (sa_cons se_var (sa_cons (se_dc (i := 1) (j := 2) (si_enumT (sa_cons (se_g (sa_cons se_var sa_nil)) sa_nil)) st_yes se_var (se_js (.cons se_str (.cons (se_fmt se_var) .nil)))) sa_nil))))⟩
theorem ok__law_draw (T : Tx W mg) {k : Nat} (I : All P w base T k) : FnG P w W.K mg base (k + 1) T._law_draw.f T._law_draw.fd ["_law_pen_here", "_law_many"] (SpD W 2 (PhiF (cs (k + 1) 8))) := by
  refine fn_m (m := m__law_draw (cs k)) T._law_draw.fn sc__law_draw rfl rfl fun cdv A outer s H E hg hr => ?_
  exact ⟨_, (pss_cons (ps_if (pt_cmpR op_gt (pe_dget (u1 hr) (pv 0) pe_str (fun _ _ => rfl)) pe_int (nomark _)) (pss_cons (ps_set (i := 2) sc__law_draw.nd rfl (by first | exact Or.inl rfl | exact Or.inr rfl) (pe_op op_mod (pe_callTy call_int1 rfl T.m_int (by decide +kernel) (pa_cons (pe_dget (u1 hr) (pv 0) pe_str (fun _ _ => rfl)) pa_nil)) (pv 1)))
    (pss_cons (ps_dput (u1 hr) (pv 0) pe_str (pe_op op_fdiv (pe_callTy call_int1 rfl T.m_int (by decide +kernel) (pa_cons (pe_dget (u1 hr) (pv 0) pe_str (fun _ _ => rfl)) pa_nil)) (pv 1)) (by rfl))
    (pss_one (ps_ret (pv 2))))) pss_nil)
    (pss_cons (ps_set (i := 3) sc__law_draw.nd rfl (by first | exact Or.inl rfl | exact Or.inr rfl) (pe_dget (u1 hr) (pv 0) pe_str (fun _ _ => rfl)))
    (pss_cons (ps_dput (u1 hr) (pv 0) pe_str (pe_op (ka_add (K := W.K) rfl) (pv 3) pe_int) (by rfl))
    (pss_cons (ps_set (i := 4) sc__law_draw.nd rfl (by first | exact Or.inl rfl | exact Or.inr rfl) (pe_op (ka_add (K := W.K) rfl) (pe_op op_mul pe_int (pv 3)) pe_int))
    (pss_cons (ps_if (pt_cmpR (ka_ne (K := W.K) (u64 hr) rfl) (pe_dget (u1 hr) (pv 0) pe_str (fun _ _ => rfl)) (pe_lst pa_nil) (nomark _)) (pss_one (ps_set (i := 4) sc__law_draw.nd rfl (by first | exact Or.inl rfl | exact Or.inr rfl) (pe_ix (ka_ix (K := W.K) rfl) (pe_dget (u1 hr) (pv 0) pe_str (fun _ _ => rfl)) (pe_op op_mod (pe_callTy call_int1 rfl T.m_int (by decide +kernel) (pa_cons (pv 3) pa_nil)) (pe_callB (ka_len (K := W.K) rfl) rfl T.m_len (by decide +kernel) (pa_cons (pe_dget (u1 hr) (pv 0) pe_str (fun _ _ => rfl)) pa_nil))) (fun _ _ => rfl)))) pss_nil)
    (pss_cons (ps_if (PW.pt (pw_and (pt_cmpR op_lt (pv 3) (pe_callB (ka_len (K := W.K) rfl) rfl T.m_len (by decide +kernel) (pa_cons (pe_dget (u1 hr) (pv 0) pe_str (fun _ _ => rfl)) pa_nil)) (nomark _)) (pw_and1 (pt_cmpR op_ge (pe_callB call_abs rfl T.m_abs (by decide +kernel) (pa_cons (pv 4) pa_nil)) (pe_op op_pow pe_int pe_int) (nomark _))))) (pss_cons (ps_set (i := 5) sc__law_draw.nd rfl (by first | exact Or.inl rfl | exact Or.inr rfl) (pe_op (ka_add (K := W.K) rfl) (pe_op op_mul pe_int (pe_callB call_abs rfl T.m_abs (by decide +kernel) (pa_cons (pv 4) pa_nil))) (pe_callTy call_int1 rfl T.m_int (by decide +kernel) (pa_cons (pe_cmpR op_lt (pv 4) pe_int (nomark _)) pa_nil))))
    (pss_cons (ps_dput (u1 hr) (pv 0) pe_str (pe_op op_fdiv (pe_callTy call_int1 rfl T.m_int (by decide +kernel) (pa_cons (pv 5) pa_nil)) (pv 1)) (by rfl))
    (pss_one (ps_ret (pe_op op_mod (pe_callTy call_int1 rfl T.m_int (by decide +kernel) (pa_cons (pv 5) pa_nil)) (pv 1)))))) pss_nil)
    (pss_cons (ps_set (i := 6) sc__law_draw.nd rfl (by first | exact Or.inl rfl | exact Or.inr rfl) (pe_op op_mod (pe_callTy call_int1 rfl T.m_int (by decide +kernel) (pa_cons (pe_op op_pow (pe_op (ka_add (K := W.K) rfl) (pe_op (ka_add (K := W.K) rfl) (pe_op op_mod (pe_callTy call_int1 rfl T.m_int (by decide +kernel) (pa_cons (pv 4) pa_nil)) pe_int) (pe_op op_mul pe_int (pv 3))) pe_int) pe_int) pa_nil)) pe_int))
    (pss_cons (ps_set (i := 6) sc__law_draw.nd rfl (by first | exact Or.inl rfl | exact Or.inr rfl) (pe_op op_mod (pe_callTy call_int1 rfl T.m_int (by decide +kernel) (pa_cons (pe_op op_pow (pe_op (ka_add (K := W.K) rfl) (pe_op (ka_add (K := W.K) rfl) (pe_op op_mul (pv 6) (pe_op (ka_add (K := W.K) rfl) (pe_op op_mul pe_int (pv 3)) pe_int)) (pe_op op_mul (pe_op op_mul pe_int (pv 3)) (pv 3))) pe_int) pe_int) pa_nil)) pe_int))
    (pss_one (ps_ret (pe_op op_mod (pe_callTy call_int1 rfl T.m_int (by decide +kernel) (pa_cons (pe_op op_fdiv (pv 6) pe_int) pa_nil)) (pv 1)))))))))))),
    (ss_seq (ss_if (st_test (se_op opd_gt (se_dget se_str) se_int)) (ss_seq (ss_set (se_op opd_mod (se_cb cd_int (sa_cons (se_dget se_str) sa_nil)) se_var))
    (ss_seq (ss_dput se_str rfl (se_op opd_fdiv (se_cb cd_int (sa_cons (se_dget se_str) sa_nil)) se_var))
    (ss_ret se_var))) ss_next)
    (ss_seq (ss_set (se_dget se_str))
    (ss_seq (ss_dput se_str rfl (se_op opd_add se_var se_int))
    (ss_seq (ss_set (se_op opd_add (se_op opd_mul se_int se_var) se_int))
    (ss_seq (ss_if (st_test (se_op opd_neX (se_dget se_str) (se_f (sf_lst sa_nil)))) (ss_set (se_op opd_ix (se_dget se_str) (se_op opd_mod (se_cb cd_int (sa_cons se_var sa_nil)) (se_cb cd_len (sa_cons (se_dget se_str) sa_nil))))) ss_next)
    (ss_seq (ss_if (st_and (st_test (se_op opd_lt se_var (se_cb cd_len (sa_cons (se_dget se_str) sa_nil)))) (st_test (se_op opd_ge (se_cb cd_abs (sa_cons se_var sa_nil)) (se_op opd_pow se_int se_int)))) (ss_seq (ss_set (se_op opd_add (se_op opd_mul se_int (se_cb cd_abs (sa_cons se_var sa_nil))) (se_cb cd_int (sa_cons (se_op opd_lt se_var se_int) sa_nil))))
    (ss_seq (ss_dput se_str rfl (se_op opd_fdiv (se_cb cd_int (sa_cons se_var sa_nil)) se_var))
    (ss_ret (se_op opd_mod (se_cb cd_int (sa_cons se_var sa_nil)) se_var)))) ss_next)
    (ss_seq (ss_set (se_op opd_mod (se_cb cd_int (sa_cons (se_op opd_pow (se_op opd_add (se_op opd_add (se_op opd_mod (se_cb cd_int (sa_cons se_var sa_nil)) se_int) (se_op opd_mul se_int se_var)) se_int) se_int) sa_nil)) se_int))
    (ss_seq (ss_set (se_op opd_mod (se_cb cd_int (sa_cons (se_op opd_pow (se_op opd_add (se_op opd_add (se_op opd_mul se_var (se_op opd_add (se_op opd_mul se_int se_var) se_int)) (se_op opd_mul (se_op opd_mul se_int se_var) se_var)) se_int) se_int) sa_nil)) se_int))
    (ss_ret (se_op opd_mod (se_cb cd_int (sa_cons (se_op opd_fdiv se_var se_int) sa_nil)) se_var))))))))))⟩
theorem ok__law_names (T : Tx W mg) {k : Nat} (I : All P w base T k) : FnG P w W.K mg base (k + 1) T._law_names.f T._law_names.fd ["_law_pen_here", "_law_many"] (SpD W 2 (PhiF (cs (k + 1) 10))) := by
  refine fn_m (m := m__law_names (cs k)) T._law_names.fn sc__law_names rfl rfl fun cdv A outer s H E hg hr => ?_
  exact ⟨_, (pss_cons (ps_set (i := 2) sc__law_names.nd rfl (by first | exact Or.inl rfl | exact Or.inr rfl) pe_str)
    (pss_cons (ps_set (i := 3) sc__law_names.nd rfl (by first | exact Or.inl rfl | exact Or.inr rfl) (pe_g I._law_draw hg hr rfl T._law_draw.mg T._law_draw.fn.kp T._law_draw.bd (pa_cons (pv 0) (pa_cons pe_int pa_nil))))
    (pss_cons (ps_set (i := 4) sc__law_names.nd rfl (by first | exact Or.inl rfl | exact Or.inr rfl) (pe_g I._law_draw hg hr rfl T._law_draw.mg T._law_draw.fn.kp T._law_draw.bd (pa_cons (pv 0) (pa_cons pe_int pa_nil))))
    (pss_cons (ps_set (i := 5) sc__law_names.nd rfl (by first | exact Or.inl rfl | exact Or.inr rfl) (pe_lst pa_nil))
    (pss_cons (ps_for PassesOwn.never rfl (pi_range1 rfl T.m_range (pa_cons (pv 1) pa_nil)) (pg_name (i := 6) sc__law_names.nd rfl (by first | exact Or.inl rfl | exact Or.inr rfl)) (pss_cons (ps_set (i := 7) sc__law_names.nd rfl (by first | exact Or.inl rfl | exact Or.inr rfl) (pe_ix (ka_ix (K := W.K) rfl) (pv 2) (pe_op op_mod (pe_callTy call_int1 rfl T.m_int (by decide +kernel) (pa_cons (pe_op (ka_add (K := W.K) rfl) (pv 4) (pe_op op_mul pe_int (pv 6))) pa_nil)) pe_int) (fun _ _ => rfl)))
    (pss_cons (ps_set (i := 8) sc__law_names.nd rfl (by first | exact Or.inl rfl | exact Or.inr rfl) (pe_join pe_str (pe_lc (own := [("_law_j", 10)]) rfl sc__law_names.nd (pi_range1 rfl T.m_range (pa_cons (pe_g I._law_draw hg hr rfl T._law_draw.mg T._law_draw.fn.kp T._law_draw.bd (pa_cons (pv 0) (pa_cons pe_int pa_nil))) pa_nil)) (blkOk_by (own := [("_law_j", 10)]) (N := N__law_names) (sc := defScope s__law_names) (by decide +kernel)) (fun _ _ _ _ _ => (pg_name (i := 10) sc__law_names.nd rfl (by first | exact Or.inl rfl | exact Or.inr rfl))) (fun _ _ _ _ _ => pts_nil) (fun _ _ _ _ _ => (pe_ix (ka_ix (K := W.K) rfl) (pv 2) (pe_g I._law_draw hg hr rfl T._law_draw.mg T._law_draw.fn.kp T._law_draw.bd (pa_cons (pv 0) (pa_cons pe_int pa_nil))) (fun _ _ => rfl))))))
    (pss_cons (ps_set (i := 9) sc__law_names.nd rfl (by first | exact Or.inl rfl | exact Or.inr rfl) (pe_ix (ka_ix (K := W.K) rfl) (pe_lst (pa_cons (pv 7) (pa_cons (pe_op (ka_add (K := W.K) rfl) pe_str (pv 7)) (pa_cons (pe_op (ka_add (K := W.K) rfl) (pv 7) (pv 8)) pa_nil)))) (pv 3) (fun _ _ => rfl)))
    (pss_cons (ps_if (pt_cmpR (ka_in (K := W.K) rfl) (pv 9) (pe_tup (pa_cons pe_str (pa_cons pe_str pa_nil))) rfl) (pss_one (ps_set (i := 9) sc__law_names.nd rfl (by first | exact Or.inl rfl | exact Or.inr rfl) (pe_op (ka_add (K := W.K) rfl) (pv 9) pe_str))) pss_nil)
    (pss_one (ps_expr (pe_bm PySem.F.plainAttrs_list PySem.F.slot_list_append PySem.F.type_list_append mt_append (pv 5) (pa_cons (pv 9) pa_nil)))))))))
    (pss_one (ps_ret (pv 5)))))))),
    (ss_seq (ss_set se_str)
    (ss_seq (ss_set (se_gp (sa_cons se_int sa_nil)))
    (ss_seq (ss_set (se_gp (sa_cons se_int sa_nil)))
    (ss_seq (ss_own (sf_lst sa_nil))
    (ss_seq (ss_for (si_rng (sa_cons se_var sa_nil)) (ss_seq (ss_set (se_op opd_ix se_var (se_op opd_mod (se_cb cd_int (sa_cons (se_op opd_add se_var (se_op opd_mul se_int se_var)) sa_nil)) se_int)))
    (ss_seq (ss_set (se_m1 md_join se_str (se_f (sf_lc (j := 10) (si_rng (sa_cons (se_gp (sa_cons se_int sa_nil)) sa_nil)) st_yes (se_op opd_ix se_var (se_gp (sa_cons se_int sa_nil)))))))
    (ss_seq (ss_set (se_op opd_ix (se_f (sf_lst (sa_cons se_var (sa_cons (se_op opd_add se_str se_var) (sa_cons (se_op opd_add se_var se_var) sa_nil))))) se_var))
    (ss_seq (ss_if (st_test (se_op opd_in se_var (se_tup (sa_cons se_str (sa_cons se_str sa_nil))))) (ss_set (se_op opd_add se_var se_str)) ss_next)
    (ss_app se_var))))))
    (ss_ret se_var))))))⟩
theorem ok__law_words (T : Tx W mg) {k : Nat} (I : All P w base T k) : FnG P w W.K mg base (k + 1) T._law_words.f T._law_words.fd ["_law_pen_here"] (SpD W 1 (PhiF (cs (k + 1) 16))) := by
  refine fn_m (m := m__law_words (cs k)) T._law_words.fn sc__law_words rfl rfl fun cdv A outer s H E hg hr => ?_
  exact ⟨_, (pss_cons (ps_set (i := 1) sc__law_words.nd rfl (by first | exact Or.inl rfl | exact Or.inr rfl) (pe_g I._law_names hg hr rfl T._law_names.mg T._law_names.fn.kp T._law_names.bd (pa_cons (pv 0) (pa_cons pe_int pa_nil))))
    (pss_cons (ps_set (i := 2) sc__law_words.nd rfl (by first | exact Or.inl rfl | exact Or.inr rfl) (pe_lst pa_nil))
    (pss_cons (ps_for PassesOwn.never rfl (pi_range1 rfl T.m_range (pa_cons (pe_op (ka_add (K := W.K) rfl) pe_int (pe_g I._law_draw hg hr rfl T._law_draw.mg T._law_draw.fn.kp T._law_draw.bd (pa_cons (pv 0) (pa_cons pe_int pa_nil)))) pa_nil)) (pg_name (i := 3) sc__law_words.nd rfl (by first | exact Or.inl rfl | exact Or.inr rfl)) (pss_one (ps_expr (pe_bm PySem.F.plainAttrs_list PySem.F.slot_list_append PySem.F.type_list_append mt_append (pv 2) (pa_cons (pe_op (ka_add (K := W.K) rfl) (pe_op (ka_add (K := W.K) rfl) (pe_ix (ka_ix (K := W.K) rfl) (pv 1) (pe_op op_mod (pe_callTy call_int1 rfl T.m_int (by decide +kernel) (pa_cons (pv 3) pa_nil)) pe_int) (fun _ _ => rfl)) pe_str) (pe_ix (ka_ix (K := W.K) rfl) (pv 1) (pe_op (ka_add (K := W.K) rfl) pe_int (pe_op op_mod (pe_callTy call_int1 rfl T.m_int (by decide +kernel) (pa_cons (pe_op op_fdiv (pv 3) pe_int) pa_nil)) pe_int)) (fun _ _ => rfl))) pa_nil)))))
    (pss_one (ps_ret (pv 2)))))),
    (ss_seq (ss_set (se_gp (sa_cons se_int sa_nil)))
    (ss_seq (ss_own (sf_lst sa_nil))
    (ss_seq (ss_for (si_rng (sa_cons (se_op opd_add se_int (se_gp (sa_cons se_int sa_nil))) sa_nil)) (ss_app (se_op opd_add (se_op opd_add (se_op opd_ix se_var (se_op opd_mod (se_cb cd_int (sa_cons se_var sa_nil)) se_int)) se_str) (se_op opd_ix se_var (se_op opd_add se_int (se_op opd_mod (se_cb cd_int (sa_cons (se_op opd_fdiv se_var se_int) sa_nil)) se_int))))))
    (ss_ret se_var))))⟩
theorem ok__law_letters (T : Tx W mg) {k : Nat} (I : All P w base T k) : FnG P w W.K mg base (k + 1) T._law_letters.f T._law_letters.fd ["_law_pen_here"] (SpD W 1 (PhiF (cs (k + 1) 17))) := by
  refine fn_m (m := m__law_letters (cs k)) T._law_letters.fn sc__law_letters rfl rfl fun cdv A outer s H E hg hr => ?_
  exact ⟨_, (pss_cons (ps_set (i := 1) sc__law_letters.nd rfl (by first | exact Or.inl rfl | exact Or.inr rfl) (pe_g I._law_draw hg hr rfl T._law_draw.mg T._law_draw.fn.kp T._law_draw.bd (pa_cons (pv 0) (pa_cons pe_int pa_nil))))
    (pss_cons (ps_set (i := 2) sc__law_letters.nd rfl (by first | exact Or.inl rfl | exact Or.inr rfl) (pe_g I._law_draw hg hr rfl T._law_draw.mg T._law_draw.fn.kp T._law_draw.bd (pa_cons (pv 0) (pa_cons pe_int pa_nil))))
    (pss_cons (ps_set (i := 3) sc__law_letters.nd rfl (by first | exact Or.inl rfl | exact Or.inr rfl) pe_str)
    (pss_cons (ps_if (pt_cmpR (ka_eq (K := W.K) (u64 hr) rfl) (pv 1) pe_int (nomark _)) (pss_one (ps_ret (pe_lc (own := [("_law_k", 4)]) rfl sc__law_letters.nd (pi_range1 rfl T.m_range (pa_cons pe_int pa_nil)) (blkOk_by (own := [("_law_k", 4)]) (N := N__law_letters) (sc := defScope s__law_letters) (by decide +kernel)) (fun _ _ _ _ _ => (pg_name (i := 4) sc__law_letters.nd rfl (by first | exact Or.inl rfl | exact Or.inr rfl))) (fun _ _ _ _ _ => pts_nil) (fun _ _ _ _ _ => (pe_ix (ka_ix (K := W.K) rfl) (pv 3) (pe_op (ka_add (K := W.K) rfl) (pv 2) (pv 4)) (fun _ _ => rfl)))))) pss_nil)
    (pss_cons (ps_if (pt_cmpR (ka_eq (K := W.K) (u64 hr) rfl) (pv 1) pe_int (nomark _)) (pss_one (ps_ret (pe_lc (own := [("_law_k", 4)]) rfl sc__law_letters.nd (pi_range1 rfl T.m_range (pa_cons pe_int pa_nil)) (blkOk_by (own := [("_law_k", 4)]) (N := N__law_letters) (sc := defScope s__law_letters) (by decide +kernel)) (fun _ _ _ _ _ => (pg_name (i := 4) sc__law_letters.nd rfl (by first | exact Or.inl rfl | exact Or.inr rfl))) (fun _ _ _ _ _ => pts_nil) (fun _ _ _ _ _ => (pe_op (ka_add (K := W.K) rfl) pe_str (pe_callTy cr_strOf rfl T.m_str (by decide +kernel) (pa_cons (pe_op op_sub pe_int (pv 4)) pa_nil))))))) pss_nil)
    (pss_one (ps_ret (pe_lst (pa_cons (pe_ix (ka_ix (K := W.K) rfl) (pv 3) (pv 2) (fun _ _ => rfl)) (pa_cons (pe_op (ka_add (K := W.K) rfl) (pe_ix (ka_ix (K := W.K) rfl) (pv 3) (pv 2) (fun _ _ => rfl)) pe_str) (pa_cons (pe_op (ka_add (K := W.K) rfl) (pe_ix (ka_ix (K := W.K) rfl) (pv 3) (pv 2) (fun _ _ => rfl)) pe_str) (pa_cons (pe_op (ka_add (K := W.K) rfl) (pe_ix (ka_ix (K := W.K) rfl) (pv 3) (pv 2) (fun _ _ => rfl)) pe_str) (pa_cons (pe_op (ka_add (K := W.K) rfl) (pe_ix (ka_ix (K := W.K) rfl) (pv 3) (pv 2) (fun _ _ => rfl)) pe_str) pa_nil))))))))))))),
    (ss_seq (ss_set (se_gp (sa_cons se_int sa_nil)))
    (ss_seq (ss_set (se_gp (sa_cons se_int sa_nil)))
    (ss_seq (ss_set se_str)
    (ss_seq (ss_if (st_test (se_op opd_eqX se_var se_int)) (ss_ret (se_f (sf_lc (j := 4) (si_rng (sa_cons se_int sa_nil)) st_yes (se_op opd_ix se_var (se_op opd_add se_var se_var))))) ss_next)
    (ss_seq (ss_if (st_test (se_op opd_eqX se_var se_int)) (ss_ret (se_f (sf_lc (j := 4) (si_rng (sa_cons se_int sa_nil)) st_yes (se_op opd_add se_str (se_cb cd_str (sa_cons (se_op opd_sub se_int se_var) sa_nil)))))) ss_next)
    (ss_ret (se_f (sf_lst (sa_cons (se_op opd_ix se_var se_var) (sa_cons (se_op opd_add (se_op opd_ix se_var se_var) se_str) (sa_cons (se_op opd_add (se_op opd_ix se_var se_var) se_str) (sa_cons (se_op opd_add (se_op opd_ix se_var se_var) se_str) (sa_cons (se_op opd_add (se_op opd_ix se_var se_var) se_str) sa_nil)))))))))))))⟩
theorem ok__law_term (T : Tx W mg) {k : Nat} (I : All P w base T k) : FnG P w W.K mg base (k + 1) T._law_term.f T._law_term.fd ["_law_pen_here", "_law_lexicon", "_law_letters_here", "_law_deep", "_law_purse"] (SpD W 5 (PhiF (cs (k + 1) 11))) := by
  refine fn_m (m := m__law_term (cs k)) T._law_term.fn sc__law_term rfl rfl fun cdv A outer s H E hg hr => ?_
  exact ⟨_, (pss_cons (ps_asg (pe_op op_sub (pe_ix (ka_ix (K := W.K) rfl) (pv 4) pe_int (fun _ _ => rfl)) pe_int) (pg_sub (pv 4) pe_int set_list))
    (pss_cons (ps_set (i := 5) sc__law_term.nd rfl (by first | exact Or.inl rfl | exact Or.inr rfl) (pe_g I._law_draw hg hr rfl T._law_draw.mg T._law_draw.fn.kp T._law_draw.bd (pa_cons (pv 0) (pa_cons pe_int pa_nil))))
    (pss_cons (ps_if (PW.pt (pw_and (pt_cmpR (ka_ne (K := W.K) (u64 hr) rfl) (pv 2) (pe_lst pa_nil) (nomark _)) (pw_and1 (pt_cmpR op_lt (pv 5) pe_int (nomark _))))) (pss_one (ps_ret (pe_ix (ka_ix (K := W.K) rfl) (pv 2) (pe_g I._law_draw hg hr rfl T._law_draw.mg T._law_draw.fn.kp T._law_draw.bd (pa_cons (pv 0) (pa_cons (pe_callB (ka_len (K := W.K) rfl) rfl T.m_len (by decide +kernel) (pa_cons (pv 2) pa_nil)) pa_nil))) (fun _ _ => rfl)))) pss_nil)
    (pss_cons (ps_set (i := 6) sc__law_term.nd rfl (by first | exact Or.inl rfl | exact Or.inr rfl) (pe_tup (pa_cons (pe_ix (ka_ix (K := W.K) rfl) (pv 1) (pe_g I._law_draw hg hr rfl T._law_draw.mg T._law_draw.fn.kp T._law_draw.bd (pa_cons (pv 0) (pa_cons (pe_callB (ka_len (K := W.K) rfl) rfl T.m_len (by decide +kernel) (pa_cons (pv 1) pa_nil)) pa_nil))) (fun _ _ => rfl)) pa_nil)))
    (pss_cons (ps_for PassesOwn.never rfl (pi_range1 rfl T.m_range (pa_cons (pe_op op_mul (pe_ix (ka_ix (K := W.K) rfl) (pe_lst (pa_cons pe_int (pa_cons pe_int (pa_cons pe_int (pa_cons pe_int (pa_cons pe_int pa_nil)))))) (pv 5) (fun _ _ => rfl)) (pe_callTy call_int1 rfl T.m_int (by decide +kernel) (pa_cons (pe_cmpR op_gt (pv 3) pe_int (nomark _)) pa_nil))) pa_nil)) (pg_name (i := 7) sc__law_term.nd rfl (by first | exact Or.inl rfl | exact Or.inr rfl)) (pss_one (ps_if (pt_cmpR op_gt (pe_ix (ka_ix (K := W.K) rfl) (pv 4) pe_int (fun _ _ => rfl)) pe_int (nomark _)) (pss_one (ps_set (i := 6) sc__law_term.nd rfl (by first | exact Or.inl rfl | exact Or.inr rfl) (pe_op (ka_add (K := W.K) rfl) (pv 6) (pe_tup (pa_cons (pe_g I._law_term hg hr rfl T._law_term.mg T._law_term.fn.kp T._law_term.bd (pa_cons (pv 0) (pa_cons (pv 1) (pa_cons (pv 2) (pa_cons (pe_op op_sub (pv 3) pe_int) (pa_cons (pv 4) pa_nil)))))) pa_nil))))) pss_nil)))
    (pss_one (ps_ret (pv 6)))))))),
    (ss_seq (ss_lput (se_op opd_sub (se_lget se_int) se_int))
    (ss_seq (ss_set (se_gp (sa_cons se_int sa_nil)))
    (ss_seq (ss_if (st_and (st_test (se_op opd_neX se_var (se_f (sf_lst sa_nil)))) (st_test (se_op opd_lt se_var se_int))) (ss_ret (se_op opd_ix se_var (se_gp (sa_cons (se_cb cd_len (sa_cons se_var sa_nil)) sa_nil)))) ss_next)
    (ss_seq (ss_set (se_tup (sa_cons (se_op opd_ix se_var (se_gp (sa_cons (se_cb cd_len (sa_cons se_var sa_nil)) sa_nil))) sa_nil)))
    (ss_seq (ss_for (si_rng (sa_cons (se_op opd_mul (se_op opd_ix (se_f (sf_lst (sa_cons se_int (sa_cons se_int (sa_cons se_int (sa_cons se_int (sa_cons se_int sa_nil))))))) se_var) (se_cb cd_int (sa_cons (se_op opd_gt se_var se_int) sa_nil))) sa_nil)) (ss_if (st_test (se_op opd_gt (se_lget se_int) se_int)) (ss_set (se_op opd_add se_var (se_tup (sa_cons (se_gl (sl_own (sl_dat se_var (sl_dat se_var (sl_dat (se_op opd_sub se_var se_int) (sl_own sl_nil)))))) sa_nil)))) ss_next))
    (ss_ret se_var))))))⟩
theorem ok__law_full (T : Tx W mg) {k : Nat} (I : All P w base T k) : FnG P w W.K mg base (k + 1) T._law_full.f T._law_full.fd ["_law_pen_here", "_law_lexicon", "_law_letters_here", "_law_deep"] (SpD W 4 (PhiF (cs (k + 1) 15))) := by
  refine fn_m (m := m__law_full (cs k)) T._law_full.fn sc__law_full rfl rfl fun cdv A outer s H E hg hr => ?_
  exact ⟨_, (pss_cons (ps_if (pt_cmpR (ka_eq (K := W.K) (u64 hr) rfl) (pv 3) pe_int (nomark _)) (pss_one (ps_ret (pe_ix (ka_ix (K := W.K) rfl) (pe_op (ka_add (K := W.K) rfl) (pv 2) (pe_lst (pa_cons (pe_tup (pa_cons (pe_ix (ka_ix (K := W.K) rfl) (pv 1) pe_int (fun _ _ => rfl)) pa_nil)) pa_nil))) (pe_g I._law_draw hg hr rfl T._law_draw.mg T._law_draw.fn.kp T._law_draw.bd (pa_cons (pv 0) (pa_cons (pe_op (ka_add (K := W.K) rfl) (pe_callB (ka_len (K := W.K) rfl) rfl T.m_len (by decide +kernel) (pa_cons (pv 2) pa_nil)) pe_int) pa_nil))) (fun _ _ => rfl)))) pss_nil)
    (pss_cons (ps_set (i := 4) sc__law_full.nd rfl (by first | exact Or.inl rfl | exact Or.inr rfl) (pe_callTy (ka_tuple (K := W.K) rfl) rfl T.m_tuple (by decide +kernel) (pa_cons (pe_lc (own := [("_law_k", 5)]) rfl sc__law_full.nd (pi_range1 rfl T.m_range (pa_cons pe_int pa_nil)) (blkOk_by (own := [("_law_k", 5)]) (N := N__law_full) (sc := defScope s__law_full) (by decide +kernel)) (fun _ _ _ _ _ => (pg_name (i := 5) sc__law_full.nd rfl (by first | exact Or.inl rfl | exact Or.inr rfl))) (fun _ _ _ _ _ => pts_nil) (fun _ _ _ _ _ => (pe_g I._law_full hg hr rfl T._law_full.mg T._law_full.fn.kp T._law_full.bd (pa_cons (pv 0) (pa_cons (pv 1) (pa_cons (pv 2) (pa_cons (pe_op op_sub (pv 3) pe_int) pa_nil))))))) pa_nil)))
    (pss_one (ps_ret (pe_op (ka_add (K := W.K) rfl) (pe_tup (pa_cons (pe_ix (ka_ix (K := W.K) rfl) (pv 1) (pe_g I._law_draw hg hr rfl T._law_draw.mg T._law_draw.fn.kp T._law_draw.bd (pa_cons (pv 0) (pa_cons (pe_callB (ka_len (K := W.K) rfl) rfl T.m_len (by decide +kernel) (pa_cons (pv 1) pa_nil)) pa_nil))) (fun _ _ => rfl)) pa_nil)) (pv 4)))))),
    (ss_seq (ss_if (st_test (se_op opd_eqX se_var se_int)) (ss_ret (se_op opd_ix (se_op opd_add se_var (se_f (sf_lst (sa_cons (se_tup (sa_cons (se_op opd_ix se_var se_int) sa_nil)) sa_nil)))) (se_gp (sa_cons (se_op opd_add (se_cb cd_len (sa_cons se_var sa_nil)) se_int) sa_nil)))) ss_next)
    (ss_seq (ss_set (se_cb cd_tuple (sa_cons (se_f (sf_lc (j := 5) (si_rng (sa_cons se_int sa_nil)) st_yes (se_gp (sa_cons se_var (sa_cons se_var (sa_cons (se_op opd_sub se_var se_int) sa_nil)))))) sa_nil)))
    (ss_ret (se_op opd_add (se_tup (sa_cons (se_op opd_ix se_var (se_gp (sa_cons (se_cb cd_len (sa_cons se_var sa_nil)) sa_nil))) sa_nil)) se_var))))⟩
theorem ok__law_pieces (T : Tx W mg) {k : Nat} (I : All P w base T k) : FnG P w W.K mg base (k + 1) T._law_pieces.f T._law_pieces.fd ["_law_tree"] (SpD W 1 (PhiF (cs (k + 1) 34))) := by
  refine fn_m (m := m__law_pieces (cs k)) T._law_pieces.fn sc__law_pieces rfl rfl fun cdv A outer s H E hg hr => ?_
  exact ⟨_, (pss_cons (ps_set (i := 1) sc__law_pieces.nd rfl (by first | exact Or.inl rfl | exact Or.inr rfl) (pe_lst (pa_cons (pv 0) pa_nil)))
    (pss_cons (ps_if (pt_not (ka_tru (K := W.K) rfl (pe_callB (ka_isi (K := W.K) rfl) rfl T.m_isinstance (by decide +kernel) (pa_cons (pv 0) (pa_cons (pe_bltn (v := .ty "str") (u := .type "str") rfl T.m_str (by decide +kernel) rfl) pa_nil))) (by intro _; rfl))) (pss_one (ps_for PassesOwn.never rfl (ka_ptup (K := W.K) rfl (pe_slice (ka_sl (K := W.K) rfl) (pv 0) (po_some pe_int) po_none)) (pg_name (i := 2) sc__law_pieces.nd rfl (by first | exact Or.inl rfl | exact Or.inr rfl)) (pss_one (ps_expr (pe_bm PySem.F.plainAttrs_list PySem.F.slot_list_extend PySem.F.type_list_extend (mt_extS (K := W.K) rfl) (pv 1) (pa_cons (pe_g I._law_pieces hg hr rfl T._law_pieces.mg T._law_pieces.fn.kp T._law_pieces.bd (pa_cons (pv 2) pa_nil)) pa_nil)))))) pss_nil)
    (pss_one (ps_ret (pv 1))))),
    (ss_seq (ss_own (sf_lst (sa_cons se_var sa_nil)))
    (ss_seq (ss_if (st_not (st_tru (se_is isk_str se_var))) (ss_for (si_tup (se_sl se_var (so_some se_int) so_none)) (ss_ext (se_g (sa_cons se_var sa_nil)))) ss_next)
    (ss_ret se_var)))⟩
theorem ok__law_variables (T : Tx W mg) {k : Nat} (I : All P w base T k) : FnG P w W.K mg base (k + 1) T._law_variables.f T._law_variables.fd ["_law_trees"] (SpD W 1 (PhiF (cs (k + 1) 42))) := by
  refine fn_m (m := m__law_variables (cs k)) T._law_variables.fn sc__law_variables rfl rfl fun cdv A outer s H E hg hr => ?_
  exact ⟨_, (pss_cons (ps_set (i := 1) sc__law_variables.nd rfl (by first | exact Or.inl rfl | exact Or.inr rfl) (pe_lst pa_nil))
    (pss_cons (ps_for PassesOwn.never rfl (ka_ptup (K := W.K) rfl (pv 0)) (pg_name (i := 2) sc__law_variables.nd rfl (by first | exact Or.inl rfl | exact Or.inr rfl)) (pss_one (ps_for PassesOwn.never rfl (ka_plist (K := W.K) rfl (pe_g I._law_pieces hg hr rfl T._law_pieces.mg T._law_pieces.fn.kp T._law_pieces.bd (pa_cons (pv 2) pa_nil))) (pg_name (i := 3) sc__law_variables.nd rfl (by first | exact Or.inl rfl | exact Or.inr rfl)) (pss_one (ps_if (PW.pt (pw_and (ka_tru (K := W.K) rfl (pe_callB (ka_isi (K := W.K) rfl) rfl T.m_isinstance (by decide +kernel) (pa_cons (pv 3) (pa_cons (pe_bltn (v := .ty "str") (u := .type "str") rfl T.m_str (by decide +kernel) rfl) pa_nil))) (by intro _; rfl)) (pw_and1 (pt_cmpR (ka_ni (K := W.K) rfl) (pv 3) (pv 1) rfl)))) (pss_one (ps_expr (pe_bm PySem.F.plainAttrs_list PySem.F.slot_list_append PySem.F.type_list_append mt_append (pv 1) (pa_cons (pv 3) pa_nil)))) pss_nil)))))
    (pss_one (ps_ret (pv 1))))),
    (ss_seq (ss_own (sf_lst sa_nil))
    (ss_seq (ss_for (si_tup se_var) (ss_for (si_list (se_g (sa_cons se_var sa_nil))) (ss_if (st_and (st_tru (se_is isk_str se_var)) (st_test (se_peek (se_op opd_ni se_var se_var)))) (ss_app se_var) ss_next)))
    (ss_ret se_var)))⟩
theorem ok__law_filled (T : Tx W mg) {k : Nat} (I : All P w base T k) : FnG P w W.K mg base (k + 1) T._law_filled.f T._law_filled.fd ["_law_tree", "_law_swap_here"] (SpD W 2 (PhiF (cs (k + 1) 41))) := by
  refine fn_m (m := m__law_filled (cs k)) T._law_filled.fn sc__law_filled rfl rfl fun cdv A outer s H E hg hr => ?_
  exact ⟨_, (pss_cons (ps_if (ka_tru (K := W.K) rfl (pe_callB (ka_isi (K := W.K) rfl) rfl T.m_isinstance (by decide +kernel) (pa_cons (pv 0) (pa_cons (pe_bltn (v := .ty "str") (u := .type "str") rfl T.m_str (by decide +kernel) rfl) pa_nil))) (by intro _; rfl)) (pss_one (ps_ret (pe_dget2 (u1 hr) (pv 1) (pv 0) (pv 0) ⟨rfl, rfl, rfl, rfl⟩))) pss_nil)
    (pss_one (ps_ret (pe_op (ka_add (K := W.K) rfl) (pe_tup (pa_cons (pe_ix (ka_ix (K := W.K) rfl) (pv 0) pe_int (fun _ _ => rfl)) pa_nil)) (pe_callTy (ka_tuple (K := W.K) rfl) rfl T.m_tuple (by decide +kernel) (pa_cons (pe_lc (own := [("_law_part", 2)]) rfl sc__law_filled.nd (ka_ptup (K := W.K) rfl (pe_slice (ka_sl (K := W.K) rfl) (pv 0) (po_some pe_int) po_none)) (blkOk_by (own := [("_law_part", 2)]) (N := N__law_filled) (sc := defScope s__law_filled) (by decide +kernel)) (fun _ _ _ _ _ => (pg_name (i := 2) sc__law_filled.nd rfl (by first | exact Or.inl rfl | exact Or.inr rfl))) (fun _ _ _ _ _ => pts_nil) (fun _ _ _ _ _ => (pe_g I._law_filled hg hr rfl T._law_filled.mg T._law_filled.fn.kp T._law_filled.bd (pa_cons (pv 2) (pa_cons (pv 1) pa_nil))))) pa_nil)))))),
    (ss_seq (ss_if (st_tru (se_is isk_str se_var)) (ss_ret (se_dget2 se_var se_var se_var)) ss_next)
    (ss_ret (se_op opd_add (se_tup (sa_cons (se_op opd_ix se_var se_int) sa_nil)) (se_cb cd_tuple (sa_cons (se_f (sf_lc (j := 2) (si_tup (se_sl se_var (so_some se_int) so_none)) st_yes (se_g (sa_cons se_var (sa_cons se_var sa_nil))))) sa_nil)))))⟩
theorem ok__law_all_filled (T : Tx W mg) {k : Nat} (I : All P w base T k) : FnG P w W.K mg base (k + 1) T._law_all_filled.f T._law_all_filled.fd ["_law_trees", "_law_swap_here"] (SpD W 2 (PhiF (cs (k + 1) 43))) := by
  refine fn_m (m := m__law_all_filled (cs k)) T._law_all_filled.fn sc__law_all_filled rfl rfl fun cdv A outer s H E hg hr => ?_
  exact ⟨_, (pss_one (ps_ret (pe_callTy (ka_tuple (K := W.K) rfl) rfl T.m_tuple (by decide +kernel) (pa_cons (pe_lc (own := [("_law_tree", 2)]) rfl sc__law_all_filled.nd (ka_ptup (K := W.K) rfl (pv 0)) (blkOk_by (own := [("_law_tree", 2)]) (N := N__law_all_filled) (sc := defScope s__law_all_filled) (by decide +kernel)) (fun _ _ _ _ _ => (pg_name (i := 2) sc__law_all_filled.nd rfl (by first | exact Or.inl rfl | exact Or.inr rfl))) (fun _ _ _ _ _ => pts_nil) (fun _ _ _ _ _ => (pe_g I._law_filled hg hr rfl T._law_filled.mg T._law_filled.fn.kp T._law_filled.bd (pa_cons (pv 2) (pa_cons (pv 1) pa_nil))))) pa_nil)))),
    (ss_ret (se_cb cd_tuple (sa_cons (se_f (sf_lc (j := 2) (si_tup se_var) st_yes (se_g (sa_cons se_var (sa_cons se_var sa_nil))))) sa_nil)))⟩
theorem ok__law_renamed (T : Tx W mg) {k : Nat} (I : All P w base T k) : FnG P w W.K mg base (k + 1) T._law_renamed.f T._law_renamed.fd ["_law_trees"] (SpD W 1 (PhiF (cs (k + 1) 221))) := by
  refine fn_m (m := m__law_renamed (cs k)) T._law_renamed.fn sc__law_renamed rfl rfl fun cdv A outer s H E hg hr => ?_
  exact ⟨_, (pss_cons (ps_set (i := 1) sc__law_renamed.nd rfl (by first | exact Or.inl rfl | exact Or.inr rfl) (pe_g I._law_variables hg hr rfl T._law_variables.mg T._law_variables.fn.kp T._law_variables.bd (pa_cons (pv 0) pa_nil)))
    (pss_one (ps_ret (pe_g I._law_all_filled hg hr rfl T._law_all_filled.mg T._law_all_filled.fn.kp T._law_all_filled.bd (pa_cons (pv 0) (pa_cons (pe_callTy (ka_dictP (K := W.K) rfl rfl) rfl T.m_dict (by decide +kernel) (pa_cons (pe_lc (own := [("_law_k", 2)]) rfl sc__law_renamed.nd (pi_range1 rfl T.m_range (pa_cons (pe_callB (ka_len (K := W.K) rfl) rfl T.m_len (by decide +kernel) (pa_cons (pv 1) pa_nil)) pa_nil)) (blkOk_by (own := [("_law_k", 2)]) (N := N__law_renamed) (sc := defScope s__law_renamed) (by decide +kernel)) (fun _ _ _ _ _ => (pg_name (i := 2) sc__law_renamed.nd rfl (by first | exact Or.inl rfl | exact Or.inr rfl))) (fun _ _ _ _ _ => pts_nil) (fun _ _ _ _ _ => (pe_tup (pa_cons (pe_ix (ka_ix (K := W.K) rfl) (pv 1) (pv 2) (fun _ _ => rfl)) (pa_cons (pe_op (ka_add (K := W.K) rfl) pe_str (pe_callTy cr_strOf rfl T.m_str (by decide +kernel) (pa_cons (pv 2) pa_nil))) pa_nil))))) pa_nil)) pa_nil)))))),
    (ss_seq (ss_set (se_g (sa_cons se_var sa_nil)))
    (ss_ret (se_g (sa_cons se_var (sa_cons (se_cb cd_dictP (sa_cons (se_f (sf_lc (j := 2) (si_rng (sa_cons (se_cb cd_len (sa_cons se_var sa_nil)) sa_nil)) st_yes (se_tup (sa_cons (se_op opd_ix se_var se_var) (sa_cons (se_op opd_add se_str (se_cb cd_str (sa_cons se_var sa_nil))) sa_nil))))) sa_nil)) sa_nil)))))⟩
theorem ok__law_swap (T : Tx W mg) {k : Nat} (I : All P w base T k) : FnG P w W.K mg base (k + 1) T._law_swap.f T._law_swap.fd ["_law_pen_here", "_law_lexicon", "_law_letters_here"] (SpD W 3 (PhiF (cs (k + 1) 48))) := by
  refine fn_m (m := m__law_swap (cs k)) T._law_swap.fn sc__law_swap rfl rfl fun cdv A outer s H E hg hr => ?_
  exact ⟨_, (pss_cons (ps_set (i := 3) sc__law_swap.nd rfl (by first | exact Or.inl rfl | exact Or.inr rfl) (pe_g I._law_draw hg hr rfl T._law_draw.mg T._law_draw.fn.kp T._law_draw.bd (pa_cons (pv 0) (pa_cons pe_int pa_nil))))
    (pss_cons (ps_set (i := 4) sc__law_swap.nd rfl (by first | exact Or.inl rfl | exact Or.inr rfl) pe_dnewK)
    (pss_cons (ps_for PassesOwn.never rfl (pi_range1 rfl T.m_range (pa_cons (pe_callB (ka_len (K := W.K) rfl) rfl T.m_len (by decide +kernel) (pa_cons (pv 2) pa_nil)) pa_nil)) (pg_name (i := 5) sc__law_swap.nd rfl (by first | exact Or.inl rfl | exact Or.inr rfl)) (pss_one (ps_if (pt_cmpR (ka_eq (K := W.K) (u64 hr) rfl) (pv 3) pe_int (nomark _)) (pss_one (ps_dput (u1 hr) (pv 4) (pe_ix (ka_ix (K := W.K) rfl) (pv 2) (pv 5) (fun _ _ => rfl)) (pe_ix (ka_ix (K := W.K) rfl) (pv 2) (pe_op op_mod (pe_callTy call_int1 rfl T.m_int (by decide +kernel) (pa_cons (pe_op (ka_add (K := W.K) rfl) (pv 5) pe_int) pa_nil)) (pe_callB (ka_len (K := W.K) rfl) rfl T.m_len (by decide +kernel) (pa_cons (pv 2) pa_nil))) (fun _ _ => rfl)) (by rfl))) (pss_one (ps_if (PW.pt (pw_or (pt_cmpR (ka_eq (K := W.K) (u64 hr) rfl) (pv 3) pe_int (nomark _)) (pw_or1 (pt_cmpR (ka_eq (K := W.K) (u64 hr) rfl) (pe_g I._law_draw hg hr rfl T._law_draw.mg T._law_draw.fn.kp T._law_draw.bd (pa_cons (pv 0) (pa_cons pe_int pa_nil))) pe_int (nomark _))))) (pss_one (ps_dput (u1 hr) (pv 4) (pe_ix (ka_ix (K := W.K) rfl) (pv 2) (pv 5) (fun _ _ => rfl)) (pe_g I._law_term hg hr rfl T._law_term.mg T._law_term.fn.kp T._law_term.bd (pa_cons (pv 0) (pa_cons (pv 1) (pa_cons (pv 2) (pa_cons pe_int (pa_cons (pe_lst (pa_cons pe_int pa_nil)) pa_nil)))))) (by rfl))) pss_nil)))))
    (pss_cons (ps_if (pt_cmpR (ka_eq (K := W.K) (u64 hr) rfl) (pv 3) pe_int (nomark _)) (pss_one (ps_ret pe_dnewK)) pss_nil)
    (pss_cons (ps_dput (u1 hr) (pv 4) (pe_op (ka_add (K := W.K) rfl) pe_str (pe_callTy cr_strOf rfl T.m_str (by decide +kernel) (pa_cons (pe_g I._law_draw hg hr rfl T._law_draw.mg T._law_draw.fn.kp T._law_draw.bd (pa_cons (pv 0) (pa_cons pe_int pa_nil))) pa_nil))) (pe_tup (pa_cons (pe_ix (ka_ix (K := W.K) rfl) (pv 1) pe_int (fun _ _ => rfl)) pa_nil)) (by rfl))
    (pss_one (ps_ret (pv 4)))))))),
    (ss_seq (ss_set (se_gp (sa_cons se_int sa_nil)))
    (ss_seq ss_ownD
    (ss_seq (ss_for (si_rng (sa_cons (se_cb cd_len (sa_cons se_var sa_nil)) sa_nil)) (ss_if (st_test (se_op opd_eqX se_var se_int)) (ss_dputk (se_op opd_ix se_var se_var) (se_op opd_ix se_var (se_op opd_mod (se_cb cd_int (sa_cons (se_op opd_add se_var se_int) sa_nil)) (se_cb cd_len (sa_cons se_var sa_nil))))) (ss_if (st_or (st_test (se_op opd_eqX se_var se_int)) (st_test (se_op opd_eqX (se_gp (sa_cons se_int sa_nil)) se_int))) (ss_dputk (se_op opd_ix se_var se_var) (se_glf (sf_own (sf_dat se_var (sf_dat se_var (sf_dat se_int (sf_last (sf_lst (sa_cons se_int sa_nil))))))))) ss_next)))
    (ss_seq (ss_if (st_test (se_op opd_eqX se_var se_int)) (ss_ret se_dnew) ss_next)
    (ss_seq (ss_dputk (se_op opd_add se_str (se_cb cd_str (sa_cons (se_gp (sa_cons se_int sa_nil)) sa_nil))) (se_tup (sa_cons (se_op opd_ix se_var se_int) sa_nil)))
    (ss_ret se_var))))))⟩
theorem ok__law_wood (T : Tx W mg) {k : Nat} (I : All P w base T k) : FnG P w W.K mg base (k + 1) T._law_wood.f T._law_wood.fd ["_law_deep", "_law_start"] (SpD W 2 (PhiF (cs (k + 1) 44))) := by
  refine fn_m (m := m__law_wood (cs k)) T._law_wood.fn sc__law_wood rfl rfl fun cdv A outer s H E hg hr => ?_
  exact ⟨_, (pss_cons (ps_if (pt_cmpR (ka_eq (K := W.K) (u64 hr) rfl) (pv 0) pe_int (nomark _)) (pss_one (ps_ret (pe_op (ka_add (K := W.K) rfl) (pe_ix (ka_ix (K := W.K) rfl) pe_str (pe_op op_mod (pe_callTy call_int1 rfl T.m_int (by decide +kernel) (pa_cons (pv 1) pa_nil)) pe_int) (fun _ _ => rfl)) (pe_callTy cr_strOf rfl T.m_str (by decide +kernel) (pa_cons (pe_op op_fdiv (pv 1) pe_int) pa_nil))))) pss_nil)
    (pss_cons (ps_set (i := 2) sc__law_wood.nd rfl (by first | exact Or.inl rfl | exact Or.inr rfl) (pe_ix (ka_ix (K := W.K) rfl) (pe_lst (pa_cons pe_int (pa_cons pe_int (pa_cons pe_int (pa_cons pe_int pa_nil))))) (pe_op op_sub (pv 0) pe_int) (fun _ _ => rfl)))
    (pss_one (ps_ret (pe_op (ka_add (K := W.K) rfl) (pe_tup (pa_cons pe_str pa_nil)) (pe_callTy (ka_tuple (K := W.K) rfl) rfl T.m_tuple (by decide +kernel) (pa_cons (pe_lc (own := [("_law_k", 3)]) rfl sc__law_wood.nd (pi_range1 rfl T.m_range (pa_cons pe_int pa_nil)) (blkOk_by (own := [("_law_k", 3)]) (N := N__law_wood) (sc := defScope s__law_wood) (by decide +kernel)) (fun _ _ _ _ _ => (pg_name (i := 3) sc__law_wood.nd rfl (by first | exact Or.inl rfl | exact Or.inr rfl))) (fun _ _ _ _ _ => pts_nil) (fun _ _ _ _ _ => (pe_g I._law_wood hg hr rfl T._law_wood.mg T._law_wood.fn.kp T._law_wood.bd (pa_cons (pe_op op_sub (pv 0) pe_int) (pa_cons (pe_op (ka_add (K := W.K) rfl) (pv 1) (pe_op op_mul (pv 3) (pv 2))) pa_nil))))) pa_nil))))))),
    (ss_seq (ss_if (st_test (se_op opd_eqX se_var se_int)) (ss_ret (se_op opd_add (se_op opd_ix se_str (se_op opd_mod (se_cb cd_int (sa_cons se_var sa_nil)) se_int)) (se_cb cd_str (sa_cons (se_op opd_fdiv se_var se_int) sa_nil)))) ss_next)
    (ss_seq (ss_set (se_op opd_ix (se_f (sf_lst (sa_cons se_int (sa_cons se_int (sa_cons se_int (sa_cons se_int sa_nil)))))) (se_op opd_sub se_var se_int)))
    (ss_ret (se_op opd_add (se_tup (sa_cons se_str sa_nil)) (se_cb cd_tuple (sa_cons (se_f (sf_lc (j := 3) (si_rng (sa_cons se_int sa_nil)) st_yes (se_g (sa_cons (se_op opd_sub se_var se_int) (sa_cons (se_op opd_add se_var (se_op opd_mul se_var se_var)) sa_nil))))) sa_nil))))))⟩
theorem ok__law_filled_right (T : Tx W mg) {k : Nat} (I : All P w base T k) : FnG P w W.K mg base (k + 1) T._law_filled_right.f T._law_filled_right.fd ["_law_tree", "_law_swap_here"] (SpD W 2 (PhiF (cs (k + 1) 220))) := by
  refine fn_m (m := m__law_filled_right (cs k)) T._law_filled_right.fn sc__law_filled_right rfl rfl fun cdv A outer s H E hg hr => ?_
  exact ⟨_, (pss_cons (ps_set (i := 2) sc__law_filled_right.nd rfl (by first | exact Or.inl rfl | exact Or.inr rfl) (pe_callB (ka_reprL (K := W.K) hg (u64 hr) rfl) rfl T.m_repr (by decide +kernel) (pa_cons (pe_lstN (pa_cons (pv 0) (pa_cons (pv 1) pa_nil))) pa_nil)))
    (pss_cons (ps_set (i := 3) sc__law_filled_right.nd rfl (by first | exact Or.inl rfl | exact Or.inr rfl) (pe_callB (ka_repr (K := W.K) hg (u64 hr) rfl) rfl T.m_repr (by decide +kernel) (pa_cons (pe_g I._law_filled hg hr rfl T._law_filled.mg T._law_filled.fn.kp T._law_filled.bd (pa_cons (pv 0) (pa_cons (pv 1) pa_nil))) pa_nil)))
    (pss_cons (ps_set (i := 4) sc__law_filled_right.nd rfl (by first | exact Or.inl rfl | exact Or.inr rfl) (pe_callTy (ka_dictP (K := W.K) rfl rfl) rfl T.m_dict (by decide +kernel) (pa_cons (pe_lc (own := [("_law_name", 6)]) rfl sc__law_filled_right.nd (ka_plist (K := W.K) rfl (pe_revL (pe_callTy (ka_listX (K := W.K) rfl rfl) rfl T.m_list (by decide +kernel) (pa_cons (pv 1) pa_nil)))) (blkOk_by (own := [("_law_name", 6)]) (N := N__law_filled_right) (sc := defScope s__law_filled_right) (by decide +kernel)) (fun _ _ _ _ _ => (pg_name (i := 6) sc__law_filled_right.nd rfl (by first | exact Or.inl rfl | exact Or.inr rfl))) (fun _ _ _ _ _ => pts_nil) (fun _ _ _ _ _ => (pe_tup (pa_cons (pv 6) (pa_cons (pe_dget (u1 hr) (pv 1) (pv 6) (fun _ _ => rfl)) pa_nil))))) pa_nil)))
    (pss_cons (ps_set (i := 5) sc__law_filled_right.nd rfl (by first | exact Or.inl rfl | exact Or.inr rfl) (pe_lst (pa_cons (pe_g I.filled hg hr rfl T.filled.mg T.filled.fn.kp T.filled.bd (pa_cons (pv 0) (pa_cons (pv 1) pa_nil))) (pa_cons (pe_gK I.filled hg hr rfl T.filled.mg T.filled.fn.kp T.k_filled_fill_term (pk_cons (pv 4) (pk_cons (pv 0) pk_nil))) (pa_cons (pe_g I.filled hg hr rfl T.filled.mg T.filled.fn.kp T.filled.bd (pa_cons (pv 0) (pa_cons (pv 1) pa_nil))) pa_nil)))))
    (pss_one (ps_ret (pe_and (pe_cmpR (ka_eq (K := W.K) (u64 hr) rfl) (pe_callB (ka_repr (K := W.K) hg (u64 hr) rfl) rfl T.m_repr (by decide +kernel) (pa_cons (pv 5) pa_nil)) (pe_callB (ka_repr (K := W.K) hg (u64 hr) rfl) rfl T.m_repr (by decide +kernel) (pa_cons (pe_op op_rep (pe_lst (pa_cons (pe_g I._law_filled hg hr rfl T._law_filled.mg T._law_filled.fn.kp T._law_filled.bd (pa_cons (pv 0) (pa_cons (pv 1) pa_nil))) pa_nil)) pe_int) pa_nil)) (nomark _)) (pe_and (pe_cmpR (ka_eq (K := W.K) (u64 hr) rfl) (pe_callB (ka_repr (K := W.K) hg (u64 hr) rfl) rfl T.m_repr (by decide +kernel) (pa_cons (pe_ix (ka_ix (K := W.K) rfl) (pv 5) pe_int (fun _ _ => rfl)) pa_nil)) (pv 3) (nomark _)) (pe_one (pe_cmpR (ka_eq (K := W.K) (u64 hr) rfl) (pe_callB (ka_reprL (K := W.K) hg (u64 hr) rfl) rfl T.m_repr (by decide +kernel) (pa_cons (pe_lstN (pa_cons (pv 0) (pa_cons (pv 1) pa_nil))) pa_nil)) (pv 2) (nomark _))))))))))),
    (ss_seq (ss_set (se_reprL (sa_cons se_var (sa_cons se_var sa_nil))))
    (ss_seq (ss_set (se_repr (sa_cons (se_g (sa_cons se_var (sa_cons se_var sa_nil))) sa_nil)))
    (ss_seq (ss_set (se_cb cd_dictP (sa_cons (se_f (sf_lc (j := 6) (si_list (se_revL (se_f (sf_listX (sa_cons se_var sa_nil))))) st_yes (se_tup (sa_cons se_var (sa_cons (se_dix se_var se_var) sa_nil))))) sa_nil)))
    (ss_seq (ss_set (se_f (sf_lst (sa_cons (se_g (sa_cons se_var (sa_cons se_var sa_nil))) (sa_cons (se_gK (sa_cons se_var (sa_cons se_var sa_nil))) (sa_cons (se_g (sa_cons se_var (sa_cons se_var sa_nil))) sa_nil))))))
    (ss_ret (se_andV (se_op opd_eqX (se_repr (sa_cons se_var sa_nil)) (se_repr (sa_cons (se_op opd_rep (se_f (sf_lst (sa_cons (se_g (sa_cons se_var (sa_cons se_var sa_nil))) sa_nil))) se_int) sa_nil))) (se_andV (se_op opd_eqX (se_repr (sa_cons (se_op opd_ix se_var se_int) sa_nil)) se_var) (se_op opd_eqX (se_reprL (sa_cons se_var (sa_cons se_var sa_nil))) se_var))))))))⟩
theorem all (T : Tx W mg) : ∀ k, All P w base T k
  | 0 => ⟨fn_none rfl, fn_none rfl, fn_none rfl, fn_none rfl, fn_none rfl, fn_none rfl, fn_none rfl, fn_none rfl, fn_none rfl, fn_none rfl, fn_none rfl, fn_none rfl, fn_none rfl, fn_none rfl, fn_none rfl, fn_none rfl, fn_none rfl, fn_none rfl, fn_none rfl⟩
  | k + 1 => let I := all T k; ⟨ok_walk T I, ok_variables_in T I, ok_filled T I, ok_filled_all T I, ok_renamed T I, ok__law_draw T I, ok__law_names T I, ok__law_words T I, ok__law_letters T I, ok__law_term T I, ok__law_full T I, ok__law_pieces T I, ok__law_variables T I, ok__law_filled T I, ok__law_all_filled T I, ok__law_renamed T I, ok__law_swap T I, ok__law_wood T I, ok__law_filled_right T I⟩
theorem ok__law_pen (T : Tx W mg) {k : Nat} : FnG P w W.K mg base (k + 1) T._law_pen.f T._law_pen.fd ["_law_script"] (SpPen W) := by
  refine fn_pen T._law_pen.fn sc__law_pen fun cdv A outer s H E hg hr => ?_
  exact (pss_one (ps_ret (pe_disp (pps_cons pe_str (pe_callTy (ka_list (K := W.K) rfl) rfl T.m_list (by decide +kernel) (pa_cons (pe_slice (ka_sl (K := W.K) rfl) (pv 0) po_none (po_some pe_int)) pa_nil)) (pps_cons pe_str pe_int (pps_cons pe_str pe_int pps_nil))) (by rfl) (by rfl) (fun z => by cases z) (by decide))))
theorem ok_law (T : Tx W mg) {k : Nat} (hk1 : 1 ≤ k) (I : All P w base T k) : FnG P w W.K mg base (k + 1) T.law.f T.law.fd ["_law_script"] (SpD W 1 (PhiF (defM 1 12 (m_law (cs k))))) := by
  have hpen := ok__law_pen (P := P) (w := w) (base := base) T (k := 0)
  refine fn_m (m := m_law (cs k)) T.law.fn sc_law rfl rfl fun cdv A outer s H E hg hr => ?_
  exact ⟨_, (pss_cons (ps_set (i := 1) sc_law.nd rfl (by first | exact Or.inl rfl | exact Or.inr rfl) (pe_g hpen hg (hr.mono hk1) rfl T._law_pen.mg T._law_pen.fn.kp T._law_pen.bd (pa_cons (pv 0) pa_nil)))
    (pss_cons (ps_set (i := 2) sc_law.nd rfl (by first | exact Or.inl rfl | exact Or.inr rfl) (pe_g I._law_words hg hr rfl T._law_words.mg T._law_words.fn.kp T._law_words.bd (pa_cons (pv 1) pa_nil)))
    (pss_cons (ps_set (i := 3) sc_law.nd rfl (by first | exact Or.inl rfl | exact Or.inr rfl) (pe_g I._law_letters hg hr rfl T._law_letters.mg T._law_letters.fn.kp T._law_letters.bd (pa_cons (pv 1) pa_nil)))
    (pss_cons (ps_for PassesOwn.never rfl (pi_range1 rfl T.m_range (pa_cons pe_int pa_nil)) (pg_name (i := 4) sc_law.nd rfl (by first | exact Or.inl rfl | exact Or.inr rfl)) (pss_cons (ps_setLc (i := 5) (own := [("_law_k", 11)]) rfl sc_law.nd rfl rfl (sw_true rfl rfl rfl (by decide +kernel)) (pi_range1 rfl T.m_range (pa_cons (pe_g I._law_draw hg hr rfl T._law_draw.mg T._law_draw.fn.kp T._law_draw.bd (pa_cons (pv 1) (pa_cons pe_int pa_nil))) pa_nil)) (blkOk_by (own := [("_law_k", 11)]) (N := N_law) (sc := defScope s_law) (by decide +kernel)) (fun _ _ _ _ _ => (pg_name (i := 11) sc_law.nd rfl (by first | exact Or.inl rfl | exact Or.inr rfl))) (fun _ _ _ _ _ => pts_nil) (fun _ _ _ _ _ => (pe_g I._law_term hg hr rfl T._law_term.mg T._law_term.fn.kp T._law_term.bd (pa_cons (pv 1) (pa_cons (pv 2) (pa_cons (pv 3) (pa_cons pe_int (pa_cons (pe_lst (pa_cons pe_int pa_nil)) pa_nil))))))))
    (pss_cons (ps_expr (pe_bm PySem.F.plainAttrs_list PySem.F.slot_list_append PySem.F.type_list_append mt_append (pv 5) (pa_cons (pe_g I._law_full hg hr rfl T._law_full.mg T._law_full.fn.kp T._law_full.bd (pa_cons (pv 1) (pa_cons (pv 2) (pa_cons (pv 3) (pa_cons (pe_op (ka_add (K := W.K) rfl) pe_int (pe_g I._law_draw hg hr rfl T._law_draw.mg T._law_draw.fn.kp T._law_draw.bd (pa_cons (pv 1) (pa_cons pe_int pa_nil)))) pa_nil))))) pa_nil)))
    (pss_cons (ps_for PassesOwn.never rfl (ka_plist (K := W.K) rfl (pv 5)) (pg_name (i := 6) sc_law.nd rfl (by first | exact Or.inl rfl | exact Or.inr rfl)) (pss_one (ps_if (pt_not (ka_tru (K := W.K) rfl (pe_g I._law_filled_right hg hr rfl T._law_filled_right.mg T._law_filled_right.fn.kp T._law_filled_right.bd (pa_cons (pv 6) (pa_cons (pe_g I._law_swap hg hr rfl T._law_swap.mg T._law_swap.fn.kp T._law_swap.bd (pa_cons (pv 1) (pa_cons (pv 2) (pa_cons (pv 3) pa_nil)))) pa_nil))) (by intro _; rfl))) (pss_one (ps_ret pe_bl)) pss_nil)))
    (pss_one (ps_for PassesOwn.never rfl (ka_ptup (K := W.K) rfl (pe_tup (pa_cons (pe_tup pa_nil) (pa_cons (pe_callTy (ka_tuple (K := W.K) rfl) rfl T.m_tuple (by decide +kernel) (pa_cons (pe_slice (ka_sl (K := W.K) rfl) (pv 5) po_none (po_some pe_int)) pa_nil)) (pa_cons (pe_callTy (ka_tuple (K := W.K) rfl) rfl T.m_tuple (by decide +kernel) (pa_cons (pe_slice (ka_sl (K := W.K) rfl) (pv 5) (po_some (pe_un un_neg pe_int)) po_none) pa_nil)) (pa_cons (pe_callTy (ka_tuple (K := W.K) rfl) rfl T.m_tuple (by decide +kernel) (pa_cons (pe_slice (ka_sl (K := W.K) rfl) (pv 5) po_none (po_some pe_int)) pa_nil)) pa_nil)))))) (pg_name (i := 7) sc_law.nd rfl (by first | exact Or.inl rfl | exact Or.inr rfl)) (pss_cons (ps_set (i := 8) sc_law.nd rfl (by first | exact Or.inl rfl | exact Or.inr rfl) (pe_callB (ka_repr (K := W.K) hg (u64 hr) rfl) rfl T.m_repr (by decide +kernel) (pa_cons (pe_g I._law_renamed hg hr rfl T._law_renamed.mg T._law_renamed.fn.kp T._law_renamed.bd (pa_cons (pv 7) pa_nil)) pa_nil)))
    (pss_one (ps_if (PW.pt (pw_or (pt_cmpR (ka_ne (K := W.K) (u64 hr) rfl) (pe_callB (ka_repr (K := W.K) hg (u64 hr) rfl) rfl T.m_repr (by decide +kernel) (pa_cons (pe_g I.renamed hg hr rfl T.renamed.mg T.renamed.fn.kp T.renamed.bd (pa_cons (pv 7) pa_nil)) pa_nil)) (pv 8) (nomark _)) (pw_or1 (pt_cmpR (ka_ne (K := W.K) (u64 hr) rfl) (pe_callB (ka_repr (K := W.K) hg (u64 hr) rfl) rfl T.m_repr (by decide +kernel) (pa_cons (pe_gK I.renamed hg hr rfl T.renamed.mg T.renamed.fn.kp T.k_renamed_terms (pk_cons (pv 7) pk_nil)) pa_nil)) (pv 8) (nomark _))))) (pss_one (ps_ret pe_bl)) pss_nil)))))))))
    (pss_cons (ps_set (i := 9) sc_law.nd rfl (by first | exact Or.inl rfl | exact Or.inr rfl) (pe_op (ka_add (K := W.K) rfl) pe_int (pe_g I._law_draw hg hr rfl T._law_draw.mg T._law_draw.fn.kp T._law_draw.bd (pa_cons (pv 1) (pa_cons pe_int pa_nil)))))
    (pss_cons (ps_set (i := 10) sc_law.nd rfl (by first | exact Or.inl rfl | exact Or.inr rfl) (pe_callTy (ka_tuple (K := W.K) rfl) rfl T.m_tuple (by decide +kernel) (pa_cons (pe_lc (own := [("_law_k", 11)]) rfl sc_law.nd (pi_range1 rfl T.m_range (pa_cons pe_int pa_nil)) (blkOk_by (own := [("_law_k", 11)]) (N := N_law) (sc := defScope s_law) (by decide +kernel)) (fun _ _ _ _ _ => (pg_name (i := 11) sc_law.nd rfl (by first | exact Or.inl rfl | exact Or.inr rfl))) (fun _ _ _ _ _ => pts_nil) (fun _ _ _ _ _ => (pe_g I._law_wood hg hr rfl T._law_wood.mg T._law_wood.fn.kp T._law_wood.bd (pa_cons (pv 9) (pa_cons (pe_op op_mul (pv 11) (pe_ix (ka_ix (K := W.K) rfl) (pe_lst (pa_cons pe_int (pa_cons pe_int (pa_cons pe_int (pa_cons pe_int (pa_cons pe_int pa_nil)))))) (pe_op op_sub (pv 9) pe_int) (fun _ _ => rfl))) pa_nil))))) pa_nil)))
    (pss_one (ps_ret (pe_cmpR (ka_eq (K := W.K) (u64 hr) rfl) (pe_callB (ka_repr (K := W.K) hg (u64 hr) rfl) rfl T.m_repr (by decide +kernel) (pa_cons (pe_g I.renamed hg hr rfl T.renamed.mg T.renamed.fn.kp T.renamed.bd (pa_cons (pv 10) pa_nil)) pa_nil)) (pe_callB (ka_repr (K := W.K) hg (u64 hr) rfl) rfl T.m_repr (by decide +kernel) (pa_cons (pe_g I._law_renamed hg hr rfl T._law_renamed.mg T._law_renamed.fn.kp T._law_renamed.bd (pa_cons (pv 10) pa_nil)) pa_nil)) (nomark _)))))))))),
    (ss_seq ss_pen
    (ss_seq (ss_set (se_gp sa_nil))
    (ss_seq (ss_set (se_gp sa_nil))
    (ss_seq (ss_for (si_rng (sa_cons se_int sa_nil)) (ss_seq (ss_own (sf_lc (j := 11) (si_rng (sa_cons (se_gp (sa_cons se_int sa_nil)) sa_nil)) st_yes (se_glf (sf_own (sf_dat se_var (sf_dat se_var (sf_dat se_int (sf_last (sf_lst (sa_cons se_int sa_nil))))))))))
    (ss_seq (ss_app (se_gp (sa_cons se_var (sa_cons se_var (sa_cons (se_op opd_add se_int (se_gp (sa_cons se_int sa_nil))) sa_nil)))))
    (ss_seq (ss_for (si_list se_var) (ss_if (st_not (st_tru (se_g (sa_cons se_var (sa_cons (se_gp (sa_cons se_var (sa_cons se_var sa_nil))) sa_nil))))) (ss_ret se_bl) ss_next))
    (ss_for (si_tup (se_tup (sa_cons (se_tup sa_nil) (sa_cons (se_cb cd_tuple (sa_cons (se_sl se_var so_none (so_some se_int)) sa_nil)) (sa_cons (se_cb cd_tuple (sa_cons (se_sl se_var (so_some (se_un und_neg se_int)) so_none) sa_nil)) (sa_cons (se_cb cd_tuple (sa_cons (se_sl se_var so_none (so_some se_int)) sa_nil)) sa_nil)))))) (ss_seq (ss_set (se_repr (sa_cons (se_g (sa_cons se_var sa_nil)) sa_nil)))
    (ss_if (st_or (st_test (se_op opd_neX (se_repr (sa_cons (se_g (sa_cons se_var sa_nil)) sa_nil)) se_var)) (st_test (se_op opd_neX (se_repr (sa_cons (se_gK (sa_cons se_var sa_nil)) sa_nil)) se_var))) (ss_ret se_bl) ss_next)))))))
    (ss_seq (ss_set (se_op opd_add se_int (se_gp (sa_cons se_int sa_nil))))
    (ss_seq (ss_set (se_cb cd_tuple (sa_cons (se_f (sf_lc (j := 11) (si_rng (sa_cons se_int sa_nil)) st_yes (se_g (sa_cons se_var (sa_cons (se_op opd_mul se_var (se_op opd_ix (se_f (sf_lst (sa_cons se_int (sa_cons se_int (sa_cons se_int (sa_cons se_int (sa_cons se_int sa_nil))))))) (se_op opd_sub se_var se_int))) sa_nil))))) sa_nil)))
    (ss_ret (se_op opd_eqX (se_repr (sa_cons (se_g (sa_cons se_var sa_nil)) sa_nil)) (se_repr (sa_cons (se_g (sa_cons se_var sa_nil)) sa_nil))))))))))⟩
abbrev lawF : Fm := defM 1 12 (m_law (cs 30))
theorem facts {P : Program} {w : World} {K : PySem.W.Frag} {h : Heap} {mg : Str → Option Value} {fa : Addr} (KX : K.In h) (G : h.Ns mainGlobals mg) (hfa : mg "law" = some (.ref fa))
    {fx_walk : Addr} {od_walk an_walk : Option Addr} {sl_walk : Array (Option Value)} {oc_walk kV_walk dc_walk pm_walk cd_walk ct_walk : Value}
    {fx_variables_in : Addr} {od_variables_in an_variables_in : Option Addr} {sl_variables_in : Array (Option Value)} {oc_variables_in kV_variables_in dc_variables_in pm_variables_in cd_variables_in ct_variables_in : Value}
    {fx_filled : Addr} {od_filled an_filled : Option Addr} {sl_filled : Array (Option Value)} {oc_filled kV_filled dc_filled pm_filled cd_filled ct_filled : Value}
    {fx_filled_all : Addr} {od_filled_all an_filled_all : Option Addr} {sl_filled_all : Array (Option Value)} {oc_filled_all kV_filled_all dc_filled_all pm_filled_all cd_filled_all ct_filled_all : Value}
    {fx_renamed : Addr} {od_renamed an_renamed : Option Addr} {sl_renamed : Array (Option Value)} {oc_renamed kV_renamed dc_renamed pm_renamed cd_renamed ct_renamed : Value}
    {fx__law_pen : Addr} {od__law_pen an__law_pen : Option Addr} {sl__law_pen : Array (Option Value)} {oc__law_pen kV__law_pen dc__law_pen pm__law_pen cd__law_pen ct__law_pen : Value}
    {fx__law_draw : Addr} {od__law_draw an__law_draw : Option Addr} {sl__law_draw : Array (Option Value)} {oc__law_draw kV__law_draw dc__law_draw pm__law_draw cd__law_draw ct__law_draw : Value}
    {fx__law_names : Addr} {od__law_names an__law_names : Option Addr} {sl__law_names : Array (Option Value)} {oc__law_names kV__law_names dc__law_names pm__law_names cd__law_names ct__law_names : Value}
    {fx__law_words : Addr} {od__law_words an__law_words : Option Addr} {sl__law_words : Array (Option Value)} {oc__law_words kV__law_words dc__law_words pm__law_words cd__law_words ct__law_words : Value}
    {fx__law_letters : Addr} {od__law_letters an__law_letters : Option Addr} {sl__law_letters : Array (Option Value)} {oc__law_letters kV__law_letters dc__law_letters pm__law_letters cd__law_letters ct__law_letters : Value}
    {fx__law_term : Addr} {od__law_term an__law_term : Option Addr} {sl__law_term : Array (Option Value)} {oc__law_term kV__law_term dc__law_term pm__law_term cd__law_term ct__law_term : Value}
    {fx__law_full : Addr} {od__law_full an__law_full : Option Addr} {sl__law_full : Array (Option Value)} {oc__law_full kV__law_full dc__law_full pm__law_full cd__law_full ct__law_full : Value}
    {fx__law_pieces : Addr} {od__law_pieces an__law_pieces : Option Addr} {sl__law_pieces : Array (Option Value)} {oc__law_pieces kV__law_pieces dc__law_pieces pm__law_pieces cd__law_pieces ct__law_pieces : Value}
    {fx__law_variables : Addr} {od__law_variables an__law_variables : Option Addr} {sl__law_variables : Array (Option Value)} {oc__law_variables kV__law_variables dc__law_variables pm__law_variables cd__law_variables ct__law_variables : Value}
    {fx__law_filled : Addr} {od__law_filled an__law_filled : Option Addr} {sl__law_filled : Array (Option Value)} {oc__law_filled kV__law_filled dc__law_filled pm__law_filled cd__law_filled ct__law_filled : Value}
    {fx__law_all_filled : Addr} {od__law_all_filled an__law_all_filled : Option Addr} {sl__law_all_filled : Array (Option Value)} {oc__law_all_filled kV__law_all_filled dc__law_all_filled pm__law_all_filled cd__law_all_filled ct__law_all_filled : Value}
    {fx__law_renamed : Addr} {od__law_renamed an__law_renamed : Option Addr} {sl__law_renamed : Array (Option Value)} {oc__law_renamed kV__law_renamed dc__law_renamed pm__law_renamed cd__law_renamed ct__law_renamed : Value}
    {fx__law_swap : Addr} {od__law_swap an__law_swap : Option Addr} {sl__law_swap : Array (Option Value)} {oc__law_swap kV__law_swap dc__law_swap pm__law_swap cd__law_swap ct__law_swap : Value}
    {fx__law_wood : Addr} {od__law_wood an__law_wood : Option Addr} {sl__law_wood : Array (Option Value)} {oc__law_wood kV__law_wood dc__law_wood pm__law_wood cd__law_wood ct__law_wood : Value}
    {fx__law_filled_right : Addr} {od__law_filled_right an__law_filled_right : Option Addr} {sl__law_filled_right : Array (Option Value)} {oc__law_filled_right kV__law_filled_right dc__law_filled_right pm__law_filled_right cd__law_filled_right ct__law_filled_right : Value}
    {fx_law : Addr} {od_law an_law : Option Addr} {sl_law : Array (Option Value)} {oc_law kV_law dc_law pm_law cd_law ct_law : Value}
    (a_walk : PySem.W.nsIn K mainGlobals "walk" = some (some (.ref fx_walk)))
    (l_walk : K.lookup fx_walk = some ⟨oc_walk, od_walk, .func (PySem.W.fnOf "walk" "walk" (defArgs s_walk) (defBody s_walk) (defScope s_walk) .none kV_walk dc_walk pm_walk an_walk cd_walk ct_walk), sl_walk⟩)
    (c_walk : PySem.W.codeIn K cd_walk "walk" = true)
    (k_walk : PySem.W.keepIn K (.ref fx_walk) = true)
    (a_variables_in : PySem.W.nsIn K mainGlobals "variables_in" = some (some (.ref fx_variables_in)))
    (l_variables_in : K.lookup fx_variables_in = some ⟨oc_variables_in, od_variables_in, .func (PySem.W.fnOf "variables_in" "variables_in" (defArgs s_variables_in) (defBody s_variables_in) (defScope s_variables_in) .none kV_variables_in dc_variables_in pm_variables_in an_variables_in cd_variables_in ct_variables_in), sl_variables_in⟩)
    (c_variables_in : PySem.W.codeIn K cd_variables_in "variables_in" = true)
    (k_variables_in : PySem.W.keepIn K (.ref fx_variables_in) = true)
    (a_filled : PySem.W.nsIn K mainGlobals "filled" = some (some (.ref fx_filled)))
    (l_filled : K.lookup fx_filled = some ⟨oc_filled, od_filled, .func (PySem.W.fnOf "filled" "filled" (defArgs s_filled) (defBody s_filled) (defScope s_filled) .none kV_filled dc_filled pm_filled an_filled cd_filled ct_filled), sl_filled⟩)
    (c_filled : PySem.W.codeIn K cd_filled "filled" = true)
    (k_filled : PySem.W.keepIn K (.ref fx_filled) = true)
    (a_filled_all : PySem.W.nsIn K mainGlobals "filled_all" = some (some (.ref fx_filled_all)))
    (l_filled_all : K.lookup fx_filled_all = some ⟨oc_filled_all, od_filled_all, .func (PySem.W.fnOf "filled_all" "filled_all" (defArgs s_filled_all) (defBody s_filled_all) (defScope s_filled_all) .none kV_filled_all dc_filled_all pm_filled_all an_filled_all cd_filled_all ct_filled_all), sl_filled_all⟩)
    (c_filled_all : PySem.W.codeIn K cd_filled_all "filled_all" = true)
    (k_filled_all : PySem.W.keepIn K (.ref fx_filled_all) = true)
    (a_renamed : PySem.W.nsIn K mainGlobals "renamed" = some (some (.ref fx_renamed)))
    (l_renamed : K.lookup fx_renamed = some ⟨oc_renamed, od_renamed, .func (PySem.W.fnOf "renamed" "renamed" (defArgs s_renamed) (defBody s_renamed) (defScope s_renamed) .none kV_renamed dc_renamed pm_renamed an_renamed cd_renamed ct_renamed), sl_renamed⟩)
    (c_renamed : PySem.W.codeIn K cd_renamed "renamed" = true)
    (k_renamed : PySem.W.keepIn K (.ref fx_renamed) = true)
    (a__law_pen : PySem.W.nsIn K mainGlobals "_law_pen" = some (some (.ref fx__law_pen)))
    (l__law_pen : K.lookup fx__law_pen = some ⟨oc__law_pen, od__law_pen, .func (PySem.W.fnOf "_law_pen" "_law_pen" (defArgs s__law_pen) (defBody s__law_pen) (defScope s__law_pen) .none kV__law_pen dc__law_pen pm__law_pen an__law_pen cd__law_pen ct__law_pen), sl__law_pen⟩)
    (c__law_pen : PySem.W.codeIn K cd__law_pen "_law_pen" = true)
    (k__law_pen : PySem.W.keepIn K (.ref fx__law_pen) = true)
    (a__law_draw : PySem.W.nsIn K mainGlobals "_law_draw" = some (some (.ref fx__law_draw)))
    (l__law_draw : K.lookup fx__law_draw = some ⟨oc__law_draw, od__law_draw, .func (PySem.W.fnOf "_law_draw" "_law_draw" (defArgs s__law_draw) (defBody s__law_draw) (defScope s__law_draw) .none kV__law_draw dc__law_draw pm__law_draw an__law_draw cd__law_draw ct__law_draw), sl__law_draw⟩)
    (c__law_draw : PySem.W.codeIn K cd__law_draw "_law_draw" = true)
    (k__law_draw : PySem.W.keepIn K (.ref fx__law_draw) = true)
    (a__law_names : PySem.W.nsIn K mainGlobals "_law_names" = some (some (.ref fx__law_names)))
    (l__law_names : K.lookup fx__law_names = some ⟨oc__law_names, od__law_names, .func (PySem.W.fnOf "_law_names" "_law_names" (defArgs s__law_names) (defBody s__law_names) (defScope s__law_names) .none kV__law_names dc__law_names pm__law_names an__law_names cd__law_names ct__law_names), sl__law_names⟩)
    (c__law_names : PySem.W.codeIn K cd__law_names "_law_names" = true)
    (k__law_names : PySem.W.keepIn K (.ref fx__law_names) = true)
    (a__law_words : PySem.W.nsIn K mainGlobals "_law_words" = some (some (.ref fx__law_words)))
    (l__law_words : K.lookup fx__law_words = some ⟨oc__law_words, od__law_words, .func (PySem.W.fnOf "_law_words" "_law_words" (defArgs s__law_words) (defBody s__law_words) (defScope s__law_words) .none kV__law_words dc__law_words pm__law_words an__law_words cd__law_words ct__law_words), sl__law_words⟩)
    (c__law_words : PySem.W.codeIn K cd__law_words "_law_words" = true)
    (k__law_words : PySem.W.keepIn K (.ref fx__law_words) = true)
    (a__law_letters : PySem.W.nsIn K mainGlobals "_law_letters" = some (some (.ref fx__law_letters)))
    (l__law_letters : K.lookup fx__law_letters = some ⟨oc__law_letters, od__law_letters, .func (PySem.W.fnOf "_law_letters" "_law_letters" (defArgs s__law_letters) (defBody s__law_letters) (defScope s__law_letters) .none kV__law_letters dc__law_letters pm__law_letters an__law_letters cd__law_letters ct__law_letters), sl__law_letters⟩)
    (c__law_letters : PySem.W.codeIn K cd__law_letters "_law_letters" = true)
    (k__law_letters : PySem.W.keepIn K (.ref fx__law_letters) = true)
    (a__law_term : PySem.W.nsIn K mainGlobals "_law_term" = some (some (.ref fx__law_term)))
    (l__law_term : K.lookup fx__law_term = some ⟨oc__law_term, od__law_term, .func (PySem.W.fnOf "_law_term" "_law_term" (defArgs s__law_term) (defBody s__law_term) (defScope s__law_term) .none kV__law_term dc__law_term pm__law_term an__law_term cd__law_term ct__law_term), sl__law_term⟩)
    (c__law_term : PySem.W.codeIn K cd__law_term "_law_term" = true)
    (k__law_term : PySem.W.keepIn K (.ref fx__law_term) = true)
    (a__law_full : PySem.W.nsIn K mainGlobals "_law_full" = some (some (.ref fx__law_full)))
    (l__law_full : K.lookup fx__law_full = some ⟨oc__law_full, od__law_full, .func (PySem.W.fnOf "_law_full" "_law_full" (defArgs s__law_full) (defBody s__law_full) (defScope s__law_full) .none kV__law_full dc__law_full pm__law_full an__law_full cd__law_full ct__law_full), sl__law_full⟩)
    (c__law_full : PySem.W.codeIn K cd__law_full "_law_full" = true)
    (k__law_full : PySem.W.keepIn K (.ref fx__law_full) = true)
    (a__law_pieces : PySem.W.nsIn K mainGlobals "_law_pieces" = some (some (.ref fx__law_pieces)))
    (l__law_pieces : K.lookup fx__law_pieces = some ⟨oc__law_pieces, od__law_pieces, .func (PySem.W.fnOf "_law_pieces" "_law_pieces" (defArgs s__law_pieces) (defBody s__law_pieces) (defScope s__law_pieces) .none kV__law_pieces dc__law_pieces pm__law_pieces an__law_pieces cd__law_pieces ct__law_pieces), sl__law_pieces⟩)
    (c__law_pieces : PySem.W.codeIn K cd__law_pieces "_law_pieces" = true)
    (k__law_pieces : PySem.W.keepIn K (.ref fx__law_pieces) = true)
    (a__law_variables : PySem.W.nsIn K mainGlobals "_law_variables" = some (some (.ref fx__law_variables)))
    (l__law_variables : K.lookup fx__law_variables = some ⟨oc__law_variables, od__law_variables, .func (PySem.W.fnOf "_law_variables" "_law_variables" (defArgs s__law_variables) (defBody s__law_variables) (defScope s__law_variables) .none kV__law_variables dc__law_variables pm__law_variables an__law_variables cd__law_variables ct__law_variables), sl__law_variables⟩)
    (c__law_variables : PySem.W.codeIn K cd__law_variables "_law_variables" = true)
    (k__law_variables : PySem.W.keepIn K (.ref fx__law_variables) = true)
    (a__law_filled : PySem.W.nsIn K mainGlobals "_law_filled" = some (some (.ref fx__law_filled)))
    (l__law_filled : K.lookup fx__law_filled = some ⟨oc__law_filled, od__law_filled, .func (PySem.W.fnOf "_law_filled" "_law_filled" (defArgs s__law_filled) (defBody s__law_filled) (defScope s__law_filled) .none kV__law_filled dc__law_filled pm__law_filled an__law_filled cd__law_filled ct__law_filled), sl__law_filled⟩)
    (c__law_filled : PySem.W.codeIn K cd__law_filled "_law_filled" = true)
    (k__law_filled : PySem.W.keepIn K (.ref fx__law_filled) = true)
    (a__law_all_filled : PySem.W.nsIn K mainGlobals "_law_all_filled" = some (some (.ref fx__law_all_filled)))
    (l__law_all_filled : K.lookup fx__law_all_filled = some ⟨oc__law_all_filled, od__law_all_filled, .func (PySem.W.fnOf "_law_all_filled" "_law_all_filled" (defArgs s__law_all_filled) (defBody s__law_all_filled) (defScope s__law_all_filled) .none kV__law_all_filled dc__law_all_filled pm__law_all_filled an__law_all_filled cd__law_all_filled ct__law_all_filled), sl__law_all_filled⟩)
    (c__law_all_filled : PySem.W.codeIn K cd__law_all_filled "_law_all_filled" = true)
    (k__law_all_filled : PySem.W.keepIn K (.ref fx__law_all_filled) = true)
    (a__law_renamed : PySem.W.nsIn K mainGlobals "_law_renamed" = some (some (.ref fx__law_renamed)))
    (l__law_renamed : K.lookup fx__law_renamed = some ⟨oc__law_renamed, od__law_renamed, .func (PySem.W.fnOf "_law_renamed" "_law_renamed" (defArgs s__law_renamed) (defBody s__law_renamed) (defScope s__law_renamed) .none kV__law_renamed dc__law_renamed pm__law_renamed an__law_renamed cd__law_renamed ct__law_renamed), sl__law_renamed⟩)
    (c__law_renamed : PySem.W.codeIn K cd__law_renamed "_law_renamed" = true)
    (k__law_renamed : PySem.W.keepIn K (.ref fx__law_renamed) = true)
    (a__law_swap : PySem.W.nsIn K mainGlobals "_law_swap" = some (some (.ref fx__law_swap)))
    (l__law_swap : K.lookup fx__law_swap = some ⟨oc__law_swap, od__law_swap, .func (PySem.W.fnOf "_law_swap" "_law_swap" (defArgs s__law_swap) (defBody s__law_swap) (defScope s__law_swap) .none kV__law_swap dc__law_swap pm__law_swap an__law_swap cd__law_swap ct__law_swap), sl__law_swap⟩)
    (c__law_swap : PySem.W.codeIn K cd__law_swap "_law_swap" = true)
    (k__law_swap : PySem.W.keepIn K (.ref fx__law_swap) = true)
    (a__law_wood : PySem.W.nsIn K mainGlobals "_law_wood" = some (some (.ref fx__law_wood)))
    (l__law_wood : K.lookup fx__law_wood = some ⟨oc__law_wood, od__law_wood, .func (PySem.W.fnOf "_law_wood" "_law_wood" (defArgs s__law_wood) (defBody s__law_wood) (defScope s__law_wood) .none kV__law_wood dc__law_wood pm__law_wood an__law_wood cd__law_wood ct__law_wood), sl__law_wood⟩)
    (c__law_wood : PySem.W.codeIn K cd__law_wood "_law_wood" = true)
    (k__law_wood : PySem.W.keepIn K (.ref fx__law_wood) = true)
    (a__law_filled_right : PySem.W.nsIn K mainGlobals "_law_filled_right" = some (some (.ref fx__law_filled_right)))
    (l__law_filled_right : K.lookup fx__law_filled_right = some ⟨oc__law_filled_right, od__law_filled_right, .func (PySem.W.fnOf "_law_filled_right" "_law_filled_right" (defArgs s__law_filled_right) (defBody s__law_filled_right) (defScope s__law_filled_right) .none kV__law_filled_right dc__law_filled_right pm__law_filled_right an__law_filled_right cd__law_filled_right ct__law_filled_right), sl__law_filled_right⟩)
    (c__law_filled_right : PySem.W.codeIn K cd__law_filled_right "_law_filled_right" = true)
    (k__law_filled_right : PySem.W.keepIn K (.ref fx__law_filled_right) = true)
    (a_law : PySem.W.nsIn K mainGlobals "law" = some (some (.ref fx_law)))
    (l_law : K.lookup fx_law = some ⟨oc_law, od_law, .func (PySem.W.fnOf "law" "law" (defArgs s_law) (defBody s_law) (defScope s_law) .none kV_law dc_law pm_law an_law cd_law ct_law), sl_law⟩)
    (c_law : PySem.W.codeIn K cd_law "law" = true)
    (k_law : PySem.W.keepIn K (.ref fx_law) = true)
    (z_list : PySem.W.nsIn K mainGlobals "list" = some none)
    (z_tuple : PySem.W.nsIn K mainGlobals "tuple" = some none)
    (z_range : PySem.W.nsIn K mainGlobals "range" = some none)
    (z_isinstance : PySem.W.nsIn K mainGlobals "isinstance" = some none)
    (z_str : PySem.W.nsIn K mainGlobals "str" = some none)
    (z_repr : PySem.W.nsIn K mainGlobals "repr" = some none)
    (z_dict : PySem.W.nsIn K mainGlobals "dict" = some none)
    (z_int : PySem.W.nsIn K mainGlobals "int" = some none)
    (z_len : PySem.W.nsIn K mainGlobals "len" = some none)
    (z_abs : PySem.W.nsIn K mainGlobals "abs" = some none)
    (z_enumerate : PySem.W.nsIn K mainGlobals "enumerate" = some none) :
    ∃ fd : FuncData, (∀ (s : Shared) (v : Value), BindsTo s fd ⟨[v], []⟩ [("_law_script", v)]) ∧ ∀ base : Heap, K.In base → base.Ns mainGlobals mg → FnG P w K mg base 31 fa fd ["_law_script"] (SpD ⟨K, fun _ => 0⟩ 1 (PhiF lawF)) := by
  have e := hfa.symm.trans (PySem.W.mg_of KX G a_law)
  cases e
  let T : Tx ⟨K, fun _ => 0⟩ mg := {
    walk := ⟨_, _, fun_mk (st := s_walk) l_walk c_walk k_walk, PySem.W.mg_of KX G a_walk, (fun_mk (st := s_walk) l_walk c_walk k_walk).binds (ps := ["terms"]) fun _ _ _ _ _ _ us hl => match us, hl with | [_], _ => rfl⟩
    variables_in := ⟨_, _, fun_mk (st := s_variables_in) l_variables_in c_variables_in k_variables_in, PySem.W.mg_of KX G a_variables_in, (fun_mk (st := s_variables_in) l_variables_in c_variables_in k_variables_in).binds (ps := ["terms"]) fun _ _ _ _ _ _ us hl => match us, hl with | [_], _ => rfl⟩
    filled := ⟨_, _, fun_mk (st := s_filled) l_filled c_filled k_filled, PySem.W.mg_of KX G a_filled, (fun_mk (st := s_filled) l_filled c_filled k_filled).binds (ps := ["term", "fill"]) fun _ _ _ _ _ _ us hl => match us, hl with | [_, _], _ => rfl⟩
    filled_all := ⟨_, _, fun_mk (st := s_filled_all) l_filled_all c_filled_all k_filled_all, PySem.W.mg_of KX G a_filled_all, (fun_mk (st := s_filled_all) l_filled_all c_filled_all k_filled_all).binds (ps := ["terms", "fill"]) fun _ _ _ _ _ _ us hl => match us, hl with | [_, _], _ => rfl⟩
    renamed := ⟨_, _, fun_mk (st := s_renamed) l_renamed c_renamed k_renamed, PySem.W.mg_of KX G a_renamed, (fun_mk (st := s_renamed) l_renamed c_renamed k_renamed).binds (ps := ["terms"]) fun _ _ _ _ _ _ us hl => match us, hl with | [_], _ => rfl⟩
    _law_pen := ⟨_, _, fun_mk (st := s__law_pen) l__law_pen c__law_pen k__law_pen, PySem.W.mg_of KX G a__law_pen, (fun_mk (st := s__law_pen) l__law_pen c__law_pen k__law_pen).binds (ps := ["_law_script"]) fun _ _ _ _ _ _ us hl => match us, hl with | [_], _ => rfl⟩
    _law_draw := ⟨_, _, fun_mk (st := s__law_draw) l__law_draw c__law_draw k__law_draw, PySem.W.mg_of KX G a__law_draw, (fun_mk (st := s__law_draw) l__law_draw c__law_draw k__law_draw).binds (ps := ["_law_pen_here", "_law_many"]) fun _ _ _ _ _ _ us hl => match us, hl with | [_, _], _ => rfl⟩
    _law_names := ⟨_, _, fun_mk (st := s__law_names) l__law_names c__law_names k__law_names, PySem.W.mg_of KX G a__law_names, (fun_mk (st := s__law_names) l__law_names c__law_names k__law_names).binds (ps := ["_law_pen_here", "_law_many"]) fun _ _ _ _ _ _ us hl => match us, hl with | [_, _], _ => rfl⟩
    _law_words := ⟨_, _, fun_mk (st := s__law_words) l__law_words c__law_words k__law_words, PySem.W.mg_of KX G a__law_words, (fun_mk (st := s__law_words) l__law_words c__law_words k__law_words).binds (ps := ["_law_pen_here"]) fun _ _ _ _ _ _ us hl => match us, hl with | [_], _ => rfl⟩
    _law_letters := ⟨_, _, fun_mk (st := s__law_letters) l__law_letters c__law_letters k__law_letters, PySem.W.mg_of KX G a__law_letters, (fun_mk (st := s__law_letters) l__law_letters c__law_letters k__law_letters).binds (ps := ["_law_pen_here"]) fun _ _ _ _ _ _ us hl => match us, hl with | [_], _ => rfl⟩
    _law_term := ⟨_, _, fun_mk (st := s__law_term) l__law_term c__law_term k__law_term, PySem.W.mg_of KX G a__law_term, (fun_mk (st := s__law_term) l__law_term c__law_term k__law_term).binds (ps := ["_law_pen_here", "_law_lexicon", "_law_letters_here", "_law_deep", "_law_purse"]) fun _ _ _ _ _ _ us hl => match us, hl with | [_, _, _, _, _], _ => rfl⟩
    _law_full := ⟨_, _, fun_mk (st := s__law_full) l__law_full c__law_full k__law_full, PySem.W.mg_of KX G a__law_full, (fun_mk (st := s__law_full) l__law_full c__law_full k__law_full).binds (ps := ["_law_pen_here", "_law_lexicon", "_law_letters_here", "_law_deep"]) fun _ _ _ _ _ _ us hl => match us, hl with | [_, _, _, _], _ => rfl⟩
    _law_pieces := ⟨_, _, fun_mk (st := s__law_pieces) l__law_pieces c__law_pieces k__law_pieces, PySem.W.mg_of KX G a__law_pieces, (fun_mk (st := s__law_pieces) l__law_pieces c__law_pieces k__law_pieces).binds (ps := ["_law_tree"]) fun _ _ _ _ _ _ us hl => match us, hl with | [_], _ => rfl⟩
    _law_variables := ⟨_, _, fun_mk (st := s__law_variables) l__law_variables c__law_variables k__law_variables, PySem.W.mg_of KX G a__law_variables, (fun_mk (st := s__law_variables) l__law_variables c__law_variables k__law_variables).binds (ps := ["_law_trees"]) fun _ _ _ _ _ _ us hl => match us, hl with | [_], _ => rfl⟩
    _law_filled := ⟨_, _, fun_mk (st := s__law_filled) l__law_filled c__law_filled k__law_filled, PySem.W.mg_of KX G a__law_filled, (fun_mk (st := s__law_filled) l__law_filled c__law_filled k__law_filled).binds (ps := ["_law_tree", "_law_swap_here"]) fun _ _ _ _ _ _ us hl => match us, hl with | [_, _], _ => rfl⟩
    _law_all_filled := ⟨_, _, fun_mk (st := s__law_all_filled) l__law_all_filled c__law_all_filled k__law_all_filled, PySem.W.mg_of KX G a__law_all_filled, (fun_mk (st := s__law_all_filled) l__law_all_filled c__law_all_filled k__law_all_filled).binds (ps := ["_law_trees", "_law_swap_here"]) fun _ _ _ _ _ _ us hl => match us, hl with | [_, _], _ => rfl⟩
    _law_renamed := ⟨_, _, fun_mk (st := s__law_renamed) l__law_renamed c__law_renamed k__law_renamed, PySem.W.mg_of KX G a__law_renamed, (fun_mk (st := s__law_renamed) l__law_renamed c__law_renamed k__law_renamed).binds (ps := ["_law_trees"]) fun _ _ _ _ _ _ us hl => match us, hl with | [_], _ => rfl⟩
    _law_swap := ⟨_, _, fun_mk (st := s__law_swap) l__law_swap c__law_swap k__law_swap, PySem.W.mg_of KX G a__law_swap, (fun_mk (st := s__law_swap) l__law_swap c__law_swap k__law_swap).binds (ps := ["_law_pen_here", "_law_lexicon", "_law_letters_here"]) fun _ _ _ _ _ _ us hl => match us, hl with | [_, _, _], _ => rfl⟩
    _law_wood := ⟨_, _, fun_mk (st := s__law_wood) l__law_wood c__law_wood k__law_wood, PySem.W.mg_of KX G a__law_wood, (fun_mk (st := s__law_wood) l__law_wood c__law_wood k__law_wood).binds (ps := ["_law_deep", "_law_start"]) fun _ _ _ _ _ _ us hl => match us, hl with | [_, _], _ => rfl⟩
    _law_filled_right := ⟨_, _, fun_mk (st := s__law_filled_right) l__law_filled_right c__law_filled_right k__law_filled_right, PySem.W.mg_of KX G a__law_filled_right, (fun_mk (st := s__law_filled_right) l__law_filled_right c__law_filled_right k__law_filled_right).binds (ps := ["_law_tree", "_law_swap_here"]) fun _ _ _ _ _ _ us hl => match us, hl with | [_, _], _ => rfl⟩
    law := ⟨_, _, fun_mk (st := s_law) l_law c_law k_law, PySem.W.mg_of KX G a_law, (fun_mk (st := s_law) l_law c_law k_law).binds (ps := ["_law_script"]) fun _ _ _ _ _ _ us hl => match us, hl with | [_], _ => rfl⟩
    k_filled_fill_term := ⟨fun s ws _ hl => match ws, hl with | [_, _], _ => .of_eq rfl⟩
    k_renamed_terms := ⟨fun s ws _ hl => match ws, hl with | [_], _ => .of_eq rfl⟩
    m_list := PySem.W.mg_none_of KX G z_list
    m_tuple := PySem.W.mg_none_of KX G z_tuple
    m_range := PySem.W.mg_none_of KX G z_range
    m_isinstance := PySem.W.mg_none_of KX G z_isinstance
    m_str := PySem.W.mg_none_of KX G z_str
    m_repr := PySem.W.mg_none_of KX G z_repr
    m_dict := PySem.W.mg_none_of KX G z_dict
    m_int := PySem.W.mg_none_of KX G z_int
    m_len := PySem.W.mg_none_of KX G z_len
    m_abs := PySem.W.mg_none_of KX G z_abs
    m_enumerate := PySem.W.mg_none_of KX G z_enumerate }
  exact ⟨_, fun s v => .of_eq rfl, fun base _ _ => ok_law T (by decide) (all T 30)⟩
end Nv

set_option Elab.async false
set_option linter.all false
set_option maxRecDepth 100000
set_option maxHeartbeats 4000000
namespace Nv
open PySem L2 PyProof.Rows PySem.Spec
theorem le_int {i j : Int} : leD (.int i) (.int j) = some (.bl (decide (i ≤ j))) := rfl
theorem lt_int {i j : Int} : ltD (.int i) (.int j) = some (.bl (decide (i < j))) := rfl
theorem gt_int {i j : Int} : gtD (.int i) (.int j) = some (.bl (decide (j < i))) := rfl
theorem ge_int {i j : Int} : geD (.int i) (.int j) = some (.bl (decide (j ≤ i))) := rfl
theorem sub_int {i j : Int} : intD (fun i j => some (D.int (i - j))) (.int i) (.int j) = some (.int (i - j)) := rfl
theorem add_int {i j : Int} : addD (.int i) (.int j) = some (.int (i + j)) := rfl
theorem iadd_int {i j : Int} : iaddD (.int i) (.int j) = some (.int (i + j)) := rfl
theorem len_lst {xs : List D} : lenD [.lst xs] = some (.int xs.length) := rfl
theorem len_tup {xs : List D} : lenD [.tup xs] = some (.int xs.length) := rfl
theorem len_str {s : Str} (h : s.length ≤ sizeLine) : lenD [.str s] = some (.int s.length) := if_pos h
theorem isBl_bl {b : Bool} : isBl (.bl b) = some b := rfl
theorem isInt_int {b : Int} : isInt (.int b) = some b := rfl
theorem isStr_str {b : Str} : isStr (.str b) = some b := rfl
theorem isLst_lst {b : List D} : isLst (.lst b) = some b := rfl
theorem isTup_tup {b : List D} : isTup (.tup b) = some b := rfl
theorem data_d {x : D} : (Sl.d x).data = some x := rfl
theorem tru_bl {b : Bool} : truD (.bl b) = some b := rfl
theorem kind_str {b : Str} : kindOk (.str b) = true := rfl
theorem kind_tup {b : List D} : kindOk (.tup b) = true := rfl
theorem kind_lst {b : List D} : kindOk (.lst b) = true := rfl
theorem kind_bl {b : Bool} : kindOk (.bl b) = true := rfl
theorem kind_int {b : Int} : kindOk (.int b) = true := rfl
theorem kind_non : kindOk .non = true := rfl
theorem eq_int {i j : Int} : eqXD (.int i) (.int j) = some (.bl (decide (i = j))) := rfl
theorem kind_dct {b : List (Key × D)} : kindOk (.dct b) = true := rfl
theorem in_taken (s : Str) : inD true (.str s) (.tup [.str "self", .str "head"]) = some (.bl (!(s == "self") && !(s == "head"))) := by
  show some (D.bl (!([D.str "self", D.str "head"].any fun y => eqF y (.str s)))) = _
  have h1 : eqF (.str "self") (.str s) = (s == ("self" : Str)) := by show (("self" : Str) == s) = _; exact Bool.eq_iff_iff.mpr (by rw [beq_iff_eq, beq_iff_eq]; exact eq_comm)
  have h2 : eqF (.str "head") (.str s) = (s == ("head" : Str)) := by show (("head" : Str) == s) = _; exact Bool.eq_iff_iff.mpr (by rw [beq_iff_eq, beq_iff_eq]; exact eq_comm)
  simp only [List.any_cons, List.any_nil, h1, h2, Bool.or_false, Bool.not_or]
theorem in_taken2 (s : Str) : inD false (.str s) (.tup [.str "self", .str "head"]) = some (.bl ((s == "self") || (s == "head"))) := by
  show some (D.bl ([D.str "self", D.str "head"].any fun y => eqF y (.str s))) = _
  have h1 : eqF (.str "self") (.str s) = (s == ("self" : Str)) := by show (("self" : Str) == s) = _; exact Bool.eq_iff_iff.mpr (by rw [beq_iff_eq, beq_iff_eq]; exact eq_comm)
  have h2 : eqF (.str "head") (.str s) = (s == ("head" : Str)) := by show (("head" : Str) == s) = _; exact Bool.eq_iff_iff.mpr (by rw [beq_iff_eq, beq_iff_eq]; exact eq_comm)
  simp only [List.any_cons, List.any_nil, h1, h2, Bool.or_false]
local macro_rules | `(tactic| walk_at "ev") => `(tactic| try simp only [defM, mSeq, mIf, mOr, mAnd, mNot, mTru, mIs, mVar, mC, mBl, mChain, mCb, mCons, mNil, mRet, mNext, mAndV, mOrV, mNotV, mOp, mAll, mLst, mSz, mTup, mLc, mLc2, mIStr, mIList, mITup, mYes, mSl, mOSome, mONone, mM1, mSet, mCall, mCallK,
  Option.bind_some, Option.bind_none, le_int, lt_int, gt_int, ge_int, sub_int, add_int, iadd_int, len_lst, len_tup, isBl_bl, isInt_int, isStr_str, isLst_lst, isTup_tup, data_d, tru_bl, kind_str, kind_tup, kind_lst, kind_bl, kind_int, kind_non, kind_dct, eq_int, in_taken, in_taken2, List.length_cons, List.length_nil, List.cons_append, List.nil_append, List.replicate, List.getElem?_cons_zero, List.getElem?_cons_succ, List.set_cons_zero, List.set_cons_succ, if_true, if_false, Bool.not_true, Bool.not_false, Bool.false_eq_true, Option.any_some, isNo, freeB, Sl.pinned, List.map_cons, List.map_nil, allNo, List.all_cons, List.all_nil, Bool.and_true, isStrD, isTupD, mergeS, Nat.reduceAdd, Nat.reduceSub, Nat.zero_add])

/-! ### comprehensions -/
theorem set_no {e : Env} {j : Nat} {x : Sl} (h : e[j]? = some .no) : (e.set j x).set j .no = e := by
  rw [List.set_set]
  apply List.ext_getElem?
  intro k
  by_cases z : j = k
  · subst z
    rw [List.getElem?_set_self (List.getElem?_eq_some_iff.mp h).1, h]
  · rw [List.getElem?_set_ne z]
theorem lc_map {j : Nat} {m : M D} {f : D → D} {e : Env} (hj : e[j]? = some .no) : ∀ (ds acc : List D), (∀ d ∈ ds, m (e.set j (.d d)) = some (f d, e.set j (.d d))) → acc.length + ds.length ≤ sizeLine → lcGo j mYes m ds acc e = some (acc ++ ds.map f, e)
  | [], acc, _, _ => by rw [List.map_nil, List.append_nil]; rfl
  | d :: ds, acc, hm, hl => by
    rw [List.length_cons] at hl
    have h1 := hm d List.mem_cons_self
    unfold lcGo
    simp only [mYes, Option.bind_some, if_true, h1]
    rw [if_pos (by omega), set_no hj, lc_map hj ds (acc ++ [f d]) (fun x hx => hm x (List.mem_cons_of_mem _ hx)) (by rw [List.length_append]; simp; omega)]
    simp
theorem lc_filter {j : Nat} {t : M Bool} {p : D → Bool} {e : Env} (hj : e[j]? = some .no) : ∀ (ds acc : List D), (∀ d ∈ ds, t (e.set j (.d d)) = some (p d, e.set j (.d d))) → acc.length + ds.length ≤ sizeLine → lcGo j t (mVar j) ds acc e = some (acc ++ ds.filter p, e)
  | [], acc, _, _ => by rw [List.filter_nil, List.append_nil]; rfl
  | d :: ds, acc, hm, hl => by
    rw [List.length_cons] at hl
    have h1 := hm d List.mem_cons_self
    have jl : j < e.length := (List.getElem?_eq_some_iff.mp hj).1
    have hv : mVar j (e.set j (.d d)) = some (d, e.set j (.d d)) := by
      unfold mVar
      rw [List.getElem?_set_self jl]
      simp only [Option.bind_some, Sl.data, List.set_set]
    unfold lcGo
    simp only [h1, Option.bind_some]
    cases hp : p d with
    | true =>
      simp only [if_true, hv, Option.bind_some]
      rw [if_pos (by omega), set_no hj, lc_filter hj ds (acc ++ [d]) (fun x hx => hm x (List.mem_cons_of_mem _ hx)) (by rw [List.length_append]; simp; omega), List.filter_cons_of_pos hp]
      simp
    | false =>
      simp only [Bool.false_eq_true, if_false]
      rw [set_no hj, lc_filter hj ds acc (fun x hx => hm x (List.mem_cons_of_mem _ hx)) (by omega), List.filter_cons_of_neg (by rw [hp]; exact Bool.false_ne_true)]

/-! ### names -/
def inS (A : Str) (c : Nat) : Bool := decide (c ∈ A.cps.toList)
abbrev smallS : Str := "abcdefghijklmnopqrstuvwxyz"
def nameS (s : Str) : Bool := decide ((1 : Int) ≤ s.length) && decide ((s.length : Int) ≤ 8) && !(s == "self") && !(s == "head") && s.cps.toList.all (inS smallS)
theorem in_sgn (A : Str) (c : Nat) : inD false (.str ⟨#[c]⟩) (.str A) = some (.bl (inS A c)) := rfl
theorem ni_sgn (A : Str) (c : Nat) : inD true (.str ⟨#[c]⟩) (.str A) = some (.bl (!inS A c)) := rfl
theorem bls_map {α : Type} (f : α → Bool) : ∀ xs : List α, blsOf (xs.map fun x => D.bl (f x)) = some (xs.map f)
  | [] => rfl
  | x :: xs => by
    show (blsOf (xs.map fun x => D.bl (f x))).map (f x :: ·) = _
    rw [bls_map f xs]
    rfl
theorem all_map {α : Type} (f : α → Bool) (xs : List α) : (xs.map f).all id = xs.all f := by rw [List.all_map]; rfl
theorem signs_len (s : Str) : (signs s).length = s.length := by unfold signs; rw [List.length_map]; exact Array.length_toList
/-- all([sign in A for sign in s]) -/
theorem all_in (A s : Str) (j : Nat) (e : Env) (hj : e[j]? = some .no) (h : s.length ≤ sizeLine) : lcGo j mYes (mOp (inD false) (mVar j) (mC (.str A))) (signs s) [] e = some (s.cps.toList.map (fun c => D.bl (inS A c)), e) := by
  have jl : j < e.length := (List.getElem?_eq_some_iff.mp hj).1
  have hv : ∀ d, mVar j (e.set j (.d d)) = some (d, e.set j (.d d)) := fun d => by
    unfold mVar
    rw [List.getElem?_set_self jl]
    simp only [Option.bind_some, Sl.data, List.set_set]
  let f : D → D := fun d => match d with
    | .str z => .bl (decide (∃ c, oneSign z = some c ∧ inS A c = true))
    | _ => .non
  rw [lc_map (f := f) hj (signs s) [] (fun d hd => ?_) (by rw [List.length_nil, Nat.zero_add, signs_len]; exact h)]
  · unfold signs
    rw [List.nil_append, List.map_map]
    refine congrArg some (congrArg (fun x => (x, e)) (List.map_congr_left fun c _ => ?_))
    show D.bl (decide (∃ c', some c = some c' ∧ inS A c' = true)) = D.bl (inS A c)
    cases q : inS A c <;> simp [q]
  · unfold signs at hd
    obtain ⟨c, _, rfl⟩ := List.mem_map.mp hd
    unfold mOp mC
    rw [hv]
    show some (D.bl (inS A c), _) = some (D.bl (decide (∃ c', some c = some c' ∧ inS A c' = true)), _)
    cases q : inS A c <;> simp [q]
/-! ### the same in the law's words -/
def sgnIn (A : Str) (d : D) : Bool := match d with
  | .str z => match oneSign z with
    | some c => inS A c
    | none => false
  | _ => false
theorem canLay_str (z : Str) : (PyData.str z).canLay0 = z.cps.all (· < 0x110000) := rfl
def okC (s : Str) : Prop := ∀ c ∈ s.cps.toList, c < 0x110000
theorem strs_shp : ∀ {xs : List D}, (∀ d ∈ xs, ∃ z, d = .str z ∧ okC z) → shp (.lst xs) = true := by
  have h0 : ∀ {xs : List D}, (∀ d ∈ xs, ∃ z, d = .str z ∧ okC z) → deepAll xs = true ∧ PyData.canLayAll0 (pyAll xs) = true ∧ PyData.depthAll (pyAll xs) = 0 := by
    intro xs
    induction xs with
    | nil => intro _; exact ⟨rfl, rfl, rfl⟩
    | cons d ds ih =>
      intro h
      obtain ⟨z, rfl, hz⟩ := h d List.mem_cons_self
      obtain ⟨a, b, c⟩ := ih fun x hx => h x (List.mem_cons_of_mem _ hx)
      refine ⟨a, ?_, ?_⟩
      · show ((PyData.str z).canLay0 && PyData.canLayAll0 (pyAll ds)) = true
        rw [b, Bool.and_true, canLay_str, Array.all_eq_true']
        intro c hc
        exact decide_eq_true (hz c (Array.mem_toList_iff.mpr hc))
      · show max (PyData.depth (.str z)) (PyData.depthAll (pyAll ds)) = 0
        rw [c]
        rfl
  intro xs h
  obtain ⟨a, b, c⟩ := h0 h
  show (deepAll xs && (PyData.canLayAll0 (pyAll xs) && decide (PyData.depthAll (pyAll xs) + 1 ≤ 64))) = true
  rw [a, b, c]
  rfl
theorem eq_nil {xs : List D} (h : shp (.lst xs) = true) : eqXD (.lst xs) (.lst []) = some (.bl xs.isEmpty) := by
  have h1 : eqX (.lst xs) (.lst []) = some (PyData.eqv (.list (pyAll xs)) (.list (pyAll []))) := by
    show (if (shp (.lst xs) && shp (.lst [])) = true then some (PyData.eqv (D.lst xs).py (D.lst []).py) else none) = _
    rw [h]
    rfl
  unfold eqXD
  rw [h1]
  cases xs <;> rfl
theorem sgn_ok {s : Str} (h : okC s) {p : D → Bool} : ∀ d ∈ (signs s).filter p, ∃ z, d = .str z ∧ okC z := fun d hd => by
  obtain ⟨hd, _⟩ := List.mem_filter.mp hd
  unfold signs at hd
  obtain ⟨c, hc, rfl⟩ := List.mem_map.mp hd
  refine ⟨_, rfl, fun x hx => ?_⟩
  have : x = c := by simpa using hx
  rw [this]
  exact h c hc
theorem none_out (A s : Str) : ((signs s).filter fun d => !sgnIn A d).isEmpty = s.cps.toList.all (inS A) := by
  unfold signs
  induction s.cps.toList with
  | nil => rfl
  | cons c cs ih =>
    rw [List.map_cons, List.all_cons]
    have e : sgnIn A (.str ⟨#[c]⟩) = inS A c := rfl
    cases q : inS A c with
    | true => rw [List.filter_cons_of_neg (by rw [e, q]; simp), ih]; rfl
    | false => rw [List.filter_cons_of_pos (by rw [e, q]; rfl)]; rfl
/-- [sign for sign in s if sign not in A] -/
theorem out_of (A s : Str) (j : Nat) (e : Env) (hj : e[j]? = some .no) (h : s.length ≤ sizeLine) : lcGo j (mBl (mOp (inD true) (mVar j) (mC (.str A)))) (mVar j) (signs s) [] e = some ((signs s).filter (fun d => !sgnIn A d), e) := by
  have jl : j < e.length := (List.getElem?_eq_some_iff.mp hj).1
  rw [lc_filter (p := fun d => !sgnIn A d) hj (signs s) [] (fun d hd => ?_) (by rw [List.length_nil, Nat.zero_add, signs_len]; exact h), List.nil_append]
  unfold signs at hd
  obtain ⟨c, _, rfl⟩ := List.mem_map.mp hd
  have hv : mVar j (e.set j (.d (.str ⟨#[c]⟩))) = some (.str ⟨#[c]⟩, e.set j (.d (.str ⟨#[c]⟩))) := by
    unfold mVar
    rw [List.getElem?_set_self jl]
    simp only [Option.bind_some, Sl.data, List.set_set]
  unfold mBl mOp mC
  rw [hv]
  rfl
/-! ### words -/
theorem spl_le (S : List Nat) : ∀ (L : List Nat) (k : Nat) (acc : List Nat), (∀ p ∈ TL.spl S k acc L, p.length ≤ acc.length + L.length ∧ ∀ c ∈ p, c ∈ acc ∨ c ∈ L) ∧ (TL.spl S k acc L).length ≤ L.length + 1
  | [], k, acc => by
    rw [TL.spl_nil]
    exact ⟨fun p hp => by rw [List.mem_singleton.mp hp]; exact ⟨Nat.le_add_right _ _, fun c hc => .inl hc⟩, Nat.le_refl _⟩
  | c :: r, 0, acc => by
    show (∀ p ∈ (if TL.pre S (c :: r) = true then acc :: TL.spl S (S.length - 1) [] r else TL.spl S 0 (acc ++ [c]) r), _) ∧ (if TL.pre S (c :: r) = true then acc :: TL.spl S (S.length - 1) [] r else TL.spl S 0 (acc ++ [c]) r).length ≤ _
    split
    · obtain ⟨h1, h2⟩ := spl_le S r (S.length - 1) []
      refine ⟨fun p hp => ?_, by rw [List.length_cons, List.length_cons]; omega⟩
      rcases List.mem_cons.mp hp with z | z
      · rw [z]
        exact ⟨by omega, fun c hc => .inl hc⟩
      · obtain ⟨a, b⟩ := h1 p z
        refine ⟨by rw [List.length_cons]; simp at a; omega, fun x hx => ?_⟩
        rcases b x hx with y | y
        · cases y
        · exact .inr (List.mem_cons_of_mem _ y)
    · obtain ⟨h1, h2⟩ := spl_le S r 0 (acc ++ [c])
      refine ⟨fun p hp => ?_, by rw [List.length_cons]; omega⟩
      obtain ⟨a, b⟩ := h1 p hp
      refine ⟨by rw [List.length_append] at a; simp at a; rw [List.length_cons]; omega, fun x hx => ?_⟩
      rcases b x hx with y | y
      · rcases List.mem_append.mp y with y | y
        · exact .inl y
        · rw [List.mem_singleton.mp y]
          exact .inr List.mem_cons_self
      · exact .inr (List.mem_cons_of_mem _ y)
  | c :: r, k + 1, acc => by
    obtain ⟨h1, h2⟩ := spl_le S r k acc
    refine ⟨fun p hp => ?_, by rw [List.length_cons]; exact Nat.le_succ_of_le h2⟩
    obtain ⟨a, b⟩ := h1 p hp
    exact ⟨by rw [List.length_cons]; omega, fun x hx => (b x hx).imp id (List.mem_cons_of_mem _)⟩
def parts (s : Str) : List Str := Txt.split s "."
theorem parts_ok (s : Str) : (∀ p ∈ parts s, p.length ≤ s.length ∧ ∀ c ∈ p.cps.toList, c ∈ s.cps.toList) ∧ (parts s).length ≤ s.length + 1 := by
  have e := TL.split_spl s "." (by decide) (by
    have h1 : Builtin.Str.strKind "." = 1 := by decide +kernel
    rw [h1]
    unfold Builtin.Str.strKind
    split
    · omega
    · split <;> omega)
  obtain ⟨h1, h2⟩ := spl_le (TL.tl ".") (TL.tl s) 0 []
  have ls : (TL.tl s).length = s.length := Array.length_toList
  refine ⟨fun p hp => ?_, ?_⟩
  · obtain ⟨a, b⟩ := h1 (TL.tl p) (by rw [← e]; exact List.mem_map_of_mem hp)
    refine ⟨?_, fun c hc => (b c hc).elim (fun z => by cases z) id⟩
    have lp : (TL.tl p).length = p.length := Array.length_toList
    rw [lp, ls] at a
    simpa using a
  · rw [← e, List.length_map, ls] at h2
    exact h2
structure FitS (s : Str) : Prop where
  le : s.length ≤ 100
  ok : okC s
theorem FitS.part {s p : Str} (h : FitS s) (hp : p ∈ parts s) : FitS p := ⟨Nat.le_trans ((parts_ok s).1 p hp).1 h.le, fun c hc => h.ok c (((parts_ok s).1 p hp).2 c hc)⟩
theorem FitS.size {s : Str} (h : FitS s) : s.length ≤ sizeLine := Nat.le_trans h.le (by decide)
theorem split_dot {s : Str} (h : FitS s) : splitD (.str s) (.str ".") = some (.lst ((parts s).map D.str)) := if_pos ⟨by decide, by have := h.le; have : sizeLine = 2 ^ 24 := rfl; omega⟩
def nameD (d : D) : Bool := match d with
  | .str s => nameS s
  | _ => false
theorem parts_few {s : Str} (h : FitS s) : (parts s).length ≤ 101 := by have := (parts_ok s).2; have := h.le; omega
def dotS (n : Int) (s : Str) : Bool := decide (((parts s).length : Int) = n) && (parts s).all nameS
structure Fit1 (d : D) : Prop where
  k : kindOk d = true
  s : ∀ s, d = .str s → FitS s
def dotD (n : Int) (d : D) : Bool := match d with
  | .str s => dotS n s
  | _ => false
/-! ### words in the law's words -/
end Nv

set_option Elab.async false
set_option linter.all false
set_option maxRecDepth 100000
set_option maxHeartbeats 4000000
namespace Nv
open PySem L2 PyProof.Rows PySem.Spec
local macro_rules | `(tactic| walk_at "ev") => `(tactic| try simp only [defM, mSeq, mIf, mOr, mAnd, mNot, mTru, mIs, mVar, mC, mBl, mChain, mCb, mCons, mNil, mRet, mNext, mAndV, mOrV, mNotV, mOp, mAll, mLst, mSz, mTup, mLc, mLc2, mIStr, mIList, mITup, mYes, mSl, mOSome, mONone, mM1, mSet, mCall, mCallK,
  Option.bind_some, Option.bind_none, le_int, lt_int, gt_int, ge_int, sub_int, add_int, iadd_int, len_lst, len_tup, isBl_bl, isInt_int, isStr_str, isLst_lst, isTup_tup, data_d, tru_bl, kind_str, kind_tup, kind_lst, kind_bl, kind_int, kind_non, kind_dct, eq_int, in_taken, in_taken2, List.length_cons, List.length_nil, List.cons_append, List.nil_append, List.replicate, List.getElem?_cons_zero, List.getElem?_cons_succ, List.set_cons_zero, List.set_cons_succ, if_true, if_false, Bool.not_true, Bool.not_false, Bool.false_eq_true, Option.any_some, isNo, freeB, Sl.pinned, List.map_cons, List.map_nil, allNo, List.all_cons, List.all_nil, Bool.and_true, isStrD, isTupD, mergeS, Nat.reduceAdd, Nat.reduceSub, Nat.zero_add])

/-! ### variables -/
abbrev largeS : Str := "ABCDEFGHIJKLMNOPQRSTUVWXYZ"
abbrev digitS : Str := "0123456789"
def restS (s : Str) : Str := cutS s (some 1) none
def firstS (s : Str) : Bool := match s.cps.toList with
  | c :: _ => inS largeS c
  | [] => false
def varS (s : Str) : Bool := decide ((1 : Int) ≤ s.length) && decide ((s.length : Int) ≤ 4) && firstS s && (restS s).cps.toList.all (inS digitS)
theorem rest_sub (s : Str) : ∀ c ∈ (restS s).cps.toList, c ∈ s.cps.toList := fun c hc => by
  unfold restS cutS at hc
  exact List.mem_of_mem_drop (List.mem_of_mem_take hc)
theorem rest_le (s : Str) : (restS s).length ≤ s.length := by
  unfold restS cutS
  show (List.toArray _).size ≤ s.cps.size
  rw [List.size_toArray, List.length_take, List.length_drop, Array.length_toList]
  omega
theorem FitS.rest {s : Str} (h : FitS s) : FitS (restS s) := ⟨Nat.le_trans (rest_le s) h.le, fun c hc => h.ok c (rest_sub s c hc)⟩
theorem first_ix {s : Str} (h : FitS s) {c : Nat} {r : List Nat} (e : s.cps.toList = c :: r) : ixD (.str s) (.int 0) = some (.str ⟨#[c]⟩) := by
  show (if s.length ≤ sizeLine then (L2.atI s.cps.toList 0).map fun c => D.str ⟨#[c]⟩ else none) = _
  rw [if_pos h.size, e]
  have : L2.atI (c :: r) 0 = some c := by
    unfold L2.atI ixN
    rw [if_pos (Int.le_refl 0), if_pos (by rw [List.length_cons]; omega)]
    rfl
  rw [this]
  rfl
theorem rest_sl {s : Str} (h : FitS s) : slD (.str s) (some 1) none = some (.str (restS s)) := if_pos h.size
theorem nonempty {s : Str} (h : (1 : Int) ≤ s.length) : ∃ c r, s.cps.toList = c :: r := by
  cases e : s.cps.toList with
  | nil =>
    have : s.cps.toList.length = s.length := Array.length_toList
    rw [e] at this
    have z : s.length = 0 := this.symm
    rw [z] at h
    omega
  | cons c r => exact ⟨c, r, rfl⟩
def varD (d : D) : Bool := match d with
  | .str s => varS s
  | _ => false
/-! ### pieces -/
/-- data all of whose parts are fit, to any depth -/
inductive Fit : D → Prop
  | mk {d : D} (h : Fit1 d) (ht : ∀ xs, d = .tup xs → ∀ x ∈ xs, Fit x) : Fit d
theorem Fit.one {d : D} (h : Fit d) : Fit1 d := by cases h; assumption
theorem Fit.tup {xs : List D} (h : Fit (.tup xs)) : ∀ x ∈ xs, Fit x := by
  cases h with
  | mk h1 h2 => exact h2 xs rfl
/-- the word of a piece that is no variable -/
def headOk (m : Bool) (xs : List D) : Bool := match xs with
  | w :: r => dotD 2 w || (m && decide (0 < r.length) && dotD 3 w)
  | [] => false
def pieceD (m : Bool) (d : D) : Bool := varD d || match d with
  | .tup xs => decide (1 ≤ xs.length) && decide (xs.length ≤ 4) && headOk m xs
  | _ => false
theorem tup_ix0 (w : D) (r : List D) : ixD (.tup (w :: r)) (.int 0) = some w := by
  show L2.atI (w :: r) 0 = some w
  unfold L2.atI ixN
  rw [if_pos (Int.le_refl 0), if_pos (by rw [List.length_cons]; omega)]
  rfl
end Nv

set_option Elab.async false
set_option linter.all false
set_option maxRecDepth 100000
set_option maxHeartbeats 4000000
namespace Nv
open PySem L2 PyProof.Rows PySem.Spec
local macro_rules | `(tactic| walk_at "ev") => `(tactic| try simp only [defM, mSeq, mIf, mOr, mAnd, mNot, mTru, mIs, mVar, mC, mBl, mChain, mCb, mCons, mNil, mRet, mNext, mAndV, mOrV, mNotV, mOp, mAll, mLst, mSz, mTup, mLc, mLc2, mIStr, mIList, mITup, mYes, mSl, mOSome, mONone, mM1, mSet, mCall, mCallK,
  Option.bind_some, Option.bind_none, le_int, lt_int, gt_int, ge_int, sub_int, add_int, iadd_int, mAug, isD1, dOf, allNo, len_lst, len_tup, isBl_bl, isInt_int, isStr_str, isLst_lst, isTup_tup, data_d, tru_bl, kind_str, kind_tup, kind_lst, kind_bl, kind_int, kind_non, kind_dct, eq_int, in_taken, in_taken2, List.length_cons, List.length_nil, List.cons_append, List.nil_append, List.replicate, List.getElem?_cons_zero, List.getElem?_cons_succ, List.set_cons_zero, List.set_cons_succ, if_true, if_false, Bool.not_true, Bool.not_false, Bool.false_eq_true, Option.any_some, isNo, freeB, Sl.pinned, List.map_cons, List.map_nil, allNo, List.all_cons, List.all_nil, Bool.and_true, mergeS, Nat.reduceAdd, Nat.reduceSub, Nat.zero_add])

/-! ### levels -/
theorem cut1 {α : Type} (xs : List α) : cut xs (some 1) none = xs.drop 1 := by
  unfold cut
  have h0 : HT.sIx xs.length 0 (some 1) = min 1 xs.length := HT.sIx_nat _ _ 1
  have h1 : HT.sIx xs.length xs.length none = xs.length := rfl
  rw [h0, h1]
  cases xs with
  | nil => rfl
  | cons x r =>
    have : min 1 (x :: r).length = 1 := by rw [List.length_cons]; omega
    rw [this]
    simp
def kidsD (d : D) : List D := match d with
  | .tup xs => xs.drop 1
  | _ => []
theorem Fit.kids {d : D} (h : Fit d) : ∀ x ∈ kidsD d, Fit x := by
  cases d <;> first | exact fun x hx => by cases hx | skip
  exact fun x hx => h.tup x (List.mem_of_mem_drop hx)
theorem loop_app {b : List D → M (List D)} {f : D → List D} {j : Nat} {vs : List Nat} {e : Env} (hj : e[j]? = some .no) (hv : allNo vs e = true) : ∀ (ds acc : List D),
    (∀ d ∈ ds, ∀ acc : List D, acc.length + (f d).length ≤ sizeLine → b acc (e.set j (.d d)) = some (acc ++ f d, e.set j (.d d))) → acc.length + (ds.flatMap f).length ≤ sizeLine → loopGo b j vs ds acc e = some (acc ++ ds.flatMap f, e)
  | [], acc, _, _ => by rw [List.flatMap_nil, List.append_nil]; rfl
  | d :: ds, acc, hb, hl => by
    rw [List.flatMap_cons, List.length_append] at hl
    unfold loopGo
    rw [hb d List.mem_cons_self acc (by omega)]
    simp only [Option.bind_some, set_no hj, hv, if_true]
    rw [loop_app hj hv ds (acc ++ f d) (fun x hx => hb x (List.mem_cons_of_mem _ hx)) (by rw [List.length_append]; omega), List.flatMap_cons, List.append_assoc]
/-- for part in xs, each as it is -/
theorem loop_self {j : Nat} {e : Env} (hj : e[j]? = some .no) (xs acc : List D) (hl : acc.length + xs.length ≤ sizeLine) : loopGo (mBS mYes (mVar j)) j [j] xs acc e = some (acc ++ xs, e) := by
  have hv : allNo [j] e = true := by unfold allNo; simp [hj, isNo]
  have jl : j < e.length := (List.getElem?_eq_some_iff.mp hj).1
  have hf : ∀ xs : List D, xs.flatMap (fun d => [d]) = xs := fun xs => by simp
  have := loop_app (b := mBS mYes (mVar j)) (f := fun d => [d]) hj hv xs acc (fun d hd acc hl => ?_) (by rw [hf]; exact hl)
  · rw [this, hf]
  · have hz : acc.length < sizeLine := by simp at hl; omega
    have hm : mVar j (e.set j (.d d)) = some (d, e.set j (.d d)) := by
      unfold mVar
      rw [List.getElem?_set_self jl]
      simp only [Option.bind_some, Sl.data, List.set_set]
    unfold mBS mYes
    simp only [Option.bind_some, if_true, hm, if_pos hz]
def bodyW (c : Nat → Fm) : MS := (mSeq (mAug 3 iaddD (mCb lenD (mCons (mVar 2) mNil)))
    (mSeq (mAug 4 iaddD (mC (.int 1)))
    (mSeq (mIf (mOr (mBl (mOp gtD (mVar 3) (mC (.int 40)))) (mOr (mBl (mOp gtD (mVar 4) (mC (.int 6)))) (mNot (mTru (mAll (mCons (mLst (mLc (mIList (mVar 2)) mYes (mCall 2 (c 5) (mCons (mVar 5) (mCons (mVar 1) mNil))) 5)) mNil)))))) (mRet (mC (.bl false))) mNext)
    (mSet 2 (mLst (mLc2 (mIList (mVar 2)) (mTru (mIs isTupD (mVar 5))) (mITup (mSl (mVar 5) (mOSome (mC (.int 1))) mONone)) mYes (mVar 6) 5 6))))))
/-- the next level -/
theorem level_of (d0 : D) (b : Sl) (l s dp : Sl) (level : List D) (hk : ∀ x ∈ level, Fit x) (hl : (level.flatMap kidsD).length ≤ sizeLine) :
    loopGo (mBO (mTru (mIs isTupD (mVar 5))) (mITup (mSl (mVar 5) (mOSome (mC (.int 1))) mONone)) 6 mYes (mVar 6)) 5 [5, 6] level [] [.d d0, b, l, s, dp, .no, .no] = some (level.flatMap kidsD, [.d d0, b, l, s, dp, .no, .no]) := by
  rw [loop_app (f := kidsD) rfl rfl level [] (fun d hd acc hl => ?_) (by rw [List.length_nil, Nat.zero_add]; exact hl), List.nil_append]
  have h1 := (hk d hd).one.k
  unfold mBO
  cases ht : isTupD d with
  | false =>
    have e0 : kidsD d = [] := by cases d <;> first | rfl | cases ht
    rw [e0, List.append_nil]
    cases d <;> first | (cases h1; done) | (cases ht; done) | rfl
  | true =>
    cases d <;> first | (cases ht; done) | skip
    rename_i xs
    walk_at "ev"
    rw [show isTupD (.tup xs) = true from rfl]
    walk_at "ev"
    rw [show slD (.tup xs) (some 1) none = some (.tup (cut xs (some 1) none)) from rfl, cut1]
    walk_at "ev"
    rw [loop_self rfl _ acc (by exact hl)]
    rfl

def withinL (m : Bool) : Nat → List D → Nat → Bool
  | r, level, s => if level.isEmpty = true then true else match r with
    | 0 => false
    | r + 1 => if s + level.length ≤ 40 ∧ level.all (pieceD m) = true then withinL m r (level.flatMap kidsD) (s + level.length) else false
theorem kids_few {m : Bool} {d : D} (h : pieceD m d = true) : (kidsD d).length ≤ 3 := by
  cases d <;> first | exact Nat.zero_le _ | skip
  rename_i xs
  have h : (false || (decide (1 ≤ xs.length) && decide (xs.length ≤ 4) && headOk m xs)) = true := h
  simp only [Bool.false_or, Bool.and_eq_true, decide_eq_true_eq] at h
  show (xs.drop 1).length ≤ 3
  rw [List.length_drop]
  omega
theorem flat_few {m : Bool} : ∀ {level : List D}, level.all (pieceD m) = true → (level.flatMap kidsD).length ≤ 3 * level.length
  | [], _ => Nat.le_refl _
  | d :: ds, h => by
    rw [List.all_cons, Bool.and_eq_true] at h
    have a := kids_few h.1
    have b := flat_few h.2
    rw [List.flatMap_cons, List.length_append, List.length_cons]
    omega
end Nv

set_option Elab.async false
set_option linter.all false
set_option maxRecDepth 100000
set_option maxHeartbeats 4000000
namespace Nv
open PySem L2 PyProof.Rows PySem.Spec
/-! ### both count alike -/
def okT (m : Bool) : Nat → D → Bool
  | 0, _ => false
  | n + 1, d => pieceD m d && (kidsD d).all (okT m n)
def cnt : Nat → D → Nat
  | 0, _ => 0
  | n + 1, d => 1 + ((kidsD d).map (cnt n)).sum
theorem cnt_pos {m : Bool} : ∀ {n : Nat} {d : D}, okT m n d = true → 0 < cnt n d
  | 0, _, h => by cases h
  | n + 1, d, _ => by show 0 < 1 + _; omega
def sumC (n : Nat) (l : List D) : Nat := (l.map (cnt n)).sum
theorem sumC_flat (n : Nat) : ∀ l : List D, sumC (n + 1) l = l.length + sumC n (l.flatMap kidsD)
  | [] => rfl
  | d :: l => by
    have ih := sumC_flat n l
    unfold sumC at ih ⊢
    rw [List.map_cons, List.sum_cons, ih, List.flatMap_cons, List.map_append, List.sum_append, List.length_cons]
    show (1 + _) + _ = _
    omega
theorem allk_flat (m : Bool) (n : Nat) : ∀ l : List D, l.all (okT m (n + 1)) = (l.all (pieceD m) && (l.flatMap kidsD).all (okT m n))
  | [] => rfl
  | d :: l => by
    rw [List.all_cons, List.all_cons, List.flatMap_cons, List.all_append, allk_flat m n l]
    show ((pieceD m d && (kidsD d).all (okT m n)) && _) = _
    cases pieceD m d <;> cases (kidsD d).all (okT m n) <;> cases l.all (pieceD m) <;> simp
theorem within_of (m : Bool) : ∀ (r : Nat) (l : List D) (s : Nat), withinL m r l s = (l.isEmpty || (l.all (okT m r) && decide (s + sumC r l ≤ 40)))
  | 0, l, s => by
    unfold withinL
    cases l with
    | nil => rfl
    | cons d l => rfl
  | r + 1, l, s => by
    unfold withinL
    cases he : l.isEmpty with
    | true => rfl
    | false =>
      simp only [Bool.false_eq_true, if_false, Bool.false_or]
      rw [allk_flat, sumC_flat, within_of m r]
      cases hp : l.all (pieceD m) with
      | false => simp
      | true =>
        simp only [and_true, Bool.true_and]
        by_cases h : s + l.length ≤ 40
        · rw [if_pos h]
          cases hk : (l.flatMap kidsD).isEmpty with
          | true =>
            have e := List.isEmpty_iff.mp hk
            rw [e]
            have : s + (l.length + sumC r []) ≤ 40 := h
            simp [this]
          | false => simp only [Bool.false_or, Nat.add_assoc]
        · rw [if_neg h]
          have : ¬ s + (l.length + sumC r (l.flatMap kidsD)) ≤ 40 := by omega
          simp [this]
end Nv

set_option Elab.async false
set_option linter.all false
set_option maxRecDepth 100000
set_option maxHeartbeats 4000000
namespace Nv
open PySem L2 PyProof.Rows PySem.Spec
/-! ShG: which data may be shown, and how long what is shown is. -/
def strB (s : Str) : Bool := decide (s.length ≤ 100) && s.cps.toList.all (fun c => decide (c < 0x110000))
theorem strB_fit {s : Str} (h : strB s = true) : FitS s := by
  unfold strB at h
  rw [Bool.and_eq_true] at h
  exact ⟨of_decide_eq_true h.1, fun c hc => of_decide_eq_true (List.all_eq_true.mp h.2 c hc)⟩
def keyB : Key → Bool
  | .inl i => decide (i.natAbs.log2 < 1000)
  | .inr s => strB s
mutual
/-- data that may be shown -/
def okB : D → Bool
  | .non => true
  | .bl _ => true
  | .int i => decide (i.natAbs.log2 < 1000)
  | .str s => strB s
  | .lst xs => okAll xs
  | .tup xs => okAll xs
  | .dct kvs => okKv kvs
  | _ => false
def okAll : List D → Bool
  | [] => true
  | d :: ds => okB d && okAll ds
def okKv : List (Key × D) → Bool
  | [] => true
  | (k, d) :: r => keyB k && okB d && okKv r
end
mutual
/-- no less than what is shown of it is long -/
def wt : D → Nat
  | .non => 4
  | .bl _ => 5
  | .int _ => 1002
  | .str s => 10 * s.length + 2
  | .lst xs => wtAll xs + 3
  | .tup xs => wtAll xs + 3
  | .dct kvs => wtKv kvs + 3
  | _ => 0
def wtAll : List D → Nat
  | [] => 0
  | d :: ds => wt d + 2 + wtAll ds
def wtKv : List (Key × D) → Nat
  | [] => 0
  | (_, d) :: r => 1006 + wt d + wtKv r
end
mutual
theorem wt_ok : ∀ d : D, okB d = true → d.py.shown.length ≤ wt d ∧ d.py.showable = true ∧ d.plain = true
  | .non, _ => ⟨by decide, rfl, rfl⟩
  | .bl b, _ => ⟨by cases b <;> decide, rfl, rfl⟩
  | .int i, h => by
    have h : i.natAbs.log2 < 1000 := of_decide_eq_true h
    refine ⟨?_, decide_eq_true (by omega), rfl⟩
    have := int_text_length_le (a := i) (k := 1000) (by decide) h
    show (Str.ofString (toString i)).length ≤ 1002
    rw [PySem.ofString_length]
    omega
  | .str s, h => by
    have f := strB_fit (s := s) h
    refine ⟨?_, rfl, rfl⟩
    exact PySem.StrLaws.reprText_len s fun c hc => Nat.lt_of_lt_of_le (f.ok c hc) (by decide)
  | .lst xs, h => by
    obtain ⟨a, b, c⟩ := wt_all xs h
    refine ⟨?_, b, c⟩
    have := listText_len_le (PyData.shownAll (pyAll xs))
    show (listText (PyData.shownAll (pyAll xs))).length ≤ wtAll xs + 3
    omega
  | .tup xs, h => by
    obtain ⟨a, b, c⟩ := wt_all xs h
    refine ⟨?_, b, c⟩
    have := tupleText_len_le (PyData.shownAll (pyAll xs))
    show (tupleText (PyData.shownAll (pyAll xs))).length ≤ wtAll xs + 3
    omega
  | .dct kvs, h => by
    obtain ⟨a, b, c⟩ := wt_kv kvs h
    refine ⟨?_, b, c⟩
    have := dictText_len_le (PyData.shownKv (pyKv kvs))
    show (dictText (PyData.shownKv (pyKv kvs))).length ≤ wtKv kvs + 3
    omega
  | .ins _ _, h => by cases h
  | .ty _, h => by cases h
  | .frl _, h => by cases h
theorem wt_all : ∀ ds : List D, okAll ds = true → ((PyData.shownAll (pyAll ds)).map (·.length)).sum + 2 * (PyData.shownAll (pyAll ds)).length ≤ wtAll ds ∧ PyData.showableAll (pyAll ds) = true ∧ plainAll ds = true
  | [], _ => ⟨Nat.le_refl _, rfl, rfl⟩
  | d :: ds, h => by
    have h : (okB d && okAll ds) = true := h
    rw [Bool.and_eq_true] at h
    obtain ⟨a, b, c⟩ := wt_ok d h.1
    obtain ⟨a', b', c'⟩ := wt_all ds h.2
    refine ⟨?_, ?_, ?_⟩
    · show ((d.py.shown :: PyData.shownAll (pyAll ds)).map (·.length)).sum + 2 * (d.py.shown :: PyData.shownAll (pyAll ds)).length ≤ wt d + 2 + wtAll ds
      rw [List.map_cons, List.sum_cons, List.length_cons]
      omega
    · show (d.py.showable && PyData.showableAll (pyAll ds)) = true
      rw [b, b']
      rfl
    · show (d.plain && plainAll ds) = true
      rw [c, c']
      rfl
theorem wt_kv : ∀ ds : List (Key × D), okKv ds = true → ((PyData.shownKv (pyKv ds)).map (·.length)).sum + 2 * (PyData.shownKv (pyKv ds)).length ≤ wtKv ds ∧ PyData.showableKv (pyKv ds) = true ∧ plainKv ds = true
  | [], _ => ⟨Nat.le_refl _, rfl, rfl⟩
  | (.inl i, d) :: ds, h => by
    have h : (decide (i.natAbs.log2 < 1000) && okB d && okKv ds) = true := h
    rw [Bool.and_eq_true, Bool.and_eq_true] at h
    obtain ⟨⟨h0, h1⟩, h2⟩ := h
    have h0 : i.natAbs.log2 < 1000 := of_decide_eq_true h0
    obtain ⟨a, b, c⟩ := wt_ok d h1
    obtain ⟨a', b', c'⟩ := wt_kv ds h2
    have kl : (Str.ofString (toString i)).length ≤ 1002 := by
      have := int_text_length_le (a := i) (k := 1000) (by decide) h0
      rw [PySem.ofString_length]
      omega
    refine ⟨?_, ?_, ?_⟩
    · show ((((Str.ofString (toString i)) ++ (": " : Str) ++ d.py.shown) :: PyData.shownKv (pyKv ds)).map (·.length)).sum + 2 * ((Str.ofString (toString i) ++ (": " : Str) ++ d.py.shown) :: PyData.shownKv (pyKv ds)).length ≤ 1006 + wt d + wtKv ds
      rw [List.map_cons, List.sum_cons, List.length_cons, strLen_append, strLen_append]
      have : ((": " : Str)).length = 2 := rfl
      omega
    · show ((PyData.int i).showable && d.py.showable && PyData.showableKv (pyKv ds)) = true
      have : (PyData.int i).showable = true := decide_eq_true (by omega)
      rw [b, b', this]
      rfl
    · show (d.plain && plainKv ds) = true
      rw [c, c']
      rfl
  | (.inr s, d) :: ds, h => by
    have h : (strB s && okB d && okKv ds) = true := h
    rw [Bool.and_eq_true, Bool.and_eq_true] at h
    obtain ⟨⟨h0, h1⟩, h2⟩ := h
    have f := strB_fit h0
    obtain ⟨a, b, c⟩ := wt_ok d h1
    obtain ⟨a', b', c'⟩ := wt_kv ds h2
    have kl : (reprText s).length ≤ 1002 := by
      have := PySem.StrLaws.reprText_len s fun c hc => Nat.lt_of_lt_of_le (f.ok c hc) (by decide)
      have := f.le
      omega
    refine ⟨?_, ?_, ?_⟩
    · show (((reprText s ++ (": " : Str) ++ d.py.shown) :: PyData.shownKv (pyKv ds)).map (·.length)).sum + 2 * ((reprText s ++ (": " : Str) ++ d.py.shown) :: PyData.shownKv (pyKv ds)).length ≤ 1006 + wt d + wtKv ds
      rw [List.map_cons, List.sum_cons, List.length_cons, strLen_append, strLen_append]
      have : ((": " : Str)).length = 2 := rfl
      omega
    · show ((PyData.str s).showable && d.py.showable && PyData.showableKv (pyKv ds)) = true
      rw [b, b']
      rfl
    · show (d.plain && plainKv ds) = true
      rw [c, c']
      rfl
end
theorem rok_of {d : D} (h : okB d = true) (hw : wt d ≤ 16000000) (hd : d.py.depth ≤ 60) (ht : tells d.py = true) : rokB d = true := by
  obtain ⟨a, b, c⟩ := wt_ok d h
  exact rokB_iff ⟨c, ht, b, hd, Nat.le_trans a (Nat.le_trans hw (by decide))⟩
mutual
theorem fit_ok : ∀ d : D, okB d = true → Fit d
  | .non, _ => ⟨⟨rfl, fun _ h => by cases h⟩, fun _ h => by cases h⟩
  | .bl _, _ => ⟨⟨rfl, fun _ h => by cases h⟩, fun _ h => by cases h⟩
  | .int _, _ => ⟨⟨rfl, fun _ h => by cases h⟩, fun _ h => by cases h⟩
  | .lst _, _ => ⟨⟨rfl, fun _ h => by cases h⟩, fun _ h => by cases h⟩
  | .dct _, _ => ⟨⟨rfl, fun _ h => by cases h⟩, fun _ h => by cases h⟩
  | .ins _ _, h => by cases h
  | .ty _, h => by cases h
  | .frl _, h => by cases h
  | .str s, h => ⟨⟨rfl, fun t e => by cases e; exact strB_fit h⟩, fun _ h => by cases h⟩
  | .tup xs, h => ⟨⟨rfl, fun _ h => by cases h⟩, fun ys e x hx => by cases e; exact fit_okAll xs h x hx⟩
theorem fit_okAll : ∀ ds : List D, okAll ds = true → ∀ x ∈ ds, Fit x
  | [], _, x, hx => by cases hx
  | d :: ds, h, x, hx => by
    have h : (okB d && okAll ds) = true := h
    rw [Bool.and_eq_true] at h
    rcases List.mem_cons.mp hx with z | z
    · rw [z]; exact fit_ok d h.1
    · exact fit_okAll ds h.2 x z
end
theorem okAll_iff : ∀ {ds : List D}, okAll ds = true ↔ (∀ d ∈ ds, okB d = true)
  | [] => ⟨fun _ _ h => (by cases h), fun _ => rfl⟩
  | d :: ds => by
    show (okB d && okAll ds) = true ↔ _
    rw [Bool.and_eq_true, okAll_iff]
    simp
theorem wtAll_append : ∀ (a b : List D), wtAll (a ++ b) = wtAll a + wtAll b
  | [], b => by show wtAll b = 0 + wtAll b; omega
  | x :: a, b => by
    show wt x + 2 + wtAll (a ++ b) = wt x + 2 + wtAll a + wtAll b
    rw [wtAll_append a b]
    omega
theorem wt_mem : ∀ {ds : List D} {d : D}, d ∈ ds → wt d ≤ wtAll ds
  | [], d, h => by cases h
  | x :: ds, d, h => by
    show wt d ≤ wt x + 2 + wtAll ds
    rcases List.mem_cons.mp h with z | z
    · rw [z]; omega
    · have := wt_mem z
      omega
theorem depth_mem : ∀ {ds : List D} {d : D}, d ∈ ds → d.py.depth ≤ PyData.depthAll (pyAll ds)
  | [], d, h => by cases h
  | x :: ds, d, h => by
    show d.py.depth ≤ max x.py.depth (PyData.depthAll (pyAll ds))
    rcases List.mem_cons.mp h with z | z
    · rw [z]; omega
    · have := depth_mem z
      omega
theorem depthAll_le {n : Nat} : ∀ {ds : List D}, (∀ d ∈ ds, d.py.depth ≤ n) → PyData.depthAll (pyAll ds) ≤ n
  | [], _ => Nat.zero_le _
  | x :: ds, h => by
    show max x.py.depth (PyData.depthAll (pyAll ds)) ≤ n
    exact Nat.max_le.mpr ⟨h x List.mem_cons_self, depthAll_le fun d hd => h d (List.mem_cons_of_mem _ hd)⟩
theorem wtAll_le {n : Nat} : ∀ {ds : List D}, (∀ d ∈ ds, wt d ≤ n) → wtAll ds ≤ ds.length * (n + 2)
  | [], _ => Nat.zero_le _
  | x :: ds, h => by
    have h1 := h x List.mem_cons_self
    have h2 := wtAll_le (n := n) fun d hd => h d (List.mem_cons_of_mem _ hd)
    show wt x + 2 + wtAll ds ≤ (ds.length + 1) * (n + 2)
    rw [Nat.add_mul, Nat.one_mul]
    omega
/-- without dicts, without lists -/
def noDct (d : D) : Prop := d.py.hasDict = false
def noLst (d : D) : Prop := noList d.py = true
theorem tells_nd {d : D} (h : noDct d) : tells d.py = true := by
  unfold tells
  rw [show d.py.hasDict = false from h]
  rfl
theorem tells_nl {d : D} (h : noLst d) : tells d.py = true := by
  unfold tells
  rw [show noList d.py = true from h, Bool.or_true]
theorem nd_all : ∀ {ds : List D}, (∀ d ∈ ds, noDct d) → PyData.hasDictAll (pyAll ds) = false
  | [], _ => rfl
  | x :: ds, h => by
    show (x.py.hasDict || PyData.hasDictAll (pyAll ds)) = false
    rw [show x.py.hasDict = false from h x List.mem_cons_self, nd_all fun d hd => h d (List.mem_cons_of_mem _ hd)]
    rfl
theorem nl_all : ∀ {ds : List D}, (∀ d ∈ ds, noLst d) → noListAll (pyAll ds) = true
  | [], _ => rfl
  | x :: ds, h => by
    show (noList x.py && noListAll (pyAll ds)) = true
    rw [show noList x.py = true from h x List.mem_cons_self, nl_all fun d hd => h d (List.mem_cons_of_mem _ hd)]
    rfl
theorem nd_tup {ds : List D} (h : ∀ d ∈ ds, noDct d) : noDct (.tup ds) := nd_all h
theorem nd_lst {ds : List D} (h : ∀ d ∈ ds, noDct d) : noDct (.lst ds) := nd_all h
theorem nl_tup {ds : List D} (h : ∀ d ∈ ds, noLst d) : noLst (.tup ds) := nl_all h
end Nv

set_option Elab.async false
set_option linter.all false
set_option maxRecDepth 100000
set_option maxHeartbeats 4000000
namespace Nv
open PySem L2 PyProof.Rows PySem.Spec
theorem istup_tup {xs : List D} : isTupD (.tup xs) = true := rfl

/-! ### the pen -/
def pk (xs : List Int) (n l : Int) : List (Key × D) := [(.inr "cells", .lst (xs.map D.int)), (.inr "at", .int n), (.inr "left", .int l)]
theorem val_left (xs : List Int) (n l : Int) : valD (pk xs n l) (.inr "left") = some (.int l) := rfl
theorem val_at (xs : List Int) (n l : Int) : valD (pk xs n l) (.inr "at") = some (.int n) := rfl
theorem val_cells (xs : List Int) (n l : Int) : valD (pk xs n l) (.inr "cells") = some (.lst (xs.map D.int)) := rfl
theorem put_left (xs : List Int) (n l v : Int) : putD (pk xs n l) (.inr "left") (.int v) = pk xs n v := rfl
theorem put_at (xs : List Int) (n l v : Int) : putD (pk xs n l) (.inr "at") (.int v) = pk xs v l := rfl
theorem pk_len (xs : List Int) (n l : Int) : ((pk xs n l).length < sizeLine) = True := eq_true (by show 3 < sizeLine; decide)
theorem dict_pd (kvs : List (Key × D)) : (Sl.pd kvs).dict = some kvs := rfl
theorem dictTo_pd (a b : List (Key × D)) : (Sl.pd a).dictTo b = .pd b := rfl
theorem dget_left (xs : List Int) (n l : Int) (e : Env) : mDGet 0 (mC (.str "left")) (.pd (pk xs n l) :: e) = some (.int l, .pd (pk xs n l) :: e) := rfl
theorem dget_at (xs : List Int) (n l : Int) (e : Env) : mDGet 0 (mC (.str "at")) (.pd (pk xs n l) :: e) = some (.int n, .pd (pk xs n l) :: e) := rfl
theorem dget_cells (xs : List Int) (n l : Int) (e : Env) : mDGet 0 (mC (.str "cells")) (.pd (pk xs n l) :: e) = some (.lst (xs.map D.int), .pd (pk xs n l) :: e) := rfl
theorem freeB_succ (a : Sl) (e : Env) (j : Nat) : freeB (a :: e) (j + 1) = freeB e j := rfl
theorem freeB_d (x : D) (e : Env) : freeB (.d x :: e) 0 = true := rfl
theorem freeB_no (e : Env) : freeB (.no :: e) 0 = true := rfl
theorem freeB_pd (k : List (Key × D)) (e : Env) : freeB (.pd k :: e) 0 = false := rfl
theorem freeB_od (k : List (Key × D)) (e : Env) : freeB (.od k :: e) 0 = true := rfl
theorem mergeS_d (x : D) (as : List Sl) (y : Sl) (e : Env) : mergeS (.d x :: as) (y :: e) = .d x :: mergeS as e := rfl
theorem mergeS_pd (x : List (Key × D)) (as : List Sl) (y : Sl) (e : Env) : mergeS (.pd x :: as) (y :: e) = y :: mergeS as e := rfl
theorem mergeS_nil (e : Env) : mergeS [] e = [] := rfl
theorem int_int (i : Int) : intOfD [.int i] = some (.int i) := rfl
theorem int_bl (b : Bool) : intOfD [.bl b] = some (.int (if b then 1 else 0)) := rfl
theorem abs_int (i : Int) : absD [.int i] = some (.int (if i < 0 then -i else i)) := rfl
theorem mod_int (i j : Int) : intD (fun i j => if 0 < j then some (.int (i % j)) else none) (.int i) (.int j) = if 0 < j then some (.int (i % j)) else none := rfl
theorem fdiv_int (i j : Int) : intD (fun i j => if CDiv i j then some (.int (i / j)) else none) (.int i) (.int j) = if CDiv i j then some (.int (i / j)) else none := rfl
theorem mul_int (i j : Int) : intD (fun i j => if CMul i j then some (.int (i * j)) else none) (.int i) (.int j) = if CMul i j then some (.int (i * j)) else none := rfl
theorem pow_int (i j : Int) : intD (fun i j => if CPow i j then some (.int (i ^ j.toNat)) else none) (.int i) (.int j) = if CPow i j then some (.int (i ^ j.toNat)) else none := rfl
local macro_rules | `(tactic| walk_at "ev") => `(tactic| try simp only [defM, mSeq, mIf, mOr, mAnd, mNot, mTru, mIs, mVar, mC, mBl, mChain, mCb, mCons, mNil, mRet, mNext, mAndV, mOrV, mNotV, mOp, mAll, mLst, mSz, mTup, mLc, mLc2, mIStr, mIList, mITup, mYes, mSl, mOSome, mONone, mM1, mSet, mCall, mCallK,
  Option.bind_some, Option.bind_none, le_int, lt_int, gt_int, ge_int, sub_int, add_int, iadd_int, mAug, isD1, dOf, dget_left, dget_at, dget_cells, dict_pd, dictTo_pd, put_left, put_at, pk_len, int_int, int_bl, abs_int, mod_int, fdiv_int, mul_int, pow_int, istup_tup, allNo, len_lst, len_tup, isBl_bl, isInt_int, isStr_str, isLst_lst, isTup_tup, data_d, tru_bl, kind_str, kind_tup, kind_lst, kind_bl, kind_int, kind_non, kind_dct, eq_int, in_taken, in_taken2, List.length_cons, List.length_nil, List.cons_append, List.nil_append, List.replicate, List.getElem?_cons_zero, List.getElem?_cons_succ, List.set_cons_zero, List.set_cons_succ, if_true, if_false, Bool.not_true, Bool.not_false, Bool.false_eq_true, Option.any_some, isNo, freeB_succ, freeB_d, freeB_no, freeB_pd, freeB_od, List.map_cons, List.map_nil, allNo, List.all_cons, List.all_nil, Bool.and_true, mergeS_d, mergeS_pd, mergeS_nil, Nat.reduceAdd, Nat.reduceSub, Nat.zero_add])
theorem ints_shp (xs : List Int) : shp (.lst (xs.map D.int)) = true := by
  have h0 : ∀ xs : List Int, deepAll (xs.map D.int) = true ∧ PyData.canLayAll0 (pyAll (xs.map D.int)) = true ∧ PyData.depthAll (pyAll (xs.map D.int)) = 0 := by
    intro xs
    induction xs with
    | nil => exact ⟨rfl, rfl, rfl⟩
    | cons d ds ih =>
      obtain ⟨a, b, c⟩ := ih
      refine ⟨a, b, ?_⟩
      show max 0 (PyData.depthAll (pyAll (ds.map D.int))) = 0
      rw [c]
      rfl
  obtain ⟨a, b, c⟩ := h0 xs
  show (deepAll (xs.map D.int) && (PyData.canLayAll0 (pyAll (xs.map D.int)) && decide (PyData.depthAll (pyAll (xs.map D.int)) + 1 ≤ 64))) = true
  rw [a, b, c]
  rfl
theorem ne_nil {xs : List D} (h : shp (.lst xs) = true) : neXD (.lst xs) (.lst []) = some (.bl (!xs.isEmpty)) := by
  have h1 : eqX (.lst xs) (.lst []) = some (PyData.eqv (.list (pyAll xs)) (.list (pyAll []))) := by
    show (if (shp (.lst xs) && shp (.lst [])) = true then some (PyData.eqv (D.lst xs).py (D.lst []).py) else none) = _
    rw [h]
    rfl
  unfold neXD
  rw [h1]
  cases xs <;> rfl
theorem ix_ints (xs : List Int) (i : Int) (h0 : 0 ≤ i) (h1 : i < xs.length) : ∃ c, ixD (.lst (xs.map D.int)) (.int i) = some (.int c) := by
  refine ⟨xs[i.toNat]'(by omega), ?_⟩
  show L2.atI (xs.map D.int) i = _
  unfold L2.atI ixN
  rw [if_pos h0, if_pos (by rw [List.length_map]; exact h1)]
  show (xs.map D.int)[i.toNat]? = _
  rw [List.getElem?_map, List.getElem?_eq_getElem (by omega)]
  rfl
theorem le_zero : ((0 : Nat) ≤ sizeLine) = True := eq_true (Nat.zero_le _)
def cellB : MS := (mIf (mBl (mOp neXD (mDGet 0 (mC (.str "cells"))) (mLst (mSz mNil)))) (mSet 4 (mOp ixD (mDGet 0 (mC (.str "cells"))) (mOp (intD fun i j => if 0 < j then some (.int (i % j)) else none) (mCb intOfD (mCons (mVar 3) mNil)) (mCb lenD (mCons (mDGet 0 (mC (.str "cells"))) mNil))))) mNext)
theorem cell_ok (xs : List Int) (n n1 l m c0 : Int) (hn : 0 ≤ n) : ∃ c, cellB [.pd (pk xs n1 l), .d (.int m), .no, .d (.int n), .d (.int c0), .no, .no] = some (Out.nx, [.pd (pk xs n1 l), .d (.int m), .no, .d (.int n), .d (.int c), .no, .no]) := by
  unfold cellB
  walk_at "ev"
  simp only [le_zero, if_true]
  walk_at "ev"
  rw [ne_nil (ints_shp xs)]
  walk_at "ev"
  cases xs with
  | nil => exact ⟨c0, rfl⟩
  | cons x r =>
    rw [show (!((x :: r).map D.int).isEmpty) = true from rfl]
    walk_at "ev"
    have hl : (0 : Int) < (r.length + 1 : Nat) := by omega
    simp only [List.length_map, hl, if_true]
    walk_at "ev"
    obtain ⟨c, hc⟩ := ix_ints (x :: r) (n % ((r.length + 1 : Nat) : Int)) (Int.emod_nonneg _ (by omega)) (by rw [List.length_cons]; exact Int.emod_lt_of_pos _ hl)
    refine ⟨c, ?_⟩
    rw [show D.int x :: List.map D.int r = (x :: r).map D.int from rfl, hc]
    rfl
theorem e_draw (k : Nat) (xs : List Int) (n l m : Int) (hm : 0 < m ∧ m ≤ 100) (hn : 0 ≤ n ∧ n ≤ 4000000) (hl : 0 ≤ l) :
    ∃ d n' l', cs (k + 1) 8 [.pd (pk xs n l), .d (.int m)] = some (.int d, [.pd (pk xs n' l'), .d (.int m)]) ∧ 0 ≤ d ∧ d < m ∧ n ≤ n' ∧ n' ≤ n + 1 ∧ 0 ≤ l' := by
  show ∃ d n' l', defM 2 7 (m__law_draw (cs k)) [.pd (pk xs n l), .d (.int m)] = _ ∧ _
  have hB := fun c0 => cell_ok xs n (n + 1) l m c0 hn.1
  unfold m__law_draw mDPut
  unfold cellB at hB
  generalize (mIf (mBl (mOp neXD (mDGet 0 (mC (.str "cells"))) (mLst (mSz mNil)))) (mSet 4 (mOp ixD (mDGet 0 (mC (.str "cells"))) (mOp (intD fun i j => if 0 < j then some (.int (i % j)) else none) (mCb intOfD (mCons (mVar 3) mNil)) (mCb lenD (mCons (mDGet 0 (mC (.str "cells"))) mNil))))) mNext) = B at hB ⊢
  have cd : ∀ i : Int, CDiv i m := fun i => ⟨hm.1, by omega⟩
  walk_at "ev"
  by_cases h0 : 0 < l
  · simp only [h0, decide_true, if_true]
    walk_at "ev"
    simp only [hm.1, if_true]
    walk_at "ev"
    simp only [cd, if_true]
    walk_at "ev"
    exact ⟨_, _, _, rfl, Int.emod_nonneg _ (by omega), Int.emod_lt_of_pos _ hm.1, Int.le_refl _, by omega, Int.ediv_nonneg hl (by omega)⟩
  · simp only [h0, decide_false, Bool.false_eq_true, if_false]
    walk_at "ev"
    have cm : CMul 7411 n := .inl ⟨by decide, by decide⟩
    simp only [cm, if_true]
    walk_at "ev"
    obtain ⟨c, hB⟩ := hB (7411 * n + 389)
    rw [hB]
    walk_at "ev"
    have cp : CPow 10 18 := by decide
    have ee : Int.toNat 18 = 18 := rfl
    simp only [List.length_map, cp, if_true, ee]
    walk_at "ev"
    have p1 : ((0 : Int) < 2147483563) = True := eq_true (by decide)
    have p2 : ((0 : Int) < 2147483647) = True := eq_true (by decide)
    have p3 : ((0 : Int) < 2147483587) = True := eq_true (by decide)
    have c2 : ∀ i : Int, CMul 2 i := fun i => .inl ⟨by decide, by decide⟩
    have c3 : ∀ i : Int, CMul 52361 i := fun i => .inl ⟨by decide, by decide⟩
    have c4 : ∀ i : Int, CMul 70001 i := fun i => .inl ⟨by decide, by decide⟩
    have hab : 0 ≤ (if c < 0 then -c else c) := by split <;> omega
    have tst : ∃ b : Bool, (if decide (n < (xs.length : Int)) = true then some (decide ((10 : Int) ^ 18 ≤ if c < 0 then -c else c), [Sl.pd (pk xs (n + 1) l), Sl.d (D.int m), Sl.no, Sl.d (D.int n), Sl.d (D.int c), Sl.no, Sl.no]) else some (false, [Sl.pd (pk xs (n + 1) l), Sl.d (D.int m), Sl.no, Sl.d (D.int n), Sl.d (D.int c), Sl.no, Sl.no])) = some (b, [Sl.pd (pk xs (n + 1) l), Sl.d (D.int m), Sl.no, Sl.d (D.int n), Sl.d (D.int c), Sl.no, Sl.no]) := by
      split
      · exact ⟨_, rfl⟩
      · exact ⟨_, rfl⟩
    obtain ⟨b, tst⟩ := tst
    rw [tst]
    walk_at "ev"
    cases b with
    | true =>
      simp only [if_true]
      walk_at "ev"
      simp only [c2, if_true]
      walk_at "ev"
      simp only [cd, if_true]
      walk_at "ev"
      simp only [hm.1, if_true]
      walk_at "ev"
      have hg : 0 ≤ 2 * (if c < 0 then -c else c) + (if decide (c < 0) = true then 1 else 0) := by
        have : (0 : Int) ≤ (if decide (c < 0) = true then 1 else 0) := by split <;> decide
        omega
      exact ⟨_, _, _, rfl, Int.emod_nonneg _ (by omega), Int.emod_lt_of_pos _ hm.1, by omega, by omega, Int.ediv_nonneg hg (by omega)⟩
    | false =>
      simp only [Bool.false_eq_true, if_false]
      walk_at "ev"
      simp only [p1, if_true]
      walk_at "ev"
      simp only [c3, if_true]
      walk_at "ev"
      have r1 := Int.emod_nonneg c (show (2147483563 : Int) ≠ 0 by decide)
      have r2 := Int.emod_lt_of_pos c (show (0 : Int) < 2147483563 by decide)
      generalize c % 2147483563 = c1 at r1 r2 ⊢
      have cp1 : CPow (c1 + 52361 * n + 41) 3 := ⟨by decide, by decide, by omega⟩
      simp only [cp1, if_true]
      walk_at "ev"
      simp only [p2, if_true]
      walk_at "ev"
      have r3 := Int.emod_nonneg ((c1 + 52361 * n + 41) ^ Int.toNat 3) (show (2147483647 : Int) ≠ 0 by decide)
      have r4 := Int.emod_lt_of_pos ((c1 + 52361 * n + 41) ^ Int.toNat 3) (show (0 : Int) < 2147483647 by decide)
      generalize (c1 + 52361 * n + 41) ^ Int.toNat 3 % 2147483647 = c5 at r3 r4 ⊢
      simp only [c2, if_true]
      walk_at "ev"
      have cm1 : CMul c5 (2 * n + 9) := .inl ⟨by omega, by omega⟩
      simp only [cm1, if_true]
      walk_at "ev"
      simp only [c4, if_true]
      walk_at "ev"
      have cm2 : CMul (70001 * n) n := .inl ⟨by omega, by omega⟩
      simp only [cm2, if_true]
      walk_at "ev"
      have cp2 : CPow (c5 * (2 * n + 9) + 70001 * n * n + 17) 3 := by
        refine ⟨by decide, by decide, ?_⟩
        have a1 : 0 ≤ c5 * (2 * n + 9) := Int.mul_nonneg r3 (by omega)
        have a2 : c5 * (2 * n + 9) ≤ 2147483647 * 8000009 := Int.mul_le_mul (by omega) (by omega) (by omega) (by decide)
        have a3 : 0 ≤ 70001 * n * n := Int.mul_nonneg (by omega) hn.1
        have a4 : 70001 * n * n ≤ 70001 * 4000000 * 4000000 := Int.mul_le_mul (by omega) hn.2 hn.1 (by decide)
        omega
      simp only [cp2, if_true]
      walk_at "ev"
      simp only [p3, if_true]
      walk_at "ev"
      have cd32 : ∀ i : Int, CDiv i 32 := fun i => ⟨by decide, by decide⟩
      simp only [cd32, if_true]
      walk_at "ev"
      simp only [hm.1, if_true]
      walk_at "ev"
      exact ⟨_, _, _, rfl, Int.emod_nonneg _ (by omega), Int.emod_lt_of_pos _ hm.1, by omega, by omega, hl⟩
end Nv

set_option Elab.async false
set_option linter.all false
set_option maxRecDepth 100000
set_option maxHeartbeats 4000000
namespace Nv
open PySem L2 PyProof.Rows PySem.Spec
local macro_rules | `(tactic| walk_at "ev") => `(tactic| try simp only [defM, mSeq, mIf, mOr, mAnd, mNot, mTru, mIs, mVar, mC, mBl, mChain, mCb, mCons, mNil, mRet, mNext, mAndV, mOrV, mNotV, mOp, mAll, mLst, mSz, mTup, mLc, mLc2, mIStr, mIList, mITup, mYes, mSl, mOSome, mONone, mM1, mSet, mCall, mCallK,
  Option.bind_some, Option.bind_none, le_int, lt_int, gt_int, ge_int, sub_int, add_int, iadd_int, mAug, isD1, dOf, dget_left, dget_at, dget_cells, dict_pd, dictTo_pd, put_left, put_at, pk_len, int_int, int_bl, abs_int, mod_int, fdiv_int, mul_int, pow_int, istup_tup, allNo, len_lst, len_tup, isBl_bl, isInt_int, isStr_str, isLst_lst, isTup_tup, data_d, tru_bl, kind_str, kind_tup, kind_lst, kind_bl, kind_int, kind_non, kind_dct, eq_int, in_taken, in_taken2, List.length_cons, List.length_nil, List.cons_append, List.nil_append, List.replicate, List.getElem?_cons_zero, List.getElem?_cons_succ, List.set_cons_zero, List.set_cons_succ, if_true, if_false, Bool.not_true, Bool.not_false, Bool.false_eq_true, Option.any_some, isNo, freeB_succ, freeB_d, freeB_no, freeB_pd, freeB_od, List.map_cons, List.map_nil, allNo, List.all_cons, List.all_nil, Bool.and_true, mergeS_d, mergeS_pd, mergeS_nil, Nat.reduceAdd, Nat.reduceSub, Nat.zero_add])

/-! ### the pen is handed on -/
theorem callP0 {np : Nat} {c : Fm} {a : M (List D)} {K K1 K2 : List (Key × D)} {e e1 : Env} {ds : List D} {d : D} {r : List Sl} (ha : a (.pd K :: e) = some (ds, .pd K1 :: e1)) (hl : ds.length + 1 = np) (hc : c (.pd K1 :: ds.map .d) = some (d, .pd K2 :: r)) : mCallP np 0 c a (.pd K :: e) = some (d, .pd K2 :: e1) := by
  unfold mCallP
  show (some (Sl.pd K)).bind _ = _
  simp only [Option.bind_some]
  rw [ha]
  simp only [Option.bind_some]
  show (some (Sl.pd K1)).bind _ = _
  simp only [Option.bind_some, if_pos hl]
  rw [show (Sl.pd K1).lend = .pd K1 from rfl, hc]
  rfl
theorem callP1 {np : Nat} {c : Fm} {a : M (List D)} {x x1 : Sl} {K K1 K2 : List (Key × D)} {e e1 : Env} {ds : List D} {d : D} {r : List Sl} (ha : a (x :: .od K :: e) = some (ds, x1 :: .od K1 :: e1)) (hl : ds.length + 1 = np) (hc : c (.pd K1 :: ds.map .d) = some (d, .pd K2 :: r)) : mCallP np 1 c a (x :: .od K :: e) = some (d, x1 :: .od K2 :: e1) := by
  unfold mCallP
  show (some (Sl.od K)).bind _ = _
  simp only [Option.bind_some]
  rw [ha]
  simp only [Option.bind_some]
  show (some (Sl.od K1)).bind _ = _
  simp only [Option.bind_some, if_pos hl]
  rw [show (Sl.od K1).lend = .pd K1 from rfl, hc]
  rfl
/-- a pen that may still be asked -/
structure PenAt (xs : List Int) (N : Int) (K : List (Key × D)) : Prop where
  ex : ∃ n l, K = pk xs n l ∧ 0 ≤ n ∧ n ≤ N ∧ 0 ≤ l
theorem draw (k : Nat) {xs : List Int} {N m : Int} {K : List (Key × D)} (h : PenAt xs N K) (hm : 0 < m ∧ m ≤ 100) (hN : N ≤ 4000000) : ∃ d K', cs (k + 1) 8 [.pd K, .d (.int m)] = some (.int d, [.pd K', .d (.int m)]) ∧ 0 ≤ d ∧ d < m ∧ PenAt xs (N + 1) K' := by
  obtain ⟨n, l, rfl, h0, h1, h2⟩ := h.ex
  obtain ⟨d, n', l', e, a, b, c1, c2, c3⟩ := e_draw k xs n l m hm ⟨h0, by omega⟩ h2
  exact ⟨d, pk xs n' l', e, a, b, ⟨n', l', rfl, by omega, by omega, c3⟩⟩
theorem PenAt.up {xs : List Int} {N M : Int} {K : List (Key × D)} (h : PenAt xs N K) (hm : N ≤ M) : PenAt xs M K := by
  obtain ⟨n, l, e, a, b, c⟩ := h.ex
  exact ⟨n, l, e, a, by omega, c⟩
/-- draw(pen, m), the pen in the slot 0 -/
theorem draw0 (k : Nat) {xs : List Int} {N m : Int} {K : List (Key × D)} (h : PenAt xs N K) (hm : 0 < m ∧ m ≤ 100) (hN : N ≤ 4000000) : ∃ d K', (∀ e, mCallP 2 0 (cs (k + 1) 8) (mCons (mC (.int m)) mNil) (.pd K :: e) = some (.int d, .pd K' :: e)) ∧ 0 ≤ d ∧ d < m ∧ PenAt xs (N + 1) K' := by
  obtain ⟨d, K', e1, a, b, c⟩ := draw k h hm hN
  exact ⟨d, K', fun e => callP0 (ds := [.int m]) rfl rfl e1, a, b, c⟩

/-! ### odd values -/
end Nv

set_option Elab.async false
set_option linter.all false
set_option maxRecDepth 100000
set_option maxHeartbeats 1000000
namespace Nv
open PySem L2 PyProof.Rows PySem.Spec
/-! ShW: the law's own look at words. -/
section
open TL PySem.Builtin.Str PySem.StrLaws
theorem from_len (x : Str) (w : Nat) : ∀ (cuts : List Nat) (a : Nat), (partsFrom x w a cuts).length = cuts.length + 1
  | [], _ => rfl
  | c :: r, a => congrArg Nat.succ (from_len x w r (c + w))
theorem count_split (x y : Str) (hy : TL.tl y ≠ []) (hk : ¬ Builtin.Str.strKind x < Builtin.Str.strKind y) : (Txt.split x y).length = (occurrences x y 0 x.length (x.length + 1)).length + 1 := by
  obtain ⟨f, g, hn⟩ := occ_tight x y (len1 hy)
  unfold Txt.split
  by_cases h1 : (decide (x.length < y.length) || decide (Builtin.Str.strKind x < Builtin.Str.strKind y)) = true
  · rw [if_pos h1]
    have hlt : x.length < y.length := by
      simp only [Bool.or_eq_true, decide_eq_true_eq] at h1
      rcases h1 with h | h
      · exact h
      · exact absurd h hk
    have ho : occurrences x y 0 x.length (x.length + 1) = [] := by
      cases ho : occurrences x y 0 x.length (x.length + 1) with
      | nil => rfl
      | cons c r =>
        rw [ho] at g
        have hc : c + y.length ≤ x.length := g.2.1.1
        omega
    rw [ho]
    rfl
  · rw [if_neg h1]
    by_cases h2 : (occurrences x y 0 x.length (x.length + 1)).isEmpty = true
    · rw [if_pos h2, List.isEmpty_iff.mp h2]
      rfl
    · rw [if_neg h2, partsBetween_eq]
      exact from_len _ _ _ _
end
theorem count_dot (s : Str) : Txt.count s "." = ((parts s).length : Int) - 1 := by
  have := count_split s "." (by decide) (TL.kind_ok (by decide +kernel))
  unfold parts
  rw [this]
  show ((PySem.Builtin.Str.occurrences s "." 0 s.length (s.length + 1)).length : Int) = _
  omega
end Nv

set_option Elab.async false
set_option linter.all false
set_option maxRecDepth 100000
set_option maxHeartbeats 1000000
namespace Nv
open PySem L2 PyProof.Rows PySem.Spec
local macro_rules | `(tactic| walk_at "n") => `(tactic| try simp only [List.set_cons_zero, List.set_cons_succ, List.map_cons, List.map_nil, List.cons_append, List.nil_append, List.replicate, Nat.reduceSub])
local macro_rules | `(tactic| walk_at "s") => `(tactic| first
  | with_reducible refine wp_seq ?_ | with_reducible refine wk_nx ?_ | with_reducible refine wk_rt ?_ | with_reducible refine wt_nx ?_ | with_reducible refine wt_rt ?_ | with_reducible refine wt_bk ?_ | with_reducible refine wt_ct ?_ | with_reducible refine wk_bk ?_ | with_reducible refine wk_ct ?_
  | with_reducible refine wp_if ?_ | with_reducible refine wp_ret ?_ | with_reducible refine wp_next ?_ | with_reducible refine wp_retN ?_ | with_reducible refine wp_set ?_ | with_reducible refine wp_own ?_ | with_reducible refine wp_drop ?_
  | ((with_reducible refine' wp_var ?_ ?_); rotate_left; rfl) | with_reducible refine wp_c ?_ | with_reducible refine wp_op ?_ | with_reducible refine wp_un ?_ | with_reducible refine wp_cb ?_ | with_reducible refine wp_cons ?_ | with_reducible refine wp_nil ?_
  | with_reducible refine wp_bl ?_ | with_reducible refine wp_tru ?_ | with_reducible refine wp_not ?_ | with_reducible refine wp_and ?_ | with_reducible refine wp_or ?_ | with_reducible refine wp_andV ?_ | with_reducible refine wp_orV ?_ | with_reducible refine wp_notV ?_
  | with_reducible refine wp_chain ?_ | with_reducible refine wp_sz ?_ | with_reducible refine wp_lst ?_ | with_reducible refine wp_tup ?_ | with_reducible refine wp_is ?_ | with_reducible refine wp_onone ?_ | with_reducible refine wp_osome ?_ | with_reducible refine wp_sl ?_ | with_reducible refine wp_m1 ?_
  | with_reducible refine wp_all ?_ | with_reducible refine wp_repr ?_ | with_reducible refine wp_peek ?_ | with_reducible refine wp_peekT ?_ | with_reducible refine wp_addF ?_ | with_reducible refine wp_ilist ?_ | with_reducible refine wp_itup ?_ | with_reducible refine wp_istr ?_ | with_reducible refine wp_irng ?_ | with_reducible refine wp_list ?_
  | with_reducible refine wp_for ?_ | with_reducible refine wp_call ?_ | with_reducible refine wp_callK ?_ | with_reducible refine wp_lnil ?_ | with_reducible refine wp_ldat ?_ | with_reducible refine wp_callL ?_ | with_reducible refine wp_flast ?_ | with_reducible refine wp_fdat ?_ | with_reducible refine wp_callF ?_
  | with_reducible refine ⟨_, (by assumption : _ = some _), ?_⟩
  | ((with_reducible refine' call_and ?_ ?_ ?_); rotate_left 2; (· rfl); (· assumption)) | ((with_reducible refine' callk_and ?_ ?_ ?_); rotate_left 2; (· exact ⟨rfl, rfl⟩); (· assumption))
  | refine ite_t ?_ | refine ite_f ?_ | refine ite_nt ?_ | refine ite_nf ?_
  | with_reducible refine ⟨_, add_int, ?_⟩ | with_reducible refine ⟨_, iadd_int, ?_⟩ | with_reducible refine ⟨_, sub_int, ?_⟩ | with_reducible refine ⟨_, lt_int, ?_⟩ | with_reducible refine ⟨_, le_int, ?_⟩ | with_reducible refine ⟨_, gt_int, ?_⟩ | with_reducible refine ⟨_, ge_int, ?_⟩ | with_reducible refine ⟨_, eq_int, ?_⟩
  | with_reducible refine ⟨_, len_lst, ?_⟩ | with_reducible refine ⟨_, len_tup, ?_⟩ | with_reducible refine ⟨_, tru_bl, ?_⟩ | with_reducible refine ⟨_, int_int _, ?_⟩ | with_reducible refine ⟨_, int_bl _, ?_⟩
  | with_reducible refine ⟨_, rfl, ?_⟩ | ((with_reducible refine free_and ?_ ?_); (· first | rfl | assumption); walk_at "n") | ((with_reducible refine kind_and ?_ ?_); (· first | rfl | assumption)) | ((with_reducible refine size_and ?_ ?_); (· simp only [List.length_cons, List.length_nil, sizeLine_eq]; omega))
  | with_reducible refine ite_y (by assumption) ?_ | with_reducible refine ite_n (by assumption) ?_ | with_reducible refine ite_ny (by assumption) ?_ | with_reducible refine ite_nn (by assumption) ?_ | with_reducible refine ite_bt (by assumption) ?_ | with_reducible refine ite_bf (by assumption) ?_ | with_reducible refine ite_nbt (by assumption) ?_ | with_reducible refine ite_nbf (by assumption) ?_)
local macro_rules | `(tactic| walk_at "r") => `(tactic| repeat walk_at "s")
local macro_rules | `(tactic| walk_at "f") => `(tactic| (refine ⟨rfl, ?_⟩; walk_at "n"))
theorem ne_int {i j : Int} : neXD (.int i) (.int j) = some (.bl (!decide (i = j))) := rfl
theorem lstr {s : Str} {Q : D → Prop} (h : s.length ≤ sizeLine) (k : Q (.int s.length)) : ∃ z, lenD [.str s] = some z ∧ Q z := ⟨_, len_str h, k⟩
/-- what the law finds wrong of a part -/
def badB (p : Str) : Bool := !(p.cps.toList.all (inS smallS)) || !(decide ((0 : Int) < p.length) && decide ((p.length : Int) < 9)) || ((p == "self") || (p == "head"))
theorem bad_name (p : Str) : badB p = !nameS p := by
  unfold badB nameS
  have e1 : decide ((0 : Int) < (p.length : Int)) = decide ((1 : Int) ≤ p.length) := decide_eq_decide.mpr (by omega)
  have e2 : decide ((p.length : Int) < 9) = decide ((p.length : Int) ≤ 8) := decide_eq_decide.mpr (by omega)
  rw [e1, e2]
  cases decide ((1 : Int) ≤ (p.length : Int)) <;> cases decide ((p.length : Int) ≤ 8) <;> cases (p == ("self" : Str)) <;> cases (p == ("head" : Str)) <;> cases p.cps.toList.all (inS smallS) <;> rfl
def lwBody : MS := (mSeq (mSet 2 (mLst (mLc (mIStr (mVar 1)) (mBl (mOp (inD true) (mVar 3) (mC (.str "abcdefghijklmnopqrstuvwxyz")))) (mVar 3) 3)))
    (mIf (mOr (mBl (mOp neXD (mVar 2) (mLst (mSz mNil)))) (mOr (mNot (mBl (mChain ltD ltD (mC (.int 0)) (mCb lenD (mCons (mVar 1) mNil)) (mC (.int 9))))) (mBl (mOp (inD false) (mVar 1) (mTup (mCons (mC (.str "self")) (mCons (mC (.str "head")) mNil))))))) (mRet (mC (.bl false))) mNext))
theorem lw_turn {x0 : Sl} {p : Str} {x2 : Sl} (h : FitS p) (h2 : Plain x2) {N : Env → Prop} {R : Out → Env → Prop}
    (k : ∀ y, if nameS p = true then N [x0, .d (.str p), .d y, .no] else R (.rt (.bl false)) [x0, .d (.str p), .d y, .no]) : Wp lwBody [x0, .d (.str p), x2, .no] (turnK N R) := by
  have hf : freeB [x0, .d (.str p), x2, .no] 2 = true := by rcases h2 with rfl | ⟨y, rfl⟩ <;> rfl
  have hb := bad_name p
  have e1 := ne_nil (strs_shp (sgn_ok (p := fun d => !sgnIn "abcdefghijklmnopqrstuvwxyz" d) h.ok))
  have e2 := len_str (s := p) h.size
  have e3 := in_taken2 p
  unfold lwBody
  walk_at "s"
  walk_at "s"
  walk_at "s"
  with_reducible refine wp_lc ?_
  walk_at "r"
  refine ⟨rfl, _, _, out_of "abcdefghijklmnopqrstuvwxyz" p 3 _ rfl h.size, hf, ?_⟩
  walk_at "n"
  walk_at "r"
  rw [none_out]
  unfold badB at hb
  cases q1 : p.cps.toList.all (inS smallS) with
  | false =>
    have q : nameS p = false := by
      rw [q1] at hb
      cases z : nameS p with
      | false => rfl
      | true => rw [z] at hb; cases hb
    rw [q] at k
    walk_at "r"
    exact k _
  | true =>
    rw [q1] at hb
    walk_at "r"
    refine ite_dec (fun z1 => ?_) fun z1 => ?_
    · walk_at "r"
      rw [decide_eq_true z1] at hb
      refine ite_nb (fun z2 => ?_) fun z2 => ?_
      · rw [z2] at hb
        have q : nameS p = false := by
          cases z : nameS p with
          | false => rfl
          | true => rw [z] at hb; cases hb
        rw [q] at k
        walk_at "r"
        exact k _
      · rw [z2] at hb
        walk_at "r"
        refine ite_b (fun z3 => ?_) fun z3 => ?_
        · rw [z3] at hb
          have q : nameS p = false := by
            cases z : nameS p with
            | false => rfl
            | true => rw [z] at hb; cases hb
          rw [q] at k
          walk_at "r"
          exact k _
        · rw [z3] at hb
          have q : nameS p = true := by
            cases z : nameS p with
            | true => rfl
            | false => rw [z] at hb; cases hb
          rw [q] at k
          walk_at "r"
          exact k _
    · walk_at "r"
      rw [decide_eq_false z1] at hb
      have q : nameS p = false := by
        cases z : nameS p with
        | false => rfl
        | true => rw [z] at hb; cases hb
      rw [q] at k
      exact k _
theorem lw_loop {x0 : Sl} {R : Out → Env → Prop} : ∀ (ps : List Str) (x1 x2 : Sl), (∀ p ∈ ps, FitS p) → Plain x1 → Plain x2 → (∀ y1 y2, Plain y1 → Plain y2 → if ps.all nameS = true then R .nx [x0, y1, y2, .no] else R (.rt (.bl false)) [x0, y1, y2, .no]) →
    Wp (forGo 1 lwBody (ps.map D.str)) [x0, x1, x2, .no] R
  | [], x1, x2, _, h1, h2, k => for_nil (k x1 x2 h1 h2)
  | p :: ps, x1, x2, h, h1, h2, k => by
    have hf : freeB [x0, x1, x2, .no] 1 = true := by rcases h1 with rfl | ⟨y, rfl⟩ <;> rfl
    refine for_cons1 hf ?_
    walk_at "n"
    refine lw_turn (h p List.mem_cons_self) h2 fun y => ?_
    cases q : nameS p with
    | true =>
      refine ite_t ?_
      refine lw_loop ps _ _ (fun r hr => h r (List.mem_cons_of_mem _ hr)) (.inr ⟨_, rfl⟩) (.inr ⟨_, rfl⟩) fun y1 y2 g1 g2 => ?_
      have := k y1 y2 g1 g2
      rw [List.all_cons, q, Bool.true_and] at this
      exact this
    | false =>
      refine ite_f ?_
      have := k _ _ (.inr ⟨.str p, rfl⟩) (.inr ⟨y, rfl⟩)
      rw [List.all_cons, q, Bool.false_and] at this
      exact this
end Nv

set_option Elab.async false
set_option linter.all false
set_option maxRecDepth 100000
set_option maxHeartbeats 1000000
namespace Nv
open PySem L2 PyProof.Rows PySem.Spec
local macro_rules | `(tactic| walk_at "n") => `(tactic| try simp only [List.set_cons_zero, List.set_cons_succ, List.map_cons, List.map_nil, List.cons_append, List.nil_append, List.replicate, Nat.reduceSub])
local macro_rules | `(tactic| walk_at "s") => `(tactic| first
  | with_reducible refine wp_seq ?_ | with_reducible refine wk_nx ?_ | with_reducible refine wk_rt ?_ | with_reducible refine wt_nx ?_ | with_reducible refine wt_rt ?_ | with_reducible refine wt_bk ?_ | with_reducible refine wt_ct ?_ | with_reducible refine wk_bk ?_ | with_reducible refine wk_ct ?_
  | with_reducible refine wp_if ?_ | with_reducible refine wp_ret ?_ | with_reducible refine wp_next ?_ | with_reducible refine wp_retN ?_ | with_reducible refine wp_set ?_ | with_reducible refine wp_own ?_ | with_reducible refine wp_drop ?_
  | ((with_reducible refine' wp_var ?_ ?_); rotate_left; rfl) | with_reducible refine wp_c ?_ | with_reducible refine wp_op ?_ | with_reducible refine wp_un ?_ | with_reducible refine wp_cb ?_ | with_reducible refine wp_cons ?_ | with_reducible refine wp_nil ?_
  | with_reducible refine wp_bl ?_ | with_reducible refine wp_tru ?_ | with_reducible refine wp_not ?_ | with_reducible refine wp_and ?_ | with_reducible refine wp_or ?_ | with_reducible refine wp_andV ?_ | with_reducible refine wp_orV ?_ | with_reducible refine wp_notV ?_
  | with_reducible refine wp_chain ?_ | with_reducible refine wp_sz ?_ | with_reducible refine wp_lst ?_ | with_reducible refine wp_tup ?_ | with_reducible refine wp_is ?_ | with_reducible refine wp_onone ?_ | with_reducible refine wp_osome ?_ | with_reducible refine wp_sl ?_ | with_reducible refine wp_m1 ?_
  | with_reducible refine wp_all ?_ | with_reducible refine wp_repr ?_ | with_reducible refine wp_peek ?_ | with_reducible refine wp_peekT ?_ | with_reducible refine wp_addF ?_ | with_reducible refine wp_ilist ?_ | with_reducible refine wp_itup ?_ | with_reducible refine wp_istr ?_ | with_reducible refine wp_irng ?_ | with_reducible refine wp_list ?_
  | with_reducible refine wp_for ?_ | with_reducible refine wp_call ?_ | with_reducible refine wp_callK ?_ | with_reducible refine wp_lnil ?_ | with_reducible refine wp_ldat ?_ | with_reducible refine wp_callL ?_ | with_reducible refine wp_flast ?_ | with_reducible refine wp_fdat ?_ | with_reducible refine wp_callF ?_
  | with_reducible refine ⟨_, (by assumption : _ = some _), ?_⟩
  | ((with_reducible refine' call_and ?_ ?_ ?_); rotate_left 2; (· rfl); (· assumption)) | ((with_reducible refine' callk_and ?_ ?_ ?_); rotate_left 2; (· exact ⟨rfl, rfl⟩); (· assumption))
  | refine ite_t ?_ | refine ite_f ?_ | refine ite_nt ?_ | refine ite_nf ?_
  | with_reducible refine ⟨_, add_int, ?_⟩ | with_reducible refine ⟨_, iadd_int, ?_⟩ | with_reducible refine ⟨_, sub_int, ?_⟩ | with_reducible refine ⟨_, lt_int, ?_⟩ | with_reducible refine ⟨_, le_int, ?_⟩ | with_reducible refine ⟨_, gt_int, ?_⟩ | with_reducible refine ⟨_, ge_int, ?_⟩ | with_reducible refine ⟨_, eq_int, ?_⟩
  | with_reducible refine ⟨_, len_lst, ?_⟩ | with_reducible refine ⟨_, len_tup, ?_⟩ | with_reducible refine ⟨_, tru_bl, ?_⟩ | with_reducible refine ⟨_, int_int _, ?_⟩ | with_reducible refine ⟨_, int_bl _, ?_⟩
  | with_reducible refine ⟨_, rfl, ?_⟩ | ((with_reducible refine free_and ?_ ?_); (· first | rfl | assumption); walk_at "n") | ((with_reducible refine kind_and ?_ ?_); (· first | rfl | assumption)) | ((with_reducible refine size_and ?_ ?_); (· simp only [List.length_cons, List.length_nil, sizeLine_eq]; omega))
  | with_reducible refine ite_y (by assumption) ?_ | with_reducible refine ite_n (by assumption) ?_ | with_reducible refine ite_ny (by assumption) ?_ | with_reducible refine ite_nn (by assumption) ?_ | with_reducible refine ite_bt (by assumption) ?_ | with_reducible refine ite_bf (by assumption) ?_ | with_reducible refine ite_nbt (by assumption) ?_ | with_reducible refine ite_nbf (by assumption) ?_)
local macro_rules | `(tactic| walk_at "r") => `(tactic| repeat walk_at "s")
local macro_rules | `(tactic| walk_at "f") => `(tactic| (refine ⟨rfl, ?_⟩; walk_at "n"))
/-! the law's count of symbols and depth -/
def maxL : List Nat → Nat
  | [] => 0
  | x :: xs => max x (maxL xs)
def hgt : Nat → D → Nat
  | 0, _ => 0
  | n + 1, d => maxL ((kidsD d).map (hgt n)) + 1
def resD : Option (Nat × Nat) → D
  | none => .non
  | some (a, b) => .tup [.int a, .int b]
def cntF (n : Nat) (d : D) : Option (Nat × Nat) := if okT false n d = true then some (cnt n d, hgt n d) else none
theorem okT_within : ∀ (r n : Nat) (d : D), r ≤ n → (okT false r d = true ↔ okT false n d = true ∧ hgt n d ≤ r) ∧ (okT false r d = true → cnt r d = cnt n d)
  | 0, 0, d, _ => ⟨⟨fun h => (by cases h), fun h => (by cases h.1)⟩, fun h => (by cases h)⟩
  | 0, n + 1, d, _ => ⟨⟨fun h => (by cases h), fun h => absurd h.2 (by show ¬ (maxL _ + 1 ≤ 0); omega)⟩, fun h => (by cases h)⟩
  | r + 1, 0, d, h => absurd h (by omega)
  | r + 1, n + 1, d, h => by
    have mx : ∀ (xs : List Nat) (m : Nat), maxL xs ≤ m ↔ ∀ x ∈ xs, x ≤ m := by
      intro xs m
      induction xs with
      | nil => simp [maxL]
      | cons x xs ih =>
        show max x (maxL xs) ≤ m ↔ _
        rw [Nat.max_le, ih]
        simp
    have ih := fun x => okT_within r n x (by omega)
    have e1 : okT false (r + 1) d = (pieceD false d && (kidsD d).all (okT false r)) := rfl
    have e2 : okT false (n + 1) d = (pieceD false d && (kidsD d).all (okT false n)) := rfl
    have e3 : hgt (n + 1) d ≤ r + 1 ↔ ∀ x ∈ kidsD d, hgt n x ≤ r := by
      show maxL ((kidsD d).map (hgt n)) + 1 ≤ r + 1 ↔ _
      rw [Nat.add_le_add_iff_right, mx]
      simp
    refine ⟨?_, fun hk => ?_⟩
    · rw [e1, e2, e3, Bool.and_eq_true, Bool.and_eq_true, List.all_eq_true, List.all_eq_true]
      constructor
      · rintro ⟨a, b⟩
        exact ⟨⟨a, fun x hx => (((ih x).1).mp (b x hx)).1⟩, fun x hx => (((ih x).1).mp (b x hx)).2⟩
      · rintro ⟨⟨a, b⟩, c⟩
        exact ⟨a, fun x hx => ((ih x).1).mpr ⟨b x hx, c x hx⟩⟩
    · rw [e1, Bool.and_eq_true, List.all_eq_true] at hk
      show 1 + ((kidsD d).map (cnt r)).sum = 1 + ((kidsD d).map (cnt n)).sum
      rw [List.map_congr_left fun x hx => (ih x).2 (hk.2 x hx)]
/-- what the program and the law say of a term, both -/
def termB (d : D) : Bool := okT false 6 d && decide (cnt 6 d ≤ 40)
theorem term_within (d : D) : withinL false 6 [d] 0 = termB d := by
  rw [within_of]
  unfold termB sumC
  simp
theorem term_law (n : Nat) (d : D) (hn : 6 ≤ n) : (match cntF n d with | none => false | some (a, b) => decide (a ≤ 40) && decide (b ≤ 6)) = termB d := by
  obtain ⟨h1, h2⟩ := okT_within 6 n d hn
  unfold cntF termB
  cases q : okT false 6 d with
  | true =>
    obtain ⟨a, b⟩ := h1.mp q
    rw [if_pos a, h2 q]
    show (decide (cnt n d ≤ 40) && decide (hgt n d ≤ 6)) = _
    rw [decide_eq_true b, Bool.and_true, Bool.true_and]
  | false =>
    by_cases a : okT false n d = true
    · rw [if_pos a]
      have : ¬ hgt n d ≤ 6 := fun b => by
        have := h1.mpr ⟨a, b⟩
        rw [q] at this
        cases this
      show (decide (cnt n d ≤ 40) && decide (hgt n d ≤ 6)) = _
      rw [decide_eq_false this, Bool.and_false, Bool.false_and]
    · rw [if_neg a]
      rfl
/-! ### the law's walk -/
theorem isD_non (d : D) : isD d .non = some (.bl (isNon d)) := by cases d <;> rfl
theorem noD_non (d : D) : noD d .non = some (.bl (!isNon d)) := by cases d <;> rfl
theorem ix_two (a b : D) (i : Int) (h : i = 0 ∨ i = 1) : ixD (.tup [a, b]) (.int i) = some (if i = 0 then a else b) := by
  rcases h with rfl | rfl <;> rfl
theorem max2 (i j : Nat) : max2D [.int (i : Int), .int (j : Int)] = some (.int ((max i j : Nat) : Int)) := by
  show some (D.int (if (j : Int) > (i : Int) then (j : Int) else (i : Int))) = _
  congr 2
  split <;> omega
def lcBody (c : Nat → Fm) : MS := (mSeq (mSet 6 (mCall 1 (c 14) (mCons (mVar 5) mNil)))
    (mSeq (mIf (mBl (mOp isD (mVar 6) (mC .non))) (mRet (mC .non)) mNext)
    (mSeq (mSet 3 (mOp addD (mVar 3) (mOp ixD (mVar 6) (mC (.int 0)))))
    (mSet 4 (mCb max2D (mCons (mVar 4) (mCons (mOp ixD (mVar 6) (mC (.int 1))) mNil)))))))
theorem lcnt_loop {c : Nat → Fm} {n : Nat} {x0 x1 x2 x7 : Sl} {R : Out → Env → Prop} : ∀ (ds : List D) (s m : Nat) (x5 x6 : Sl), (∀ d ∈ ds, c 14 [.d d] = some (resD (cntF n d), [.d d])) → Plain x5 → Plain x6 →
    (∀ y5 y6, Plain y5 → Plain y6 → if ds.all (okT false n) = true then R .nx [x0, x1, x2, .d (.int ((s + (ds.map (cnt n)).sum : Nat) : Int)), .d (.int ((max m (maxL (ds.map (hgt n))) : Nat) : Int)), y5, y6, x7] else ∀ y3 y4, R (.rt .non) [x0, x1, x2, y3, y4, y5, y6, x7]) →
    Wp (forGo 5 (lcBody c) ds) [x0, x1, x2, .d (.int (s : Int)), .d (.int (m : Int)), x5, x6, x7] R
  | [], s, m, x5, x6, _, h5, h6, k => for_nil (by
      have := k x5 x6 h5 h6
      rw [List.all_nil, if_pos rfl] at this
      show R .nx [x0, x1, x2, .d (.int ((s : Nat) : Int)), .d (.int ((m : Nat) : Int)), x5, x6, x7]
      have e : max m (maxL (List.map (hgt n) [])) = m := Nat.max_eq_left (Nat.zero_le _)
      rw [e] at this
      exact this)
  | d :: ds, s, m, x5, x6, hc, h5, h6, k => by
    have hf5 : freeB [x0, x1, x2, .d (.int (s : Int)), .d (.int (m : Int)), x5, x6, x7] 5 = true := by rcases h5 with rfl | ⟨y, rfl⟩ <;> rfl
    have hf6 : freeB [x0, x1, x2, .d (.int (s : Int)), .d (.int (m : Int)), .d d, x6, x7] 6 = true := by rcases h6 with rfl | ⟨y, rfl⟩ <;> rfl
    have h1 := hc d List.mem_cons_self
    refine for_cons1 hf5 ?_
    walk_at "n"
    unfold lcBody
    walk_at "r"
    unfold cntF
    cases q : okT false n d with
    | false =>
      rw [if_neg Bool.false_ne_true]
      walk_at "r"
      have := k (.d d) (.d .non) (.d _) (.d _)
      rw [List.all_cons, q, Bool.false_and, if_neg Bool.false_ne_true] at this
      exact this _ _
    | true =>
      rw [if_pos rfl]
      walk_at "r"
      have e1 : ((s : Nat) : Int) + ((cnt n d : Nat) : Int) = ((s + cnt n d : Nat) : Int) := by omega
      have e2 : (if ((hgt n d : Nat) : Int) > ((m : Nat) : Int) then ((hgt n d : Nat) : Int) else ((m : Nat) : Int)) = ((max m (hgt n d) : Nat) : Int) := by split <;> omega
      rw [e1, e2]
      refine lcnt_loop ds (s + cnt n d) (max m (hgt n d)) _ _ (fun x hx => hc x (List.mem_cons_of_mem _ hx)) (.d _) (.d _) fun y5 y6 g5 g6 => ?_
      have := k y5 y6 g5 g6
      rw [List.all_cons, q, Bool.true_and, List.map_cons, List.map_cons, List.sum_cons] at this
      have e3 : max m (maxL (hgt n d :: ds.map (hgt n))) = max (max m (hgt n d)) (maxL (ds.map (hgt n))) := by
        show max m (max (hgt n d) (maxL (ds.map (hgt n)))) = _
        omega
      rw [e3, ← Nat.add_assoc] at this
      exact this
theorem varD_tup (xs : List D) : varD (.tup xs) = false := rfl
theorem len_lt {xs : List D} : ((0 : Int) < (xs.length : Int) ∧ (xs.length : Int) < 5) ↔ 1 ≤ xs.length ∧ xs.length ≤ 4 := by omega
theorem rest_tup {xs : List D} : slD (.tup xs) (some 1) none = some (.tup (xs.drop 1)) := by
  show some (D.tup (cut xs (some 1) none)) = _
  rw [cut1]
theorem first_ok {s : Str} (h : FitS s) (h1 : (0 : Int) < s.length) : ∃ z, slD (.str s) none (some 1) = some z ∧ inD false z (.str "ABCDEFGHIJKLMNOPQRSTUVWXYZ") = some (.bl (firstS s)) := by
  obtain ⟨c, r, e⟩ := nonempty (s := s) (by omega)
  refine ⟨.str ⟨#[c]⟩, ?_, ?_⟩
  · show (if s.length ≤ sizeLine then some (D.str (cutS s none (some 1))) else none) = _
    rw [if_pos h.size]
    congr 2
    show Str.mk _ = _
    congr 1
    have e1 : HT.sIx s.length s.length (some 1) = 1 := by
      have := HT.sIx_nat s.length s.length 1
      rw [show (((1 : Nat) : Int)) = (1 : Int) from rfl] at this
      rw [this]
      omega
    have e0 : HT.sIx s.length 0 none = 0 := rfl
    rw [e1, e0, e]
    rfl
  · rw [in_sgn]
    unfold firstS
    rw [e]
/-! ### the law's terms and questions -/
/-- what the program and the law say of a question, both -/
def questB (d : D) : Bool := match d with
  | .tup (w :: r) => decide (1 ≤ r.length) && decide (r.length ≤ 3) && dotD 2 w && r.all termB
  | _ => false
theorem lc_all {c : Nat → Fm} {i : Nat} {f : D → Bool} {e : Env} {j : Nat} (hj : e[j]? = some .no) (xs : List D) (h : ∀ d ∈ xs, c i [.d d] = some (.bl (f d), [.d d])) (hl : xs.length ≤ sizeLine) :
    lcGo j mYes (mCall 1 (c i) (mCons (mVar j) mNil)) xs [] e = some (xs.map (fun d => .bl (f d)), e) := by
  have jl := (List.getElem?_eq_some_iff.mp hj).1
  have := lc_map (f := fun d => .bl (f d)) (m := mCall 1 (c i) (mCons (mVar j) mNil)) hj xs [] (fun d hd => by
    obtain ⟨x, e', a, rfl, rfl⟩ := (wp_call (Q := fun x e' => x = D.bl (f d) ∧ e' = e.set j (.d d)) (wp_cons (wp_var (by rw [List.getElem?_set_self jl]) (wp_nil ⟨rfl, wc_eq (h d hd) ⟨rfl, rfl⟩⟩))) : Wp (mCall 1 (c i) (mCons (mVar j) mNil)) (e.set j (.d d)) _)
    exact a) (by rw [List.length_nil, Nat.zero_add]; exact hl)
  rw [this]
  rfl
theorem all_tup (f : D → Bool) (xs : List D) : all1 [.lst (xs.map fun d => .bl (f d))] = some (xs.map f) := bls_map f xs
theorem eq_nilD (xs : List D) : eqNilD (.lst xs) (.lst []) = some (.bl xs.isEmpty) := rfl
theorem lc_bad {c : Nat → Fm} {i : Nat} {f : D → Bool} {e : Env} {j : Nat} (hj : e[j]? = some .no) (xs : List D) (h : ∀ d ∈ xs, c i [.d d] = some (.bl (f d), [.d d])) (hl : xs.length ≤ sizeLine) :
    lcGo j (mNot (mTru (mCall 1 (c i) (mCons (mVar j) mNil)))) (mVar j) xs [] e = some (xs.filter (fun d => !f d), e) := by
  have jl := (List.getElem?_eq_some_iff.mp hj).1
  have := lc_filter (p := fun d => !f d) (t := mNot (mTru (mCall 1 (c i) (mCons (mVar j) mNil)))) hj xs [] (fun d hd => by
    obtain ⟨x, e', a, rfl, rfl⟩ := (wp_not (Q := fun x e' => x = (!f d) ∧ e' = e.set j (.d d)) (wp_tru (wp_call (wp_cons (wp_var (by rw [List.getElem?_set_self jl]) (wp_nil ⟨rfl, wc_eq (h d hd) ⟨_, rfl, rfl, rfl⟩⟩))))) : Wp (mNot (mTru (mCall 1 (c i) (mCons (mVar j) mNil)))) (e.set j (.d d)) _)
    exact a) (by rw [List.length_nil, Nat.zero_add]; exact hl)
  rw [this]
  rfl
theorem bad_empty (f : D → Bool) : ∀ xs : List D, (xs.filter fun d => !f d).isEmpty = xs.all f
  | [] => rfl
  | x :: xs => by
    rw [List.all_cons]
    cases q : f x with
    | true => rw [List.filter_cons_of_neg (by simp [q]), Bool.true_and]; exact bad_empty f xs
    | false => rw [List.filter_cons_of_pos (by simp [q])]; rfl
end Nv

set_option Elab.async false
set_option linter.all false
set_option maxRecDepth 100000
set_option maxHeartbeats 1000000
namespace Nv
open PySem L2 PyProof.Rows PySem.Spec
local macro_rules | `(tactic| walk_at "n") => `(tactic| try simp only [List.set_cons_zero, List.set_cons_succ, List.map_cons, List.map_nil, List.cons_append, List.nil_append, List.replicate, Nat.reduceSub])
local macro_rules | `(tactic| walk_at "s") => `(tactic| first
  | with_reducible refine wp_seq ?_ | with_reducible refine wk_nx ?_ | with_reducible refine wk_rt ?_ | with_reducible refine wt_nx ?_ | with_reducible refine wt_rt ?_ | with_reducible refine wt_bk ?_ | with_reducible refine wt_ct ?_ | with_reducible refine wk_bk ?_ | with_reducible refine wk_ct ?_
  | with_reducible refine wp_if ?_ | with_reducible refine wp_ret ?_ | with_reducible refine wp_next ?_ | with_reducible refine wp_retN ?_ | with_reducible refine wp_set ?_ | with_reducible refine wp_own ?_ | with_reducible refine wp_drop ?_
  | ((with_reducible refine' wp_var ?_ ?_); rotate_left; rfl) | ((with_reducible refine' wp_varL ?_ ?_); rotate_left; rfl) | ((with_reducible refine' wp_app ?_ ?_); rotate_left; rfl) | ((with_reducible refine' wp_lget ?_ ?_ ?_); rotate_left 2; (· rfl); (· rfl)) | with_reducible refine wp_lput ?_ | ((with_reducible refine' wp_lown ?_ ?_ ?_); rotate_left; (· rfl); (· rfl)) | ((with_reducible refine' wp_fown ?_ ?_ ?_); rotate_left; (· rfl); (· rfl)) | with_reducible refine wp_c ?_ | with_reducible refine wp_op ?_ | with_reducible refine wp_un ?_ | with_reducible refine wp_cb ?_ | with_reducible refine wp_cons ?_ | with_reducible refine wp_nil ?_
  | with_reducible refine wp_bl ?_ | with_reducible refine wp_tru ?_ | with_reducible refine wp_not ?_ | with_reducible refine wp_and ?_ | with_reducible refine wp_or ?_ | with_reducible refine wp_andV ?_ | with_reducible refine wp_orV ?_ | with_reducible refine wp_notV ?_
  | with_reducible refine wp_chain ?_ | with_reducible refine wp_sz ?_ | with_reducible refine wp_lst ?_ | with_reducible refine wp_tup ?_ | with_reducible refine wp_is ?_ | with_reducible refine wp_onone ?_ | with_reducible refine wp_osome ?_ | with_reducible refine wp_sl ?_ | with_reducible refine wp_m1 ?_
  | with_reducible refine wp_all ?_ | with_reducible refine wp_repr ?_ | with_reducible refine wp_peek ?_ | with_reducible refine wp_peekT ?_ | with_reducible refine wp_addF ?_ | with_reducible refine wp_ilist ?_ | with_reducible refine wp_itup ?_ | with_reducible refine wp_istr ?_ | with_reducible refine wp_irng ?_ | with_reducible refine wp_list ?_ | with_reducible refine wp_listS ?_
  | with_reducible refine wp_for ?_ | with_reducible refine wp_call ?_ | with_reducible refine wp_callK ?_ | with_reducible refine wp_lnil ?_ | with_reducible refine wp_ldat ?_ | with_reducible refine wp_callL ?_ | with_reducible refine wp_flast ?_ | with_reducible refine wp_fdat ?_ | with_reducible refine wp_callF ?_
  | with_reducible refine ⟨_, (by assumption : _ = some _), ?_⟩
  | ((with_reducible refine' call_and ?_ ?_ ?_); rotate_left 2; (· rfl); (· assumption)) | ((with_reducible refine' callk_and ?_ ?_ ?_); rotate_left 2; (· exact ⟨rfl, rfl⟩); (· assumption))
  | refine ite_t ?_ | refine ite_f ?_ | refine ite_nt ?_ | refine ite_nf ?_
  | with_reducible refine ⟨_, add_int, ?_⟩ | with_reducible refine ⟨_, iadd_int, ?_⟩ | with_reducible refine ⟨_, sub_int, ?_⟩ | with_reducible refine ⟨_, lt_int, ?_⟩ | with_reducible refine ⟨_, le_int, ?_⟩ | with_reducible refine ⟨_, gt_int, ?_⟩ | with_reducible refine ⟨_, ge_int, ?_⟩ | with_reducible refine ⟨_, eq_int, ?_⟩
  | with_reducible refine ⟨_, len_lst, ?_⟩ | with_reducible refine ⟨_, len_tup, ?_⟩ | with_reducible refine ⟨_, tru_bl, ?_⟩ | with_reducible refine ⟨_, int_int _, ?_⟩ | with_reducible refine ⟨_, int_bl _, ?_⟩
  | with_reducible refine ⟨_, rfl, ?_⟩ | ((with_reducible refine free_and ?_ ?_); (· first | rfl | assumption); walk_at "n") | ((with_reducible refine kind_and ?_ ?_); (· first | rfl | assumption)) | ((with_reducible refine size_and ?_ ?_); (· simp only [List.length_cons, List.length_nil, sizeLine_eq]; omega))
  | with_reducible refine ite_y (by assumption) ?_ | with_reducible refine ite_n (by assumption) ?_ | with_reducible refine ite_ny (by assumption) ?_ | with_reducible refine ite_nn (by assumption) ?_ | with_reducible refine ite_bt (by assumption) ?_ | with_reducible refine ite_bf (by assumption) ?_ | with_reducible refine ite_nbt (by assumption) ?_ | with_reducible refine ite_nbf (by assumption) ?_)
local macro_rules | `(tactic| walk_at "r") => `(tactic| repeat walk_at "s")
local macro_rules | `(tactic| walk_at "f") => `(tactic| (refine ⟨rfl, ?_⟩; walk_at "n"))
local macro_rules | `(tactic| walk_at "d") => `(tactic| (with_reducible refine wp_draw' (by assumption) (by omega) (by decide) ?_; intro _ _ _ _ _))
/-! ShD0: what is drawn: short texts; defs that go on with the pen. -/
def Shs (n : Nat) (d : D) : Prop := ∃ s, d = .str s ∧ strB s = true ∧ s.length ≤ n
theorem strB_of {s : Str} (hl : s.length ≤ 100) (hc : ∀ c ∈ s.cps.toList, c < 0x110000) : strB s = true := by
  unfold strB
  rw [decide_eq_true hl, Bool.true_and, List.all_eq_true]
  exact fun c hc' => decide_eq_true (hc c hc')
theorem strB_cps {s : Str} (h : strB s = true) : ∀ c ∈ s.cps.toList, c < 0x110000 := by
  unfold strB at h
  rw [Bool.and_eq_true, List.all_eq_true] at h
  exact fun c hc => of_decide_eq_true (h.2 c hc)
theorem Shs.up {n m : Nat} {d : D} (h : Shs n d) (k : n ≤ m) : Shs m d := by
  obtain ⟨s, a, b, c⟩ := h
  exact ⟨s, a, b, Nat.le_trans c k⟩
theorem shs_c (s : Str) (n : Nat) (h : strB s = true) (hl : s.length ≤ n) : Shs n (.str s) := ⟨s, rfl, h, hl⟩
theorem Shs.add {n m : Nat} {x y : D} (h : Shs n x) (k : Shs m y) (hn : n + m ≤ 100) : ∃ z, addD x y = some z ∧ Shs (n + m) z := by
  obtain ⟨a, rfl, a1, a2⟩ := h
  obtain ⟨b, rfl, b1, b2⟩ := k
  have hl : (a ++ b).length ≤ n + m := by rw [strLen_append]; omega
  refine ⟨.str (a ++ b), if_pos (by rw [sizeLine_eq]; omega), a ++ b, rfl, strB_of (by omega) fun c hc => ?_, hl⟩
  have e : (a ++ b).cps.toList = a.cps.toList ++ b.cps.toList := Array.toList_append
  rw [e, List.mem_append] at hc
  rcases hc with z | z
  · exact strB_cps a1 c z
  · exact strB_cps b1 c z
theorem shs_ix {s : Str} (h : strB s = true) {i : Int} (h0 : 0 ≤ i) (h1 : i < s.length) : ∃ z, ixD (.str s) (.int i) = some z ∧ Shs 1 z := by
  have hf := strB_fit h
  have hl : i.toNat < s.cps.toList.length := by
    have : s.cps.toList.length = s.length := rfl
    omega
  have e : L2.atI s.cps.toList i = some (s.cps.toList[i.toNat]'hl) := by
    unfold L2.atI ixN
    rw [if_pos h0, if_pos (show i < (s.cps.toList.length : Int) from h1)]
    show s.cps.toList[i.toNat]? = _
    rw [List.getElem?_eq_getElem hl]
  refine ⟨.str ⟨#[s.cps.toList[i.toNat]'hl]⟩, ?_, _, rfl, strB_of (show 1 ≤ 100 by decide) fun c hc => ?_, Nat.le_refl 1⟩
  · show (if s.length ≤ sizeLine then (L2.atI s.cps.toList i).map _ else none) = _
    rw [if_pos hf.size, e]
    rfl
  · have hc : c ∈ [s.cps.toList[i.toNat]'hl] := hc
    rw [List.mem_singleton] at hc
    rw [hc]
    exact strB_cps h _ (List.getElem_mem _)
theorem glue_cps (ps : List Str) : ∀ acc : Array Nat, (List.foldl (fun acc (p : Str) => acc ++ (Str.ofString "").cps ++ p.cps) acc ps).toList = acc.toList ++ ps.flatMap (fun p => p.cps.toList) := by
  induction ps with
  | nil => intro acc; simp
  | cons p ps ih =>
    intro acc
    rw [List.foldl_cons, ih, List.flatMap_cons, Array.toList_append, Array.toList_append]
    show acc.toList ++ [] ++ p.cps.toList ++ _ = _
    rw [List.append_nil, List.append_assoc]
theorem join_cps (ps : List Str) : (Txt.join "" ps).cps.toList = ps.flatMap (fun p => p.cps.toList) := by
  cases ps with
  | nil => rfl
  | cons p ps =>
    show (List.foldl (fun acc (p : Str) => acc ++ (Str.ofString "").cps ++ p.cps) p.cps ps).toList = _
    rw [glue_cps, List.flatMap_cons]
theorem shs_strs : ∀ {ds : List D}, (∀ d ∈ ds, Shs 1 d) → ∃ ss, strsOf ds = some ss ∧ ss.length = ds.length ∧ ∀ s ∈ ss, strB s = true ∧ s.length ≤ 1
  | [], _ => ⟨[], rfl, rfl, fun s h => by cases h⟩
  | d :: ds, h => by
    obtain ⟨ss, a, b, c⟩ := shs_strs fun x hx => h x (List.mem_cons_of_mem _ hx)
    obtain ⟨s, rfl, hs, hl⟩ := h d List.mem_cons_self
    refine ⟨s :: ss, ?_, by rw [List.length_cons, List.length_cons, b], fun x hx => ?_⟩
    · show (strsOf ds).map (s :: ·) = _
      rw [a]
      rfl
    · rcases List.mem_cons.mp hx with z | z
      · rw [z]; exact ⟨hs, hl⟩
      · exact c x z
theorem flat_len : ∀ {ss : List Str}, (∀ s ∈ ss, s.length ≤ 1) → (ss.flatMap fun p => p.cps.toList).length ≤ ss.length ∧ (ss.map (·.length)).sum ≤ ss.length
  | [], _ => ⟨Nat.le_refl _, Nat.le_refl _⟩
  | s :: ss, h => by
    obtain ⟨a, b⟩ := flat_len fun x hx => h x (List.mem_cons_of_mem _ hx)
    have h1 := h s List.mem_cons_self
    rw [List.flatMap_cons, List.length_append, List.map_cons, List.sum_cons, List.length_cons]
    have : s.cps.toList.length = s.length := rfl
    omega
theorem shs_join {ds : List D} {n : Nat} (h : ∀ d ∈ ds, Shs 1 d) (hl : ds.length ≤ n) (hn : n ≤ 100) : ∃ z, joinD (.str "") (.lst ds) = some z ∧ Shs n z := by
  obtain ⟨ss, a, b, c⟩ := shs_strs h
  obtain ⟨f1, f2⟩ := flat_len fun s hs => (c s hs).2
  have e := join_cps ss
  have hlen : (Txt.join "" ss).length ≤ n := by
    have : (Txt.join "" ss).length = (Txt.join "" ss).cps.toList.length := rfl
    rw [this, e]
    omega
  refine ⟨.str (Txt.join "" ss), ?_, _, rfl, strB_of (by omega) fun k hk => ?_, hlen⟩
  · show (strsOf ds).bind _ = _
    rw [a]
    refine if_pos ?_
    unfold joinB
    exact decide_eq_true (by have e0 : ("" : Str).length = 0 := rfl; rw [e0]; omega)
  · rw [e, List.mem_flatMap] at hk
    obtain ⟨s, hs, hk⟩ := hk
    exact strB_cps (c s hs).1 k hk
/-! the pen -/
/-- a def that draws at most c times, and whose answer is so -/
def Draws (f : Fm) (c : Nat) (as : List Sl) (G : D → Prop) : Prop := ∀ (xs : List Int) (N : Int) (K : List (Key × D)), PenAt xs N K → N + c ≤ 4000000 →
  Wc f (.pd K :: as) fun d as' => G d ∧ ∃ K', as' = .pd K' :: as ∧ PenAt xs (N + c) K'
theorem Draws.mono {f : Fm} {c c' : Nat} {as : List Sl} {G G' : D → Prop} (h : Draws f c as G) (hc : c ≤ c') (k : ∀ d, G d → G' d) : Draws f c' as G' := fun xs N K hp hN =>
  (h xs N K hp (by omega)).mono fun d as' ⟨a, K', b, p⟩ => ⟨k d a, K', b, p.up (by omega)⟩
theorem draws_draw (k : Nat) {m : Int} (hm : 0 < m ∧ m ≤ 100) : Draws (cs (k + 1) 8) 1 [.d (.int m)] fun d => ∃ i, d = .int i ∧ 0 ≤ i ∧ i < m := fun xs N K hp hN => by
  obtain ⟨d, K', e, a, b, c⟩ := draw k hp hm (by omega)
  exact ⟨_, _, e, ⟨d, rfl, a, b⟩, K', rfl, c⟩
theorem wp_pen {f : Fm} {n : Nat} {r : M (List D)} {K : List (Key × D)} {e : Env} {Q : D → Env → Prop}
    (h : Wp r (.pd K :: e) fun ds e1 => ds.length + 1 = n ∧ ∃ (xs : List Int) (N : Int) (c : Nat) (G : D → Prop) (K1 : List (Key × D)) (e' : Env), e1 = .pd K1 :: e' ∧ PenAt xs N K1 ∧ N + c ≤ 4000000 ∧ Draws f c (ds.map .d) G ∧ ∀ d K', G d → PenAt xs (N + c) K' → Q d (.pd K' :: e')) : Wp (mCallP n 0 f r) (.pd K :: e) Q := by
  refine wp_callP (s0 := .pd K) rfl rfl (h.mono ?_)
  rintro ds e1 ⟨hl, xs, N, c, G, K1, e', rfl, hp, hN, hd, k⟩
  refine ⟨.pd K1, rfl, rfl, hl, (hd xs N K1 hp hN).mono ?_⟩
  rintro d as' ⟨hG, K', rfl, hp'⟩
  exact ⟨.pd K', rfl, k d K' hG hp'⟩
/-- one draw -/
theorem wp_draw {k : Nat} {r : M (List D)} {xs : List Int} {N : Int} {K : List (Key × D)} {e : Env} {Q : D → Env → Prop} (hp : PenAt xs N K) (hN : N + 1 ≤ 4000000)
    (h : Wp r (.pd K :: e) fun ds e1 => ∃ m : Int, ds = [.int m] ∧ ∃ e', e1 = .pd K :: e' ∧ (0 < m ∧ m ≤ 100) ∧ ∀ (i : Int) K', 0 ≤ i → i < m → PenAt xs (N + 1) K' → Q (.int i) (.pd K' :: e')) : Wp (mCallP 2 0 (cs (k + 1) 8) r) (.pd K :: e) Q := by
  refine wp_pen (h.mono ?_)
  rintro ds e1 ⟨m, rfl, e', rfl, hm, q⟩
  refine ⟨rfl, xs, N, 1, _, K, e', rfl, hp, hN, draws_draw k hm, ?_⟩
  rintro d K' ⟨i, rfl, h0, h1⟩ hp'
  exact q i K' h0 h1 hp'
/-- one draw of a known number -/
theorem wp_draw' {k : Nat} {m : Int} {xs : List Int} {N : Int} {K : List (Key × D)} {e : Env} {Q : D → Env → Prop} (hp : PenAt xs N K) (hN : N + 1 ≤ 4000000) (hm : 0 < m ∧ m ≤ 100)
    (h : ∀ (i : Int) K', 0 ≤ i → i < m → PenAt xs (N + 1) K' → Q (.int i) (.pd K' :: e)) : Wp (mCallP 2 0 (cs (k + 1) 8) (mCons (mC (.int m)) mNil)) (.pd K :: e) Q :=
  wp_draw hp hN (wp_cons (wp_c (wp_nil ⟨m, rfl, e, rfl, hm, h⟩)))
theorem upto_get {n i : Nat} {d : D} (h : (upto n)[i]? = some d) : d = .int (i : Int) ∧ i < n := by
  unfold upto at h
  rw [List.getElem?_map] at h
  have hi : i < n := by
    rcases Nat.lt_or_ge i n with z | z
    · exact z
    · rw [List.getElem?_eq_none (by rw [List.length_range]; exact z)] at h
      cases h
  rw [List.getElem?_range hi] at h
  cases h
  exact ⟨rfl, hi⟩
theorem upto_length (n : Nat) : (upto n).length = n := by unfold upto; rw [List.length_map, List.length_range]
theorem set_no' {e : Env} {j : Nat} (h : e[j]? = some .no) (x : Sl) : (e.set j x).set j .no = e := by rw [List.set_set, set_same h]
theorem wp_lcpen {j : Nat} {it : M (List D)} {m : M D} {T : D → Prop} {xs : List Int} {c : Nat} {K : List (Key × D)} {e0 e1 : Env} {Q : List D → Env → Prop} (hj : e1[j]? = some .no)
    (step : ∀ (N : Int) (K : List (Key × D)) (x : D), PenAt xs N K → N + c ≤ 4000000 → Wp m (.pd K :: e1.set j (.d x)) fun d e2 => T d ∧ ∃ K', e2 = .pd K' :: e1.set j (.d x) ∧ PenAt xs (N + c) K')
    (h : Wp it (.pd K :: e0) fun ds e2 => ∃ (N1 : Int) (K1 : List (Key × D)), e2 = .pd K1 :: e1 ∧ PenAt xs N1 K1 ∧ N1 + ds.length * c ≤ 4000000 ∧ ds.length ≤ 1000 ∧ ∀ rs K', rs.length = ds.length → (∀ r ∈ rs, T r) → PenAt xs (N1 + ds.length * c) K' → Q rs (.pd K' :: e1)) :
    Wp (mLc it mYes m (j + 1)) (.pd K :: e0) Q := by
  refine wp_lc (h.mono ?_)
  rintro ds e2 ⟨N1, K1, rfl, hp, hN, hl, k⟩
  refine ⟨hj, ?_⟩
  have hs : ∀ i d acc e, ds[i]? = some d → (∃ K', e = .pd K' :: e1 ∧ PenAt xs (N1 + (0 + i : Nat) * c) K' ∧ acc.length = 0 + i ∧ ∀ r ∈ acc, T r) → Wp mYes (e.set (j + 1) (.d d)) fun b e1' => if b = true then Wp m e1' fun y e2 => (∃ K', e2.set (j + 1) .no = .pd K' :: e1 ∧ PenAt xs (N1 + (0 + i + 1 : Nat) * c) K' ∧ (acc ++ [y]).length = 0 + i + 1 ∧ ∀ r ∈ acc ++ [y], T r) else (∃ K', e1'.set (j + 1) .no = .pd K' :: e1 ∧ PenAt xs (N1 + (0 + i + 1 : Nat) * c) K' ∧ acc.length = 0 + i + 1 ∧ ∀ r ∈ acc, T r) := by
    rintro i d acc e hd ⟨K2, rfl, hp2, hlen, hT⟩
    have hi : i < ds.length := (List.getElem?_eq_some_iff.mp hd).1
    have hm : (i + 1) * c ≤ ds.length * c := Nat.mul_le_mul_right c hi
    rw [Nat.zero_add] at hp2 hlen ⊢
    have e1' : ((i + 1 : Nat) : Int) * c = (i : Int) * c + c := by rw [Int.natCast_add, Int.add_mul]; omega
    have hm' : ((i + 1 : Nat) : Int) * c ≤ (ds.length : Int) * c := by exact_mod_cast hm
    refine ⟨true, .pd K2 :: e1.set j (.d d), rfl, ?_⟩
    refine ite_t ((step (N1 + i * c) K2 d hp2 (by omega)).mono ?_)
    rintro y e2 ⟨hy, K3, rfl, hp3⟩
    refine ⟨K3, ?_, hp3.up (by omega), by rw [List.length_append, hlen]; rfl, fun r hr => ?_⟩
    · show Sl.pd K3 :: (e1.set j (.d d)).set j .no = _
      rw [set_no' hj]
    · rcases List.mem_append.mp hr with z | z
      · exact hT r z
      · rw [List.mem_singleton.mp z]; exact hy
  obtain ⟨rs, e3, a, K', rfl, p, b, t⟩ := lc_inv (j := j + 1) (t := mYes) (a := m) (fun i acc e => ∃ K', e = .pd K' :: e1 ∧ PenAt xs (N1 + i * c) K' ∧ acc.length = i ∧ ∀ r ∈ acc, T r) ds [] 0 (.pd K1 :: e1) ⟨K1, rfl, by simpa using hp, rfl, fun _ z => by cases z⟩ (by rw [List.length_nil, sizeLine_eq]; omega) hs
  rw [Nat.zero_add] at p b
  exact ⟨rs, _, a, k rs K' b t p⟩
theorem ix_at {xs : List D} {i : Int} (h0 : 0 ≤ i) (h1 : i < xs.length) : ∃ d, ixD (.lst xs) (.int i) = some d ∧ d ∈ xs := by
  refine ⟨xs[i.toNat]'(by omega), ?_, List.getElem_mem _⟩
  show L2.atI xs i = _
  unfold L2.atI ixN
  rw [if_pos h0, if_pos h1]
  show xs[i.toNat]? = _
  rw [List.getElem?_eq_getElem (by omega)]
/-- a comprehension that leaves all as it is -/
theorem wp_lcsame {j : Nat} {it : M (List D)} {m : M D} {T : D → Prop} {e0 e1 : Env} {Q : List D → Env → Prop} (hj : e1[j]? = some .no)
    (h : Wp it e0 fun ds e2 => e2 = e1 ∧ ds.length ≤ sizeLine ∧ (∀ (i : Nat) x, ds[i]? = some x → Wp m (e1.set j (.d x)) fun d e3 => T d ∧ e3 = e1.set j (.d x)) ∧ ∀ rs : List D, rs.length = ds.length → (∀ r ∈ rs, T r) → Q rs e1) : Wp (mLc it mYes m j) e0 Q := by
  refine wp_lc (h.mono ?_)
  rintro ds e2 ⟨rfl, hl, step, k⟩
  refine ⟨hj, ?_⟩
  have hs : ∀ i d acc e, ds[i]? = some d → (e = e2 ∧ acc.length = 0 + i ∧ ∀ r ∈ acc, T r) → Wp mYes (e.set j (.d d)) fun b e1' => if b = true then Wp m e1' fun y e3 => (e3.set j .no = e2 ∧ (acc ++ [y]).length = 0 + i + 1 ∧ ∀ r ∈ acc ++ [y], T r) else (e1'.set j .no = e2 ∧ acc.length = 0 + i + 1 ∧ ∀ r ∈ acc, T r) := by
    rintro i d acc e hd ⟨rfl, hlen, hT⟩
    refine ⟨true, _, rfl, ite_t ((step i d hd).mono ?_)⟩
    rintro y e3 ⟨hy, rfl⟩
    refine ⟨set_no' hj _, by rw [List.length_append, hlen]; rfl, fun r hr => ?_⟩
    rcases List.mem_append.mp hr with z | z
    · exact hT r z
    · rw [List.mem_singleton.mp z]; exact hy
  obtain ⟨rs, e3, a, rfl, b, t⟩ := lc_inv (j := j) (t := mYes) (a := m) (fun i acc e => e = e2 ∧ acc.length = i ∧ ∀ r ∈ acc, T r) ds [] 0 e2 ⟨rfl, rfl, fun _ z => by cases z⟩ (by rw [List.length_nil]; omega) hs
  rw [Nat.zero_add] at b
  exact ⟨rs, _, a, k rs b t⟩
theorem five_mem {T : D → Prop} {a b c d e : D} (h : T a ∧ T b ∧ T c ∧ T d ∧ T e) : ∀ x ∈ [a, b, c, d, e], T x := by
  intro x hx
  simp only [List.mem_cons, List.not_mem_nil, or_false] at hx
  obtain ⟨h1, h2, h3, h4, h5⟩ := h
  rcases hx with rfl | rfl | rfl | rfl | rfl <;> assumption

end Nv

set_option Elab.async false
set_option linter.all false
set_option maxRecDepth 100000
set_option maxHeartbeats 1000000
namespace Nv
open PySem L2 PyProof.Rows PySem.Spec
local macro_rules | `(tactic| walk_at "n") => `(tactic| try simp only [List.set_cons_zero, List.set_cons_succ, List.map_cons, List.map_nil, List.cons_append, List.nil_append, List.replicate, Nat.reduceSub])
local macro_rules | `(tactic| walk_at "s") => `(tactic| first
  | with_reducible refine wp_seq ?_ | with_reducible refine wk_nx ?_ | with_reducible refine wk_rt ?_ | with_reducible refine wt_nx ?_ | with_reducible refine wt_rt ?_ | with_reducible refine wt_bk ?_ | with_reducible refine wt_ct ?_ | with_reducible refine wk_bk ?_ | with_reducible refine wk_ct ?_
  | with_reducible refine wp_if ?_ | with_reducible refine wp_ret ?_ | with_reducible refine wp_next ?_ | with_reducible refine wp_retN ?_ | with_reducible refine wp_set ?_ | with_reducible refine wp_own ?_ | with_reducible refine wp_drop ?_
  | ((with_reducible refine' wp_var ?_ ?_); rotate_left; rfl) | ((with_reducible refine' wp_varL ?_ ?_); rotate_left; rfl) | ((with_reducible refine' wp_app ?_ ?_); rotate_left; rfl) | ((with_reducible refine' wp_lget ?_ ?_ ?_); rotate_left 2; (· rfl); (· rfl)) | with_reducible refine wp_lput ?_ | ((with_reducible refine' wp_lown ?_ ?_ ?_); rotate_left; (· rfl); (· rfl)) | ((with_reducible refine' wp_fown ?_ ?_ ?_); rotate_left; (· rfl); (· rfl)) | with_reducible refine wp_c ?_ | with_reducible refine wp_op ?_ | with_reducible refine wp_un ?_ | with_reducible refine wp_cb ?_ | with_reducible refine wp_cons ?_ | with_reducible refine wp_nil ?_
  | with_reducible refine wp_bl ?_ | with_reducible refine wp_tru ?_ | with_reducible refine wp_not ?_ | with_reducible refine wp_and ?_ | with_reducible refine wp_or ?_ | with_reducible refine wp_andV ?_ | with_reducible refine wp_orV ?_ | with_reducible refine wp_notV ?_
  | with_reducible refine wp_chain ?_ | with_reducible refine wp_sz ?_ | with_reducible refine wp_lst ?_ | with_reducible refine wp_tup ?_ | with_reducible refine wp_is ?_ | with_reducible refine wp_onone ?_ | with_reducible refine wp_osome ?_ | with_reducible refine wp_sl ?_ | with_reducible refine wp_m1 ?_
  | with_reducible refine wp_all ?_ | with_reducible refine wp_repr ?_ | with_reducible refine wp_peek ?_ | with_reducible refine wp_peekT ?_ | with_reducible refine wp_addF ?_ | with_reducible refine wp_ilist ?_ | with_reducible refine wp_itup ?_ | with_reducible refine wp_istr ?_ | with_reducible refine wp_irng ?_ | with_reducible refine wp_list ?_ | with_reducible refine wp_listS ?_
  | with_reducible refine wp_for ?_ | with_reducible refine wp_call ?_ | with_reducible refine wp_callK ?_ | with_reducible refine wp_lnil ?_ | with_reducible refine wp_ldat ?_ | with_reducible refine wp_callL ?_ | with_reducible refine wp_flast ?_ | with_reducible refine wp_fdat ?_ | with_reducible refine wp_callF ?_
  | with_reducible refine ⟨_, (by assumption : _ = some _), ?_⟩
  | ((with_reducible refine' call_and ?_ ?_ ?_); rotate_left 2; (· rfl); (· assumption)) | ((with_reducible refine' callk_and ?_ ?_ ?_); rotate_left 2; (· exact ⟨rfl, rfl⟩); (· assumption))
  | refine ite_t ?_ | refine ite_f ?_ | refine ite_nt ?_ | refine ite_nf ?_
  | with_reducible refine ⟨_, add_int, ?_⟩ | with_reducible refine ⟨_, iadd_int, ?_⟩ | with_reducible refine ⟨_, sub_int, ?_⟩ | with_reducible refine ⟨_, lt_int, ?_⟩ | with_reducible refine ⟨_, le_int, ?_⟩ | with_reducible refine ⟨_, gt_int, ?_⟩ | with_reducible refine ⟨_, ge_int, ?_⟩ | with_reducible refine ⟨_, eq_int, ?_⟩
  | with_reducible refine ⟨_, len_lst, ?_⟩ | with_reducible refine ⟨_, len_tup, ?_⟩ | with_reducible refine ⟨_, tru_bl, ?_⟩ | with_reducible refine ⟨_, int_int _, ?_⟩ | with_reducible refine ⟨_, int_bl _, ?_⟩
  | with_reducible refine ⟨_, rfl, ?_⟩ | ((with_reducible refine free_and ?_ ?_); (· first | rfl | assumption); walk_at "n") | ((with_reducible refine kind_and ?_ ?_); (· first | rfl | assumption)) | ((with_reducible refine size_and ?_ ?_); (· simp only [List.length_cons, List.length_nil, sizeLine_eq]; omega))
  | with_reducible refine ite_y (by assumption) ?_ | with_reducible refine ite_n (by assumption) ?_ | with_reducible refine ite_ny (by assumption) ?_ | with_reducible refine ite_nn (by assumption) ?_ | with_reducible refine ite_bt (by assumption) ?_ | with_reducible refine ite_bf (by assumption) ?_ | with_reducible refine ite_nbt (by assumption) ?_ | with_reducible refine ite_nbf (by assumption) ?_)
local macro_rules | `(tactic| walk_at "r") => `(tactic| repeat walk_at "s")
local macro_rules | `(tactic| walk_at "f") => `(tactic| (refine ⟨rfl, ?_⟩; walk_at "n"))
local macro_rules | `(tactic| walk_at "d") => `(tactic| (with_reducible refine wp_draw' (by assumption) (by omega) (by decide) ?_; intro _ _ _ _ _))
/-! ShD1: names, words, letters. -/
theorem wp_alph {s : Str} {i : Int} (h : strB s = true) (h0 : 0 ≤ i) (h1 : i < s.length) {Q : D → Prop} (k : ∀ z, Shs 1 z → Q z) : ∃ z, ixD (.str s) (.int i) = some z ∧ Q z := by
  obtain ⟨z, a, b⟩ := shs_ix h h0 h1
  exact ⟨z, a, k z b⟩
def NamesD (n : Nat) (d : D) : Prop := ∃ ds, d = .lst ds ∧ ds.length = n ∧ ∀ x ∈ ds, Shs 9 x
theorem emod26 (x : Int) : 0 ≤ x % 26 ∧ x % 26 < 26 := ⟨Int.emod_nonneg _ (by decide), Int.emod_lt_of_pos _ (by decide)⟩
def nmBody (c : Nat → Fm) : MS := (mSeq (mSet 7 (mOp ixD (mVar 2) (mOp (intD fun i j => if 0 < j then some (.int (i % j)) else none) (mCb intOfD (mCons (mOp addD (mVar 4) (mOp (intD fun i j => if CMul i j then some (.int (i * j)) else none) (mC (.int 7)) (mVar 6))) mNil)) (mC (.int 26)))))
    (mSeq (mSet 8 (mM1 joinD (mC (.str "")) (mLst (mLc (mIRng (mCons (mCallP 2 0 (c 8) (mCons (mC (.int 8)) mNil)) mNil)) mYes (mOp ixD (mVar 2) (mCallP 2 0 (c 8) (mCons (mC (.int 26)) mNil))) 10))))
    (mSeq (mSet 9 (mOp ixD (mLst (mSz (mCons (mVar 7) (mCons (mOp addD (mC (.str "zzzzzzz")) (mVar 7)) (mCons (mOp addD (mVar 7) (mVar 8)) mNil))))) (mVar 3)))
    (mSeq (mIf (mBl (mOp (inD false) (mVar 9) (mTup (mCons (mC (.str "self")) (mCons (mC (.str "head")) mNil))))) (mSet 9 (mOp addD (mVar 9) (mC (.str "s")))) mNext)
    (mApp 5 (mVar 9))))))
abbrev alph : Str := "abcdefghijklmnopqrstuvwxyz"
theorem nm_turn (k : Nat) {xs : List Int} {N : Int} {K : List (Key × D)} {x1 : Sl} {w b t : Int} {acc : List D} {x7 x8 x9 : Sl} {R : Out → Env → Prop} {P : Env → Prop} (hp : PenAt xs N K) (hN : N + 8 ≤ 4000000)
    (hw : 0 ≤ w ∧ w < 3) (hacc : acc.length < 100) (h7 : Plain x7) (h8 : Plain x8) (h9 : Plain x9)
    (q : ∀ K' d y7 y8, PenAt xs (N + 8) K' → Shs 9 d → P [.pd K', x1, .d (.str alph), .d (.int w), .d (.int b), .ol (acc ++ [d]), .d (.int t), .d y7, .d y8, .d d, .no]) :
    Wp (nmBody (cs (k + 1))) [.pd K, x1, .d (.str alph), .d (.int w), .d (.int b), .ol acc, .d (.int t), x7, x8, x9, .no] (turnK P R) := by
  have f7 : freeB [.pd K, x1, .d (.str alph), .d (.int w), .d (.int b), .ol acc, .d (.int t), x7, x8, x9, .no] 7 = true := by rcases h7 with rfl | ⟨y, rfl⟩ <;> rfl
  have f8 : ∀ K' z, freeB [.pd K', x1, .d (.str alph), .d (.int w), .d (.int b), .ol acc, .d (.int t), .d z, x8, x9, .no] 8 = true := by rcases h8 with rfl | ⟨y, rfl⟩ <;> (intro _ _; rfl)
  have f9 : ∀ K' z u, freeB [.pd K', x1, .d (.str alph), .d (.int w), .d (.int b), .ol acc, .d (.int t), .d z, .d u, x9, .no] 9 = true := by rcases h9 with rfl | ⟨y, rfl⟩ <;> (intro _ _ _; rfl)
  have m7 : CMul 7 t := .inl ⟨by decide, by decide⟩
  obtain ⟨s7, e7, g7⟩ := shs_ix (s := alph) (by decide) (emod26 (b + 7 * t)).1 (emod26 (b + 7 * t)).2
  unfold nmBody
  walk_at "r"
  refine wp_lcpen (T := Shs 1) (xs := xs) (c := 1) (e1 := [x1, .d (.str alph), .d (.int w), .d (.int b), .ol acc, .d (.int t), .d s7, x8, x9, .no]) rfl (fun N K x hp hN => ?_) ?_
  · walk_at "r"
    walk_at "d"
    rename_i i K' h0 h1 hp'
    obtain ⟨z, a, g⟩ := shs_ix (s := alph) (by decide) h0 h1
    walk_at "r"
    exact ⟨g, _, rfl, hp'⟩
  · walk_at "r"
    walk_at "d"
    rename_i i K' h0 h1 hp'
    walk_at "r"
    refine ⟨by omega, N + 1, K', rfl, hp', by rw [upto_length]; omega, by rw [upto_length]; omega, fun rs K2 hl hT hp2 => ?_⟩
    rw [upto_length] at hl hp2
    obtain ⟨z, a, g⟩ := shs_join (n := 7) hT (by omega) (by decide)
    obtain ⟨z1, a1, g1⟩ := (shs_c "zzzzzzz" 7 (by decide) (by decide)).add g7 (by decide)
    obtain ⟨z2, a2, g2⟩ := g7.add g (by decide)
    refine ⟨z, a, f8 _ _, ?_⟩
    walk_at "n"
    walk_at "r"
    obtain ⟨z3, a3, m3⟩ := ix_at (xs := [s7, z1, z2]) hw.1 (by show w < 3; exact hw.2)
    have g3 : Shs 8 z3 := by
      simp only [List.mem_cons, List.not_mem_nil, or_false] at m3
      rcases m3 with rfl | rfl | rfl
      · exact g7.up (by decide)
      · exact g1
      · exact g2
    obtain ⟨z4, a4, g4⟩ := g3.add (shs_c "s" 1 (by decide) (by decide)) (by decide)
    have g3' := g3
    obtain ⟨s3, rfl, _, _⟩ := g3'
    have t3 := in_taken2 s3
    refine ⟨_, a3, f9 _ _ _, ?_⟩
    walk_at "n"
    walk_at "r"
    refine ite_b (fun _ => ?_) fun _ => ?_
    · walk_at "r"
      exact ⟨by rw [sizeLine_eq]; omega, q _ _ _ _ (hp2.up (by omega)) g4⟩
    · walk_at "r"
      exact ⟨by rw [sizeLine_eq]; omega, q _ _ _ _ (hp2.up (by omega)) (g3.up (by decide))⟩
theorem e_names (k : Nat) {n : Nat} (hn : n ≤ 10) : Draws (cs (k + 2) 10) (2 + 8 * n) [.d (.int (n : Int))] (NamesD n) := fun xs N K hp hN => by
  refine (show Wc (defM 2 11 (m__law_names (cs (k + 1)))) _ _ from ?_)
  refine wc_def rfl rfl ?_; walk_at "n"
  unfold m__law_names
  walk_at "r"
  walk_at "d"
  rename_i w K1 w0 w1 p1
  walk_at "r"
  walk_at "d"
  rename_i b K2 b0 b1 p2
  walk_at "r"
  have e5 : ((2 + 8 * n : Nat) : Int) = 2 + 8 * (n : Int) := by omega
  refine ⟨by omega, ?_⟩
  rw [Int.toNat_natCast]
  refine for_inv (fun i e => ∃ K' acc x6 x7 x8 x9, e = [.pd K', .d (.int (n : Int)), .d (.str alph), .d (.int w), .d (.int b), .ol acc, x6, x7, x8, x9, .no] ∧ PenAt xs (N + 2 + 8 * i) K' ∧ acc.length = i ∧ (∀ x ∈ acc, Shs 9 x) ∧ Plain x6 ∧ Plain x7 ∧ Plain x8 ∧ Plain x9) (upto n) 0 _ ⟨K2, [], .no, .no, .no, .no, rfl, p2.up (by omega), rfl, (fun _ z => by cases z), .no, .no, .no, .no⟩ ?_ ?_
  · rintro i d e hd ⟨K', acc, x6, x7, x8, x9, rfl, hp', hl, hT, h6, h7, h8, h9⟩
    obtain ⟨rfl, hi⟩ := upto_get hd
    rw [Nat.zero_add] at hp' hl ⊢
    have f6 : freeB [.pd K', .d (.int (n : Int)), .d (.str alph), .d (.int w), .d (.int b), .ol acc, x6, x7, x8, x9, .no] 6 = true := by rcases h6 with rfl | ⟨y, rfl⟩ <;> rfl
    refine ⟨f6, nm_turn k hp' (by omega) ⟨w0, w1⟩ (by omega) h7 h8 h9 fun K3 d y7 y8 hp3 hd => ?_⟩
    exact ⟨K3, _, _, _, _, _, rfl, hp3.up (by omega), by rw [List.length_append, hl]; rfl, (fun x hx => by
      rcases List.mem_append.mp hx with z | z
      · exact hT x z
      · rw [List.mem_singleton.mp z]; exact hd), .d _, .d _, .d _, .d _⟩
  · rintro e ⟨K', acc, x6, x7, x8, x9, rfl, hp', hl, hT, h6, h7, h8, h9⟩
    rw [Nat.zero_add, upto_length] at hp' hl
    walk_at "r"
    exact ⟨⟨acc, rfl, hl, hT⟩, K', rfl, hp'.up (by omega)⟩
/-! words -/
def WordsD (d : D) : Prop := ∃ ds, d = .lst ds ∧ 2 ≤ ds.length ∧ ds.length ≤ 6 ∧ ∀ x ∈ ds, Shs 19 x
theorem e_words (k : Nat) : Draws (cs (k + 3) 16) 60 [] WordsD := fun xs N K hp hN => by
  refine (show Wc (defM 1 4 (m__law_words (cs (k + 2)))) _ _ from ?_)
  refine wc_def rfl rfl ?_; walk_at "n"
  unfold m__law_words
  walk_at "r"
  with_reducible refine wp_pen ?_
  walk_at "r"
  refine ⟨rfl, _, _, _, _, _, _, rfl, hp, by omega, e_names k (n := 5) (by decide), ?_⟩
  rintro d K1 ⟨ns, rfl, hl, hT⟩ p1
  walk_at "f"
  walk_at "r"
  walk_at "d"
  rename_i m K2 m0 m1 p2
  walk_at "r"
  refine ⟨by omega, ?_⟩
  refine for_inv (fun i e => ∃ acc x3, e = [.pd K2, .d (.lst ns), .ol acc, x3] ∧ acc.length = i ∧ (∀ x ∈ acc, Shs 19 x) ∧ Plain x3) (upto (2 + m).toNat) 0 _ ⟨[], .no, rfl, rfl, (fun _ z => by cases z), .no⟩ ?_ ?_
  · rintro i d e hd ⟨acc, x3, rfl, hla, hA, h3⟩
    obtain ⟨rfl, hi⟩ := upto_get hd
    rw [Nat.zero_add] at hla ⊢
    have f3 : freeB [.pd K2, .d (.lst ns), .ol acc, x3] 3 = true := by rcases h3 with rfl | ⟨y, rfl⟩ <;> rfl
    refine ⟨f3, ?_⟩
    walk_at "n"
    obtain ⟨z1, a1, n1⟩ := ix_at (xs := ns) (i := (i : Int) % 2) (Int.emod_nonneg _ (by decide)) (by have := Int.emod_lt_of_pos (i : Int) (show (0 : Int) < 2 by decide); omega)
    obtain ⟨z2, a2, n2⟩ := ix_at (xs := ns) (i := 2 + (i : Int) / 2 % 3) (by have := Int.emod_nonneg ((i : Int) / 2) (show (3 : Int) ≠ 0 by decide); omega) (by have := Int.emod_lt_of_pos ((i : Int) / 2) (show (0 : Int) < 3 by decide); omega)
    obtain ⟨z3, a3, g3⟩ := (hT z1 n1).add (shs_c "." 1 (by decide) (by decide)) (by decide)
    obtain ⟨z4, a4, g4⟩ := g3.add (hT z2 n2) (by decide)
    have cd : CDiv (i : Int) 2 := ⟨by decide, by decide⟩
    walk_at "r"
    exact ⟨by rw [sizeLine_eq]; omega, _, _, rfl, by rw [List.length_append, hla]; rfl, (fun x hx => by
      rcases List.mem_append.mp hx with z | z
      · exact hA x z
      · rw [List.mem_singleton.mp z]; exact g4), .d _⟩
  · rintro e ⟨acc, x3, rfl, hla, hA, h3⟩
    rw [Nat.zero_add, upto_length] at hla
    walk_at "r"
    exact ⟨⟨acc, rfl, by omega, by omega, hA⟩, K2, rfl, p2.up (by omega)⟩
/-! letters -/
def LetD (d : D) : Prop := ∃ ds, d = .lst ds ∧ ds.length = 5 ∧ ∀ x ∈ ds, Shs 4 x
abbrev big : Str := "ABCDEFGHIJKLMNOPQRSTUVWXYZ"
theorem str_digit : ∀ {i : Nat}, i < 5 → ∃ z, strOfD [.int (4 - (i : Int))] = some z ∧ Shs 1 z
  | 0, _ => ⟨.str "4", by kernel_rfl, shs_c _ _ (by decide) (by decide)⟩
  | 1, _ => ⟨.str "3", by kernel_rfl, shs_c _ _ (by decide) (by decide)⟩
  | 2, _ => ⟨.str "2", by kernel_rfl, shs_c _ _ (by decide) (by decide)⟩
  | 3, _ => ⟨.str "1", by kernel_rfl, shs_c _ _ (by decide) (by decide)⟩
  | 4, _ => ⟨.str "0", by kernel_rfl, shs_c _ _ (by decide) (by decide)⟩
  | n + 5, h => absurd h (by omega)
theorem e_letters (k : Nat) : Draws (cs (k + 2) 17) 2 [] LetD := fun xs N K hp hN => by
  refine (show Wc (defM 1 5 (m__law_letters (cs (k + 1)))) _ _ from ?_)
  refine wc_def rfl rfl ?_; walk_at "n"
  unfold m__law_letters
  walk_at "r"
  walk_at "d"
  rename_i w K1 w0 w1 p1
  walk_at "r"
  walk_at "d"
  rename_i b K2 b0 b1 p2
  obtain ⟨s0, e0, g0⟩ := shs_ix (s := big) (by decide) b0 (Int.lt_trans b1 (by decide))
  obtain ⟨z1, a1, g1⟩ := g0.add (shs_c "0" 1 (by decide) (by decide)) (by decide)
  obtain ⟨z2, a2, g2⟩ := g0.add (shs_c "00" 2 (by decide) (by decide)) (by decide)
  obtain ⟨z3, a3, g3⟩ := g0.add (shs_c "07" 2 (by decide) (by decide)) (by decide)
  obtain ⟨z4, a4, g4⟩ := g0.add (shs_c "999" 3 (by decide) (by decide)) (by decide)
  walk_at "r"
  refine ite_dec (fun z => ?_) fun z => ?_
  · walk_at "r"
    with_reducible refine wp_lcsame (T := Shs 4) (e1 := [.pd K2, .d (.int w), .d (.int b), .d (.str big), .no]) rfl ?_
    walk_at "r"
    refine ⟨by decide, rfl, by decide, fun i x hx => ?_, fun rs hl hT => ?_⟩
    · obtain ⟨rfl, hi⟩ := upto_get hx
      have hi : i < 5 := hi
      obtain ⟨y, ey, gy⟩ := shs_ix (s := big) (i := b + i) (by decide) (by omega) (by show b + (i : Int) < 26; omega)
      walk_at "n"
      walk_at "r"
      exact ⟨gy.up (by decide), rfl⟩
    · walk_at "r"
      exact ⟨⟨rs, rfl, hl, hT⟩, K2, rfl, p2.up (by omega)⟩
  · walk_at "r"
    refine ite_dec (fun z => ?_) fun z => ?_
    · walk_at "r"
      with_reducible refine wp_lcsame (T := Shs 4) (e1 := [.pd K2, .d (.int w), .d (.int b), .d (.str big), .no]) rfl ?_
      walk_at "r"
      refine ⟨by decide, rfl, by decide, fun i x hx => ?_, fun rs hl hT => ?_⟩
      · obtain ⟨rfl, hi⟩ := upto_get hx
        obtain ⟨y, ey, gy⟩ := str_digit hi
        obtain ⟨u, eu, gu⟩ := (shs_c "V" 1 (by decide) (by decide)).add gy (by decide)
        walk_at "n"
        walk_at "r"
        exact ⟨gu.up (by decide), rfl⟩
      · walk_at "r"
        exact ⟨⟨rs, rfl, hl, hT⟩, K2, rfl, p2.up (by omega)⟩
    · walk_at "r"
      exact ⟨⟨_, rfl, rfl, five_mem ⟨g0.up (by decide), g1.up (by decide), g2.up (by decide), g3.up (by decide), g4.up (by decide)⟩⟩, K2, rfl, p2.up (by omega)⟩

end Nv

set_option Elab.async false
set_option linter.all false
set_option maxRecDepth 100000
set_option maxHeartbeats 1000000
namespace Nv
open PySem L2 PyProof.Rows PySem.Spec
local macro_rules | `(tactic| walk_at "n") => `(tactic| try simp only [List.set_cons_zero, List.set_cons_succ, List.map_cons, List.map_nil, List.cons_append, List.nil_append, List.replicate, Nat.reduceSub])
local macro_rules | `(tactic| walk_at "s") => `(tactic| first
  | with_reducible refine wp_seq ?_ | with_reducible refine wk_nx ?_ | with_reducible refine wk_rt ?_ | with_reducible refine wt_nx ?_ | with_reducible refine wt_rt ?_ | with_reducible refine wt_bk ?_ | with_reducible refine wt_ct ?_ | with_reducible refine wk_bk ?_ | with_reducible refine wk_ct ?_
  | with_reducible refine wp_if ?_ | with_reducible refine wp_ret ?_ | with_reducible refine wp_next ?_ | with_reducible refine wp_retN ?_ | with_reducible refine wp_set ?_ | with_reducible refine wp_own ?_ | with_reducible refine wp_drop ?_
  | ((with_reducible refine' wp_var ?_ ?_); rotate_left; rfl) | ((with_reducible refine' wp_varL ?_ ?_); rotate_left; rfl) | ((with_reducible refine' wp_app ?_ ?_); rotate_left; rfl) | ((with_reducible refine' wp_lget ?_ ?_ ?_); rotate_left 2; (· rfl); (· rfl)) | with_reducible refine wp_lput ?_ | ((with_reducible refine' wp_lown ?_ ?_ ?_); rotate_left; (· rfl); (· rfl)) | ((with_reducible refine' wp_fown ?_ ?_ ?_); rotate_left; (· rfl); (· rfl)) | with_reducible refine wp_c ?_ | with_reducible refine wp_op ?_ | with_reducible refine wp_un ?_ | with_reducible refine wp_cb ?_ | with_reducible refine wp_cons ?_ | with_reducible refine wp_nil ?_
  | with_reducible refine wp_bl ?_ | with_reducible refine wp_tru ?_ | with_reducible refine wp_not ?_ | with_reducible refine wp_and ?_ | with_reducible refine wp_or ?_ | with_reducible refine wp_andV ?_ | with_reducible refine wp_orV ?_ | with_reducible refine wp_notV ?_
  | with_reducible refine wp_chain ?_ | with_reducible refine wp_sz ?_ | with_reducible refine wp_lst ?_ | with_reducible refine wp_tup ?_ | with_reducible refine wp_is ?_ | with_reducible refine wp_onone ?_ | with_reducible refine wp_osome ?_ | with_reducible refine wp_sl ?_ | with_reducible refine wp_m1 ?_
  | with_reducible refine wp_all ?_ | with_reducible refine wp_repr ?_ | with_reducible refine wp_peek ?_ | with_reducible refine wp_peekT ?_ | with_reducible refine wp_addF ?_ | with_reducible refine wp_ilist ?_ | with_reducible refine wp_itup ?_ | with_reducible refine wp_istr ?_ | with_reducible refine wp_irng ?_ | with_reducible refine wp_list ?_ | with_reducible refine wp_listS ?_
  | with_reducible refine wp_for ?_ | with_reducible refine wp_call ?_ | with_reducible refine wp_callK ?_ | with_reducible refine wp_lnil ?_ | with_reducible refine wp_ldat ?_ | with_reducible refine wp_callL ?_ | with_reducible refine wp_flast ?_ | with_reducible refine wp_fdat ?_ | with_reducible refine wp_callF ?_
  | with_reducible refine ⟨_, (by assumption : _ = some _), ?_⟩
  | ((with_reducible refine' call_and ?_ ?_ ?_); rotate_left 2; (· rfl); (· assumption)) | ((with_reducible refine' callk_and ?_ ?_ ?_); rotate_left 2; (· exact ⟨rfl, rfl⟩); (· assumption))
  | refine ite_t ?_ | refine ite_f ?_ | refine ite_nt ?_ | refine ite_nf ?_
  | with_reducible refine ⟨_, add_int, ?_⟩ | with_reducible refine ⟨_, iadd_int, ?_⟩ | with_reducible refine ⟨_, sub_int, ?_⟩ | with_reducible refine ⟨_, lt_int, ?_⟩ | with_reducible refine ⟨_, le_int, ?_⟩ | with_reducible refine ⟨_, gt_int, ?_⟩ | with_reducible refine ⟨_, ge_int, ?_⟩ | with_reducible refine ⟨_, eq_int, ?_⟩
  | with_reducible refine ⟨_, len_lst, ?_⟩ | with_reducible refine ⟨_, len_tup, ?_⟩ | with_reducible refine ⟨_, tru_bl, ?_⟩ | with_reducible refine ⟨_, int_int _, ?_⟩ | with_reducible refine ⟨_, int_bl _, ?_⟩
  | with_reducible refine ⟨_, rfl, ?_⟩ | ((with_reducible refine free_and ?_ ?_); (· first | rfl | assumption); walk_at "n") | ((with_reducible refine kind_and ?_ ?_); (· first | rfl | assumption)) | ((with_reducible refine size_and ?_ ?_); (· simp only [List.length_cons, List.length_nil, sizeLine_eq]; omega))
  | with_reducible refine ite_y (by assumption) ?_ | with_reducible refine ite_n (by assumption) ?_ | with_reducible refine ite_ny (by assumption) ?_ | with_reducible refine ite_nn (by assumption) ?_ | with_reducible refine ite_bt (by assumption) ?_ | with_reducible refine ite_bf (by assumption) ?_ | with_reducible refine ite_nbt (by assumption) ?_ | with_reducible refine ite_nbf (by assumption) ?_)
local macro_rules | `(tactic| walk_at "r") => `(tactic| repeat walk_at "s")
local macro_rules | `(tactic| walk_at "f") => `(tactic| (refine ⟨rfl, ?_⟩; walk_at "n"))
local macro_rules | `(tactic| walk_at "d") => `(tactic| (with_reducible refine wp_draw' (by assumption) (by omega) (by decide) ?_; intro _ _ _ _ _))
/-! ShD2: trees as they are drawn. -/
inductive Tre (L : Nat) : Nat → D → Prop
  | leaf {n : Nat} {d : D} (h : Shs 4 d) : Tre L n d
  | node {n : Nat} {w : D} {r : List D} (hw : Shs L w) (hl : r.length ≤ 3) (hr : ∀ x ∈ r, Tre L n x) : Tre L (n + 1) (.tup (w :: r))
theorem Tre.up {L n m : Nat} {d : D} (h : Tre L n d) : n ≤ m → Tre L m d := by
  induction h generalizing m with
  | leaf h => intro _; exact .leaf h
  | node hw hl hr ih =>
    intro hm
    obtain ⟨k, rfl⟩ : ∃ k, m = k + 1 := ⟨m - 1, by omega⟩
    exact .node hw hl fun x hx => ih x hx (by omega)
def tw : Nat → Nat
  | 0 => 42
  | n + 1 => 3 * tw n + 413
theorem shs_ok {n : Nat} {d : D} (h : Shs n d) : okB d = true ∧ wt d ≤ 10 * n + 2 ∧ d.py.depth = 0 ∧ noDct d ∧ noLst d := by
  obtain ⟨s, rfl, a, b⟩ := h
  exact ⟨a, by show 10 * s.length + 2 ≤ _; omega, rfl, rfl, rfl⟩
theorem tw_ge : ∀ n, 42 ≤ tw n
  | 0 => Nat.le_refl _
  | n + 1 => by show 42 ≤ 3 * tw n + 413; omega
/-- what may be said of data: shown, so great, so deep, without dicts and lists -/
structure Ok (n w : Nat) (d : D) : Prop where
  ok : okB d = true
  wt : wt d ≤ w
  dp : d.py.depth ≤ n
  nd : noDct d
  nl : noLst d
theorem Ok.up {n m w v : Nat} {d : D} (h : Ok n w d) (hn : n ≤ m) (hw : w ≤ v) : Ok m v d := ⟨h.ok, Nat.le_trans h.wt hw, Nat.le_trans h.dp hn, h.nd, h.nl⟩
theorem ok_shs {n : Nat} {d : D} (h : Shs n d) : Ok 0 (10 * n + 2) d := by
  obtain ⟨a, b, c, e, f⟩ := shs_ok h
  exact ⟨a, b, Nat.le_of_eq c, e, f⟩
theorem ok_tup {n w : Nat} {ds : List D} (h : ∀ d ∈ ds, okB d = true ∧ d.py.depth ≤ n ∧ noDct d ∧ noLst d) (hw : wtAll ds + 3 ≤ w) : Ok (n + 1) w (.tup ds) where
  ok := okAll_iff.mpr fun d hd => (h d hd).1
  wt := hw
  dp := Nat.add_le_add_right (depthAll_le fun d hd => (h d hd).2.1) 1
  nd := nd_tup fun d hd => (h d hd).2.2.1
  nl := nl_tup fun d hd => (h d hd).2.2.2
theorem Tre.ok {L n : Nat} {d : D} (h : Tre L n d) (hL : L ≤ 40) : Ok n (tw n) d := by
  induction h with
  | leaf h => exact (ok_shs h).up (Nat.zero_le _) (tw_ge _)
  | node hw hl hr ih =>
    rename_i n w r
    obtain ⟨a, b, c, e, f⟩ := shs_ok hw
    refine ok_tup (fun d hd => ?_) ?_
    · rcases List.mem_cons.mp hd with z | z
      · rw [z]; exact ⟨a, by rw [c]; exact Nat.zero_le _, e, f⟩
      · exact ⟨(ih d z).ok, (ih d z).dp, (ih d z).nd, (ih d z).nl⟩
    · have h1 := wtAll_le (ds := r) (n := tw n) fun d hd => (ih d hd).wt
      have h2 : r.length * (tw n + 2) ≤ 3 * (tw n + 2) := Nat.mul_le_mul_right _ hl
      show wt w + 2 + wtAll r + 3 ≤ 3 * tw n + 413
      omega
theorem shs_shp {n : Nat} {ds : List D} (h : ∀ d ∈ ds, Shs n d) : shp (.lst ds) = true := strs_shp fun d hd => by
  obtain ⟨s, e, a, b⟩ := h d hd
  exact ⟨s, e, (strB_fit a).ok⟩
/-- draws of a term so deep -/
def tc : Nat → Nat
  | 0 => 2
  | n + 1 => 2 + 3 * tc n
theorem tc_ge (n : Nat) : 2 ≤ tc n := by cases n <;> (unfold tc; omega)
def lex (ds : List D) : Prop := 0 < ds.length ∧ ds.length ≤ 100 ∧ ∀ x ∈ ds, Shs 19 x
def lets (ds : List D) : Prop := ds.length ≤ 50 ∧ ∀ x ∈ ds, Shs 4 x
def TermOk (f : Fm) (c n : Nat) (ws ls : List D) : Prop := ∀ (xs : List Int) (N : Int) (K : List (Key × D)) (p : Int), PenAt xs N K → N + c ≤ 4000000 →
  Wc f [.pd K, .d (.lst ws), .d (.lst ls), .d (.int (n : Int)), .pl [.int p]] fun d as' => Tre 19 n d ∧ ∃ K' p', as' = [.pd K', .d (.lst ws), .d (.lst ls), .d (.int (n : Int)), .pl [.int p']] ∧ PenAt xs (N + c) K'
theorem range5 {w : Int} (h0 : 0 ≤ w) (h1 : w < 5) : ∃ m : Int, ixD (.lst [.int 0, .int 1, .int 2, .int 3, .int 3]) (.int w) = some (.int m) ∧ 0 ≤ m ∧ m ≤ 3 := by
  have : w = 0 ∨ w = 1 ∨ w = 2 ∨ w = 3 ∨ w = 4 := by omega
  rcases this with rfl | rfl | rfl | rfl | rfl
  · exact ⟨0, rfl, by decide, by decide⟩
  · exact ⟨1, rfl, by decide, by decide⟩
  · exact ⟨2, rfl, by decide, by decide⟩
  · exact ⟨3, rfl, by decide, by decide⟩
  · exact ⟨3, rfl, by decide, by decide⟩
theorem lget1 {p : Int} {Q : D → Prop} {e : Env} {i : Nat} {x : Sl} (hi : e[i]? = some x) (hx : x.list = some [.int p]) (h : Q (.int p)) : ∃ s xs k v, e[i]? = some s ∧ s.list = some xs ∧ D.int 0 = D.int k ∧ L2.atI xs k = some v ∧ Q v := ⟨_, _, 0, _, hi, hx, rfl, rfl, h⟩
theorem lput1 {p : Int} {Q : Env → Prop} {e : Env} {i : Nat} {y : D} (hi : e[i]? = some (.pl [.int p])) (h : Q (e.set i (.pl [y]))) : ∃ s xs, ∃ k : Nat, e[i]? = some s ∧ s.list = some xs ∧ ixN xs.length 0 = some k ∧ Q (e.set i (s.listTo (xs.set k y))) := ⟨_, _, 0, hi, rfl, rfl, h⟩
theorem shs_emp {ls : List D} (h : lets ls) : neXD (.lst ls) (.lst []) = some (.bl (!ls.isEmpty)) := ne_nil (shs_shp h.2)
theorem wp_pick (k : Nat) {xs : List Int} {N : Int} {K : List (Key × D)} {e : Env} {i : Nat} {ws : List D} {T : D → Prop} {P : D → Env → Prop} (hi : (Sl.pd K :: e)[i]? = some (.d (.lst ws))) (hm : 0 < ws.length ∧ ws.length ≤ 100) (hT : ∀ x ∈ ws, T x) (hp : PenAt xs N K) (hN : N + 1 ≤ 4000000)
    (q : ∀ d K', T d → PenAt xs (N + 1) K' → P d (.pd K' :: e)) : Wp (mCallP 2 0 (cs (k + 1) 8) (mCons (mCb lenD (mCons (mVar i) mNil)) mNil)) (.pd K :: e) fun y e2 => ∃ z, ixD (.lst ws) y = some z ∧ P z e2 := by
  refine wp_draw hp hN (wp_cons (wp_cb (wp_cons (wp_var hi (wp_nil ⟨_, len_lst, wp_nil ⟨_, rfl, e, rfl, ⟨by omega, by omega⟩, fun j K' h0 h1 hp' => ?_⟩⟩)))))
  obtain ⟨d, a, b⟩ := ix_at (xs := ws) h0 h1
  exact ⟨d, a, q d K' (hT d b) hp'⟩
def tmBody (c : Nat → Fm) : MS := (mIf (mBl (mOp gtD (mLGet 4 (mC (.int 0))) (mC (.int 0)))) (mSet 6 (mOp addD (mVar 6) (mTup (mCons (mCallL 5 (c 11) (mLOwn 0 (mLDat (mVar 1) (mLDat (mVar 2) (mLDat (mOp (intD fun i j => some (.int (i - j))) (mVar 3) (mC (.int 1))) (mLOwn 4 mLNil)))))) mNil)))) mNext)
theorem tm_turn {c : Nat → Fm} {ws ls : List D} {n : Nat} {cc : Nat} (hc : TermOk (c 11) cc n ws ls) {xs : List Int} {N : Int} {K : List (Key × D)} {p : Int} {x5 x7 : Sl} {w : D} {r : List D} {R : Out → Env → Prop} {P : Env → Prop} (hp : PenAt xs N K) (hN : N + cc ≤ 4000000) (hr : ∀ x ∈ r, Tre 19 n x) (hl : r.length ≤ 2)
    (q : ∀ K' p' r', PenAt xs (N + cc) K' → (∀ x ∈ r', Tre 19 n x) → r'.length ≤ r.length + 1 → P [.pd K', .d (.lst ws), .d (.lst ls), .d (.int ((n + 1 : Nat) : Int)), .pl [.int p'], x5, .d (.tup (w :: r')), x7]) :
    Wp (tmBody c) [.pd K, .d (.lst ws), .d (.lst ls), .d (.int ((n + 1 : Nat) : Int)), .pl [.int p], x5, .d (.tup (w :: r)), x7] (turnK P R) := by
  unfold tmBody
  walk_at "r"
  refine lget1 rfl rfl ?_
  walk_at "r"
  refine ite_dec (fun z => ?_) fun z => ?_
  · walk_at "r"
    have en : ((n + 1 : Nat) : Int) - 1 = (n : Int) := by omega
    refine ⟨⟨rfl, rfl⟩, _, rfl, ?_⟩
    rw [en]
    refine (hc xs N K p hp hN).mono ?_
    rintro d as' ⟨hd, K', p', rfl, hp'⟩
    show Wp mNil [Sl.pd K', Sl.d (D.lst ws), Sl.d (D.lst ls), Sl.d (D.int ((n + 1 : Nat) : Int)), Sl.pl [D.int p'], x5, Sl.d (D.tup (w :: r)), x7] _
    walk_at "r"
    have ha : addD (.tup (w :: r)) (.tup [d]) = some (.tup (w :: (r ++ [d]))) := if_pos (by rw [List.length_cons, List.length_cons, List.length_nil, sizeLine_eq]; omega)
    walk_at "r"
    refine q K' p' (r ++ [d]) hp' (fun x hx => ?_) (by rw [List.length_append]; simp)
    rcases List.mem_append.mp hx with z | z
    · exact hr x z
    · rw [List.mem_singleton.mp z]; exact hd
  · walk_at "r"
    exact q K p r (hp.up (by omega)) hr (by omega)
theorem e_term_d (ws ls : List D) (hws : lex ws) (hls : lets ls) : ∀ n k : Nat, TermOk (cs (k + n + 2) 11) (tc n) (n + 1) ws ls
  | n, k => fun xs N K p hp hN => by
    have h2 := tc_ge n
    have ne := shs_emp hls
    refine (show Wc (defM 5 8 (m__law_term (cs (k + n + 1)))) _ _ from ?_)
    refine wc_def rfl rfl ?_; walk_at "n"
    unfold m__law_term
    walk_at "r"
    refine lget1 rfl rfl ?_
    walk_at "r"
    refine lput1 rfl ?_
    walk_at "n"
    walk_at "r"
    walk_at "d"
    rename_i w K1 w0 w1 p1
    walk_at "r"
    have tail : Wp (mSeq (mSet 6 (mTup (mCons (mOp ixD (mVar 1) (mCallP 2 0 (cs (k + n + 1) 8) (mCons (mCb lenD (mCons (mVar 1) mNil)) mNil))) mNil)))
    (mSeq (mFor (mIRng (mCons (mOp (intD fun i j => if CMul i j then some (.int (i * j)) else none) (mOp ixD (mLst (mSz (mCons (mC (.int 0)) (mCons (mC (.int 1)) (mCons (mC (.int 2)) (mCons (mC (.int 3)) (mCons (mC (.int 3)) mNil))))))) (mVar 5)) (mCb intOfD (mCons (mOp gtD (mVar 3) (mC (.int 1))) mNil))) mNil)) 7 (tmBody (cs (k + n + 1)))) (mRet (mVar 6))))
      [.pd K1, .d (.lst ws), .d (.lst ls), .d (.int ((n + 1 : Nat) : Int)), .pl [.int (p - 1)], .d (.int w), .no, .no]
      (defK [.pd K, .d (.lst ws), .d (.lst ls), .d (.int ((n + 1 : Nat) : Int)), .pl [.int p]] fun d as' => Tre 19 (n + 1) d ∧ ∃ K' p', as' = [.pd K', .d (.lst ws), .d (.lst ls), .d (.int ((n + 1 : Nat) : Int)), .pl [.int p']] ∧ PenAt xs (N + tc n) K') := by
      walk_at "r"
      refine wp_pick (k + n) rfl ⟨hws.1, hws.2.1⟩ hws.2.2 p1 (by omega) fun d K2 hd p2 => ?_
      walk_at "r"
      obtain ⟨m, em, m0, m1⟩ := range5 w0 w1
      have cm : ∀ j : Int, CMul m j := fun j => .inl ⟨by omega, by omega⟩
      walk_at "r"
      refine ⟨_, if_pos (cm _), ?_⟩
      walk_at "r"
      cases n with
      | zero =>
        have e0 : m * (if decide ((1 : Int) < ((0 + 1 : Nat) : Int)) = true then (1 : Int) else 0) = 0 := Int.mul_zero m
        rw [e0]
        refine ⟨by decide, ?_⟩
        refine for_nil ?_
        walk_at "r"
        exact ⟨.node (r := []) hd (by decide) (fun _ z => by cases z), K2, p - 1, rfl, p2.up (by omega)⟩
      | succ n =>
        have e1 : m * (if decide ((1 : Int) < ((n + 1 + 1 : Nat) : Int)) = true then (1 : Int) else 0) = m := by rw [decide_eq_true (by omega), if_pos rfl, Int.mul_one]
        rw [e1]
        have et : (tc (n + 1) : Int) = 2 + 3 * (tc n : Int) := by show ((2 + 3 * tc n : Nat) : Int) = _; omega
        refine ⟨by omega, ?_⟩
        have ih := e_term_d ws ls hws hls n k
        refine for_inv (fun i e => ∃ K' p' r x7, e = [.pd K', .d (.lst ws), .d (.lst ls), .d (.int ((n + 1 + 1 : Nat) : Int)), .pl [.int p'], .d (.int w), .d (.tup (d :: r)), x7] ∧ PenAt xs (N + 2 + i * tc n) K' ∧ r.length ≤ i ∧ (∀ x ∈ r, Tre 19 (n + 1) x) ∧ Plain x7) (upto m.toNat) 0 _ ⟨K2, p - 1, [], .no, rfl, p2.up (by omega), Nat.le_refl _, (fun _ z => by cases z), .no⟩ ?_ ?_
        · rintro i y e hy ⟨K', p', r, x7, rfl, hp', hrl, hr, h7⟩
          obtain ⟨rfl, hi⟩ := upto_get hy
          rw [Nat.zero_add] at hp' hrl ⊢
          have f7 : freeB [.pd K', .d (.lst ws), .d (.lst ls), .d (.int ((n + 1 + 1 : Nat) : Int)), .pl [.int p'], .d (.int w), .d (.tup (d :: r)), x7] 7 = true := by rcases h7 with rfl | ⟨y, rfl⟩ <;> rfl
          have hm : i * tc n ≤ 2 * tc n := Nat.mul_le_mul_right _ (by omega)
          have hm' : (i : Int) * (tc n : Int) ≤ 2 * (tc n : Int) := by exact_mod_cast hm
          have es : ((i + 1 : Nat) : Int) * (tc n : Int) = (i : Int) * (tc n : Int) + tc n := by rw [Int.natCast_add, Int.add_mul]; omega
          refine ⟨f7, ?_⟩
          refine tm_turn (n := n + 1) ih hp' (by omega) hr (by omega) fun K3 p3 r' hp3 hr' hl' => ?_
          exact ⟨K3, p3, r', _, rfl, hp3.up (by omega), by omega, hr', .d _⟩
        · rintro e ⟨K', p', r, x7, rfl, hp', hrl, hr, h7⟩
          rw [Nat.zero_add, upto_length] at hp' hrl
          have hm : m.toNat * tc n ≤ 3 * tc n := Nat.mul_le_mul_right _ (by omega)
          have hm' : (m.toNat : Int) * (tc n : Int) ≤ 3 * (tc n : Int) := by exact_mod_cast hm
          walk_at "r"
          exact ⟨.node hd (by omega) hr, K', p', rfl, hp'.up (by omega)⟩
    refine ite_b (fun z => ?_) fun z => ?_
    · walk_at "r"
      refine ite_dec (fun z2 => ?_) fun z2 => ?_
      · walk_at "r"
        have hl : 0 < ls.length := by
          cases ls with
          | nil => cases z
          | cons _ _ => rw [List.length_cons]; omega
        refine wp_pick (k + n) rfl ⟨hl, by have := hls.1; omega⟩ hls.2 p1 (by omega) fun d K2 hd p2 => ?_
        exact ⟨.leaf hd, K2, p - 1, rfl, p2.up (by omega)⟩
      · with_reducible refine wp_next ?_
        with_reducible refine wk_nx ?_
        exact tail
    · refine ite_f ?_
      with_reducible refine wp_next ?_
      with_reducible refine wk_nx ?_
      exact tail

end Nv

set_option Elab.async false
set_option linter.all false
set_option maxRecDepth 100000
set_option maxHeartbeats 1000000
namespace Nv
open PySem L2 PyProof.Rows PySem.Spec
local macro_rules | `(tactic| walk_at "n") => `(tactic| try simp only [List.set_cons_zero, List.set_cons_succ, List.map_cons, List.map_nil, List.cons_append, List.nil_append, List.replicate, Nat.reduceSub])
local macro_rules | `(tactic| walk_at "s") => `(tactic| first
  | with_reducible refine wp_seq ?_ | with_reducible refine wk_nx ?_ | with_reducible refine wk_rt ?_ | with_reducible refine wt_nx ?_ | with_reducible refine wt_rt ?_ | with_reducible refine wt_bk ?_ | with_reducible refine wt_ct ?_ | with_reducible refine wk_bk ?_ | with_reducible refine wk_ct ?_
  | with_reducible refine wp_if ?_ | with_reducible refine wp_ret ?_ | with_reducible refine wp_next ?_ | with_reducible refine wp_retN ?_ | with_reducible refine wp_set ?_ | with_reducible refine wp_own ?_ | with_reducible refine wp_drop ?_
  | ((with_reducible refine' wp_var ?_ ?_); rotate_left; rfl) | ((with_reducible refine' wp_varL ?_ ?_); rotate_left; rfl) | ((with_reducible refine' wp_app ?_ ?_); rotate_left; rfl) | ((with_reducible refine' wp_lget ?_ ?_ ?_); rotate_left 2; (· rfl); (· rfl)) | with_reducible refine wp_lput ?_ | ((with_reducible refine' wp_lown ?_ ?_ ?_); rotate_left; (· rfl); (· rfl)) | ((with_reducible refine' wp_fown ?_ ?_ ?_); rotate_left; (· rfl); (· rfl)) | with_reducible refine wp_c ?_ | with_reducible refine wp_op ?_ | with_reducible refine wp_un ?_ | with_reducible refine wp_cb ?_ | with_reducible refine wp_cons ?_ | with_reducible refine wp_nil ?_
  | with_reducible refine wp_bl ?_ | with_reducible refine wp_tru ?_ | with_reducible refine wp_not ?_ | with_reducible refine wp_and ?_ | with_reducible refine wp_or ?_ | with_reducible refine wp_andV ?_ | with_reducible refine wp_orV ?_ | with_reducible refine wp_notV ?_
  | with_reducible refine wp_chain ?_ | with_reducible refine wp_sz ?_ | with_reducible refine wp_lst ?_ | with_reducible refine wp_tup ?_ | with_reducible refine wp_is ?_ | with_reducible refine wp_onone ?_ | with_reducible refine wp_osome ?_ | with_reducible refine wp_sl ?_ | with_reducible refine wp_m1 ?_
  | with_reducible refine wp_all ?_ | with_reducible refine wp_repr ?_ | with_reducible refine wp_peek ?_ | with_reducible refine wp_peekT ?_ | with_reducible refine wp_addF ?_ | with_reducible refine wp_ilist ?_ | with_reducible refine wp_itup ?_ | with_reducible refine wp_istr ?_ | with_reducible refine wp_irng ?_ | with_reducible refine wp_list ?_ | with_reducible refine wp_listS ?_
  | with_reducible refine wp_for ?_ | with_reducible refine wp_call ?_ | with_reducible refine wp_callK ?_ | with_reducible refine wp_lnil ?_ | with_reducible refine wp_ldat ?_ | with_reducible refine wp_callL ?_ | with_reducible refine wp_flast ?_ | with_reducible refine wp_fdat ?_ | with_reducible refine wp_callF ?_
  | with_reducible refine ⟨_, (by assumption : _ = some _), ?_⟩
  | ((with_reducible refine' call_and ?_ ?_ ?_); rotate_left 2; (· rfl); (· assumption)) | ((with_reducible refine' callk_and ?_ ?_ ?_); rotate_left 2; (· exact ⟨rfl, rfl⟩); (· assumption))
  | refine ite_t ?_ | refine ite_f ?_ | refine ite_nt ?_ | refine ite_nf ?_
  | with_reducible refine ⟨_, add_int, ?_⟩ | with_reducible refine ⟨_, iadd_int, ?_⟩ | with_reducible refine ⟨_, sub_int, ?_⟩ | with_reducible refine ⟨_, lt_int, ?_⟩ | with_reducible refine ⟨_, le_int, ?_⟩ | with_reducible refine ⟨_, gt_int, ?_⟩ | with_reducible refine ⟨_, ge_int, ?_⟩ | with_reducible refine ⟨_, eq_int, ?_⟩
  | with_reducible refine ⟨_, len_lst, ?_⟩ | with_reducible refine ⟨_, len_tup, ?_⟩ | with_reducible refine ⟨_, tru_bl, ?_⟩ | with_reducible refine ⟨_, int_int _, ?_⟩ | with_reducible refine ⟨_, int_bl _, ?_⟩
  | with_reducible refine ⟨_, rfl, ?_⟩ | ((with_reducible refine free_and ?_ ?_); (· first | rfl | assumption); walk_at "n") | ((with_reducible refine kind_and ?_ ?_); (· first | rfl | assumption)) | ((with_reducible refine size_and ?_ ?_); (· simp only [List.length_cons, List.length_nil, sizeLine_eq]; omega))
  | with_reducible refine ite_y (by assumption) ?_ | with_reducible refine ite_n (by assumption) ?_ | with_reducible refine ite_ny (by assumption) ?_ | with_reducible refine ite_nn (by assumption) ?_ | with_reducible refine ite_bt (by assumption) ?_ | with_reducible refine ite_bf (by assumption) ?_ | with_reducible refine ite_nbt (by assumption) ?_ | with_reducible refine ite_nbf (by assumption) ?_)
local macro_rules | `(tactic| walk_at "r") => `(tactic| repeat walk_at "s")
local macro_rules | `(tactic| walk_at "f") => `(tactic| (refine ⟨rfl, ?_⟩; walk_at "n"))
local macro_rules | `(tactic| walk_at "d") => `(tactic| (with_reducible refine wp_draw' (by assumption) (by omega) (by decide) ?_; intro _ _ _ _ _))
/-! ShD3: full trees, towers. -/
def fc : Nat → Nat
  | 0 => 1
  | n + 1 => 1 + 3 * fc n
theorem fc_ge (n : Nat) : 1 ≤ fc n := by cases n <;> (unfold fc; omega)
theorem tup_lst (xs : List D) : tupOfD [.lst xs] = some (.tup xs) := rfl
def FullD (n : Nat) (d : D) : Prop := ∃ w rs, d = .tup (w :: rs) ∧ Shs 19 w ∧ rs.length = 3 ∧ ∀ x ∈ rs, Tre 19 n x
theorem e_full (ws ls : List D) (hws : lex ws) (hls : lets ls) : ∀ n k : Nat, Draws (cs (k + n + 2) 15) (fc n) [.d (.lst ws), .d (.lst ls), .d (.int ((n + 1 : Nat) : Int))] (fun d => Tre 19 (n + 1) d ∧ (0 < n → FullD n d))
  | 0, k => fun xs N K hp hN => by
    refine (show Wc (defM 4 6 (m__law_full (cs (k + 1)))) _ _ from ?_)
    refine wc_def rfl rfl ?_; walk_at "n"
    obtain ⟨w0, ew, hw⟩ := ix_at (xs := ws) (i := 0) (by decide) (by have := hws.1; omega)
    have ha : addD (.lst ls) (.lst [.tup [w0]]) = some (.lst (ls ++ [.tup [w0]])) := if_pos (by have := hls.1; rw [List.length_cons, List.length_nil, sizeLine_eq]; omega)
    have e1 : ((0 + 1 : Nat) : Int) = 1 := rfl
    unfold m__law_full
    walk_at "r"
    refine wp_draw hp hN ?_
    walk_at "r"
    refine ⟨by have := hls.1; omega, fun i K' h0 h1 hp' => ?_⟩
    obtain ⟨d, ed, hd⟩ := ix_at (xs := ls ++ [.tup [w0]]) (i := i) h0 (by rw [List.length_append, List.length_cons, List.length_nil]; omega)
    walk_at "r"
    refine ⟨⟨?_, fun z => absurd z (by decide)⟩, K', rfl, hp'⟩
    rcases List.mem_append.mp hd with z | z
    · exact .leaf (hls.2 d z)
    · rw [List.mem_singleton.mp z]
      exact .node (hws.2.2 _ hw) (by decide) fun _ z => by cases z
  | n + 1, k => fun xs N K hp hN => by
    have ih := e_full ws ls hws hls n k
    refine (show Wc (defM 4 6 (m__law_full (cs (k + n + 2)))) _ _ from ?_)
    refine wc_def rfl rfl ?_; walk_at "n"
    have e1 : ¬ ((n + 1 + 1 : Nat) : Int) = 1 := by omega
    have e2 : ((n + 1 + 1 : Nat) : Int) - 1 = ((n + 1 : Nat) : Int) := by omega
    have et : (fc (n + 1) : Int) = 1 + 3 * (fc n : Int) := by show ((1 + 3 * fc n : Nat) : Int) = _; omega
    unfold m__law_full
    walk_at "r"
    with_reducible refine wp_lcpen (T := Tre 19 (n + 1)) (xs := xs) (c := fc n) (e1 := [.d (.lst ws), .d (.lst ls), .d (.int ((n + 1 + 1 : Nat) : Int)), .no, .no]) rfl (fun N K x hp hN => ?_) ?_
    · walk_at "n"
      with_reducible refine wp_pen ?_
      walk_at "r"
      rw [e2]
      exact ⟨rfl, _, _, _, _, _, _, rfl, hp, hN, ih, fun d K' hd hp' => ⟨hd.1, K', rfl, hp'⟩⟩
    · walk_at "r"
      refine ⟨by decide, N, K, rfl, hp, by rw [upto_length]; show N + ((3 : Nat) : Int) * (fc n : Int) ≤ _; omega, by rw [upto_length]; decide, fun rs K' hl hT hp' => ?_⟩
      rw [upto_length] at hl hp'
      have hl : rs.length = 3 := hl
      have hp' : PenAt xs (N + ((3 : Nat) : Int) * (fc n : Int)) K' := hp'
      walk_at "r"
      refine wp_pick (k + n + 1) rfl ⟨hws.1, hws.2.1⟩ hws.2.2 hp' (by omega) fun d K2 hd p2 => ?_
      have ha : addD (.tup [d]) (.tup rs) = some (.tup (d :: rs)) := if_pos (by rw [List.length_cons, List.length_nil, sizeLine_eq]; omega)
      walk_at "r"
      exact ⟨⟨.node hd (by omega) hT, fun _ => ⟨d, rs, rfl, hd, hl, hT⟩⟩, K2, rfl, p2.up (by omega)⟩
end Nv

set_option Elab.async false
set_option linter.all false
set_option maxRecDepth 100000
set_option maxHeartbeats 1000000
namespace Nv
open PySem L2 PyProof.Rows PySem.Spec
local macro_rules | `(tactic| walk_at "n") => `(tactic| try simp only [List.set_cons_zero, List.set_cons_succ, List.map_cons, List.map_nil, List.cons_append, List.nil_append, List.replicate, Nat.reduceSub])
local macro_rules | `(tactic| walk_at "s") => `(tactic| first
  | with_reducible refine wp_seq ?_ | with_reducible refine wk_nx ?_ | with_reducible refine wk_rt ?_ | with_reducible refine wt_nx ?_ | with_reducible refine wt_rt ?_ | with_reducible refine wt_bk ?_ | with_reducible refine wt_ct ?_ | with_reducible refine wk_bk ?_ | with_reducible refine wk_ct ?_
  | with_reducible refine wp_if ?_ | with_reducible refine wp_ret ?_ | with_reducible refine wp_next ?_ | with_reducible refine wp_retN ?_ | with_reducible refine wp_set ?_ | with_reducible refine wp_own ?_ | with_reducible refine wp_drop ?_
  | ((with_reducible refine' wp_var ?_ ?_); rotate_left; rfl) | ((with_reducible refine' wp_varL ?_ ?_); rotate_left; rfl) | ((with_reducible refine' wp_app ?_ ?_); rotate_left; rfl) | ((with_reducible refine' wp_lget ?_ ?_ ?_); rotate_left 2; (· rfl); (· rfl)) | with_reducible refine wp_lput ?_ | ((with_reducible refine' wp_lown ?_ ?_ ?_); rotate_left; (· rfl); (· rfl)) | ((with_reducible refine' wp_fown ?_ ?_ ?_); rotate_left; (· rfl); (· rfl)) | with_reducible refine wp_c ?_ | with_reducible refine wp_op ?_ | with_reducible refine wp_un ?_ | with_reducible refine wp_cb ?_ | with_reducible refine wp_cons ?_ | with_reducible refine wp_nil ?_
  | with_reducible refine wp_bl ?_ | with_reducible refine wp_tru ?_ | with_reducible refine wp_not ?_ | with_reducible refine wp_and ?_ | with_reducible refine wp_or ?_ | with_reducible refine wp_andV ?_ | with_reducible refine wp_orV ?_ | with_reducible refine wp_notV ?_
  | with_reducible refine wp_chain ?_ | with_reducible refine wp_sz ?_ | with_reducible refine wp_lst ?_ | with_reducible refine wp_tup ?_ | with_reducible refine wp_is ?_ | with_reducible refine wp_onone ?_ | with_reducible refine wp_osome ?_ | with_reducible refine wp_sl ?_ | with_reducible refine wp_m1 ?_
  | with_reducible refine wp_all ?_ | with_reducible refine wp_repr ?_ | with_reducible refine wp_peek ?_ | with_reducible refine wp_peekT ?_ | with_reducible refine wp_addF ?_ | with_reducible refine wp_ilist ?_ | with_reducible refine wp_itup ?_ | with_reducible refine wp_istr ?_ | with_reducible refine wp_irng ?_ | with_reducible refine wp_list ?_ | with_reducible refine wp_listS ?_
  | with_reducible refine wp_for ?_ | with_reducible refine wp_call ?_ | with_reducible refine wp_callK ?_ | with_reducible refine wp_lnil ?_ | with_reducible refine wp_ldat ?_ | with_reducible refine wp_callL ?_ | with_reducible refine wp_flast ?_ | with_reducible refine wp_fdat ?_ | with_reducible refine wp_callF ?_
  | with_reducible refine ⟨_, (by assumption : _ = some _), ?_⟩
  | ((with_reducible refine' call_and ?_ ?_ ?_); rotate_left 2; (· rfl); (· assumption)) | ((with_reducible refine' callk_and ?_ ?_ ?_); rotate_left 2; (· exact ⟨rfl, rfl⟩); (· assumption))
  | refine ite_t ?_ | refine ite_f ?_ | refine ite_nt ?_ | refine ite_nf ?_
  | with_reducible refine ⟨_, add_int, ?_⟩ | with_reducible refine ⟨_, iadd_int, ?_⟩ | with_reducible refine ⟨_, sub_int, ?_⟩ | with_reducible refine ⟨_, lt_int, ?_⟩ | with_reducible refine ⟨_, le_int, ?_⟩ | with_reducible refine ⟨_, gt_int, ?_⟩ | with_reducible refine ⟨_, ge_int, ?_⟩ | with_reducible refine ⟨_, eq_int, ?_⟩
  | with_reducible refine ⟨_, len_lst, ?_⟩ | with_reducible refine ⟨_, len_tup, ?_⟩ | with_reducible refine ⟨_, tru_bl, ?_⟩ | with_reducible refine ⟨_, int_int _, ?_⟩ | with_reducible refine ⟨_, int_bl _, ?_⟩
  | with_reducible refine ⟨_, rfl, ?_⟩ | ((with_reducible refine free_and ?_ ?_); (· first | rfl | assumption); walk_at "n") | ((with_reducible refine kind_and ?_ ?_); (· first | rfl | assumption)) | ((with_reducible refine size_and ?_ ?_); (· simp only [List.length_cons, List.length_nil, sizeLine_eq]; omega))
  | with_reducible refine ite_y (by assumption) ?_ | with_reducible refine ite_n (by assumption) ?_ | with_reducible refine ite_ny (by assumption) ?_ | with_reducible refine ite_nn (by assumption) ?_ | with_reducible refine ite_bt (by assumption) ?_ | with_reducible refine ite_bf (by assumption) ?_ | with_reducible refine ite_nbt (by assumption) ?_ | with_reducible refine ite_nbf (by assumption) ?_)
local macro_rules | `(tactic| walk_at "r") => `(tactic| repeat walk_at "s")
local macro_rules | `(tactic| walk_at "f") => `(tactic| (refine ⟨rfl, ?_⟩; walk_at "n"))
local macro_rules | `(tactic| walk_at "d") => `(tactic| (with_reducible refine wp_draw' (by assumption) (by omega) (by decide) ?_; intro _ _ _ _ _))
/-! ShD4: odd values, trees that are bent. -/
mutual
/-- all texts in it are so short -/
def shB (L : Nat) : D → Bool
  | .str s => decide (s.length ≤ L)
  | .lst xs => shAll L xs
  | .tup xs => shAll L xs
  | _ => true
def shAll (L : Nat) : List D → Bool
  | [] => true
  | d :: ds => shB L d && shAll L ds
end
theorem shAll_iff {L : Nat} : ∀ {ds : List D}, shAll L ds = true ↔ (∀ d ∈ ds, shB L d = true)
  | [] => ⟨fun _ _ h => (by cases h), fun _ => rfl⟩
  | d :: ds => by
    show (shB L d && shAll L ds) = true ↔ _
    rw [Bool.and_eq_true, shAll_iff]
    simp
theorem Tre.sh {L n : Nat} {d : D} (h : Tre L n d) (hL : 4 ≤ L) : shB (L + 1) d = true := by
  induction h with
  | leaf h =>
    obtain ⟨s, rfl, _, a⟩ := h
    exact decide_eq_true (by omega)
  | node hw hl hr ih =>
    rename_i n w r
    show shAll (L + 1) (w :: r) = true
    refine shAll_iff.mpr fun d hd => ?_
    rcases List.mem_cons.mp hd with z | z
    · obtain ⟨s, rfl, _, a⟩ := hw
      rw [z]
      exact decide_eq_true (by omega)
    · exact ih d z
structure Odd (L n w : Nat) (d : D) : Prop where
  ok : okB d = true
  wt : wt d ≤ w
  dp : d.py.depth ≤ n
  te : noDct d ∨ noLst d
  sh : shB (L + 1) d = true
theorem Odd.up {L n m w v : Nat} {d : D} (h : Odd L n w d) (hn : n ≤ m) (hw : w ≤ v) : Odd L m v d := ⟨h.ok, Nat.le_trans h.wt hw, Nat.le_trans h.dp hn, h.te, h.sh⟩
theorem Odd.tells {L n w : Nat} {d : D} (h : Odd L n w d) : tells d.py = true := h.te.elim tells_nd tells_nl
theorem Odd.rok {L n w : Nat} {d : D} (h : Odd L n w d) (hn : n ≤ 60) (hw : w ≤ 16000000) : rokB d = true := rok_of h.ok (Nat.le_trans h.wt hw) (Nat.le_trans h.dp hn) h.tells
def oddL (a b t : D) (ls : List D) : List D := [a, b, .non, .bl true, .int 0, .str "", .str "t", .tup [], .lst [a], .lst ls, .tup [.str "T"], .tup [a, a], .tup [.str "T", .tup [a]]] ++
  [.tup [a, .non], .tup [a, .str "t"], .tup [a, .bl true], .tup [.tup [a]], .tup [a, .str "T", .str "T", .str "T", .str "T"], .dct [], .tup [a, .lst [a]]]
theorem odd_all {L n w : Nat} {a b t : D} {ls : List D} (ha : Shs L a) (hb : Shs (L + 1) b) (hL : 4 ≤ L ∧ L ≤ 40) (hl : Odd L (n + 2) (w + 1700) (.lst ls)) : ∀ d ∈ oddL a b t ls, Odd L (n + 2) (w + 1700) d := by
  obtain ⟨s, rfl, s1, s2⟩ := ha
  obtain ⟨u, rfl, u1, u2⟩ := hb
  intro d hd
  simp only [oddL, List.cons_append, List.nil_append, List.mem_cons, List.not_mem_nil, or_false] at hd
  have k1 : strB "T" = true := by decide
  have k2 : strB "t" = true := by decide
  have k3 : strB "" = true := by decide
  have l1 : ("T" : Str).length = 1 := rfl
  have l2 : ("t" : Str).length = 1 := rfl
  have l3 : ("" : Str).length = 0 := rfl
  have d1 : decide (s.length ≤ L + 1) = true := decide_eq_true (by omega)
  have d2 : decide (u.length ≤ L + 1) = true := decide_eq_true u2
  have d3 : decide (1 ≤ L + 1) = true := decide_eq_true (by omega)
  have d4 : decide (0 ≤ L + 1) = true := decide_eq_true (by omega)
  rcases hd with rfl | rfl | rfl | rfl | rfl | rfl | rfl | rfl | rfl | rfl | rfl | rfl | rfl | rfl | rfl | rfl | rfl | rfl | rfl | rfl
  all_goals first
    | exact hl
    | exact ⟨by simp [okB, okAll, okKv, s1, u1, k1, k2, k3], by simp only [wt, wtAll, wtKv, l1, l2, l3]; omega, (show _ ≤ n + 2 from Nat.le_trans (show _ ≤ 2 from by first | exact Nat.zero_le 2 | exact (show 1 ≤ 2 by decide) | exact Nat.le_refl 2) (by omega)), by first | exact .inl rfl | exact .inr rfl, by simp only [shB, shAll, l1, l2, l3, d1, d2, d3, d4, Bool.and_self, Bool.and_true, Bool.true_and]⟩
theorem odd_of_lst {L n w : Nat} {ds : List D} (h : ∀ d ∈ ds, okB d = true ∧ d.py.depth ≤ n ∧ noDct d ∧ shB (L + 1) d = true) (hw : wtAll ds + 3 ≤ w) : Odd L (n + 1) w (.lst ds) where
  ok := okAll_iff.mpr fun d hd => (h d hd).1
  wt := hw
  dp := Nat.add_le_add_right (depthAll_le fun d hd => (h d hd).2.1) 1
  te := .inl (nd_lst fun d hd => (h d hd).2.2.1)
  sh := shAll_iff.mpr fun d hd => (h d hd).2.2.2
theorem Tre.shape {L n : Nat} {d : D} (h : Tre L n d) : (∃ s, d = .str s ∧ Shs 4 d) ∨ ∃ w r m, d = .tup (w :: r) ∧ n = m + 1 ∧ Shs L w ∧ r.length ≤ 3 ∧ ∀ x ∈ r, Tre L m x := by
  cases h with
  | leaf h =>
    obtain ⟨s, rfl, a⟩ := h
    exact .inl ⟨s, rfl, s, rfl, a⟩
  | node hw hl hr => exact .inr ⟨_, _, _, rfl, rfl, hw, hl, hr⟩
theorem Tre.odd' {L n : Nat} {d : D} (h : Tre L n d) (hL : 4 ≤ L ∧ L ≤ 40) : Odd L (n + 2) (tw n + 1700) d := by
  have o := h.ok hL.2
  exact ⟨o.ok, Nat.le_trans o.wt (by omega), Nat.le_trans o.dp (by omega), .inl o.nd, h.sh hL.1⟩
/-- the word of a tree, and its parts as a list -/
theorem Tre.odd {L n : Nat} {t : D} (h : Tre L n t) (hL : 4 ≤ L ∧ L ≤ 40) : ∃ a ls, ((isStrD t = true ∧ a = .str "a.b") ∨ (isStrD t = false ∧ ixD t (.int 0) = some a)) ∧ kindOk t = true ∧ seqOfS [t] = some ls ∧ Shs L a ∧ Odd L (n + 2) (tw n + 1700) (.lst ls) := by
  rcases h.shape with ⟨s, rfl, hs⟩ | ⟨w, r, m, rfl, rfl, hw, hl, hr⟩
  · obtain ⟨u, e, u1, u2⟩ := hs
    cases e
    refine ⟨.str "a.b", signs s, .inl ⟨rfl, rfl⟩, rfl, ?_, shs_c _ _ (by decide) (by show 3 ≤ L; omega), ?_⟩
    · show (if s.length ≤ sizeLine then some (signs s) else none) = _
      rw [if_pos (strB_fit u1).size]
    · have hl : (signs s).length ≤ 4 := by unfold signs; rw [List.length_map]; exact u2
      have hd : ∀ d ∈ signs s, Shs 1 d := fun d hd => by
        unfold signs at hd
        obtain ⟨c, hc, rfl⟩ := List.mem_map.mp hd
        refine ⟨_, rfl, strB_of (show 1 ≤ 100 by decide) fun x hx => ?_, Nat.le_refl 1⟩
        have hx : x ∈ [c] := hx
        rw [List.mem_singleton.mp hx]
        exact strB_cps u1 c hc
      have := wtAll_le (ds := signs s) (n := 12) fun d h => (shs_ok (hd d h)).2.1
      have h4 : (signs s).length * (12 + 2) ≤ 4 * (12 + 2) := Nat.mul_le_mul_right _ hl
      have hsh : ∀ d ∈ signs s, shB (L + 1) d = true := fun d h => by
        obtain ⟨v, rfl, _, a⟩ := hd d h
        exact decide_eq_true (by omega)
      exact (odd_of_lst (L := L) (n := 0) (w := 1700) (fun d h => ⟨(shs_ok (hd d h)).1, Nat.le_of_eq (shs_ok (hd d h)).2.2.1, (shs_ok (hd d h)).2.2.2.1, hsh d h⟩) (by omega)).up (by omega) (by omega)
  · have ho := h.ok hL.2
    have hs := h.sh hL.1
    refine ⟨w, w :: r, .inr ⟨rfl, tup_ix0 w r⟩, rfl, rfl, hw, ⟨ho.ok, Nat.le_trans ho.wt (by omega), Nat.le_trans ho.dp (by omega), .inl ho.nd, hs⟩⟩
theorem add_lst {a b : List D} (h : a.length + b.length ≤ 1000) : addD (.lst a) (.lst b) = some (.lst (a ++ b)) := if_pos (by rw [sizeLine_eq]; omega)
end Nv

set_option Elab.async false
set_option linter.all false
set_option maxRecDepth 100000
set_option maxHeartbeats 1000000
namespace Nv
open PySem L2 PyProof.Rows PySem.Spec
local macro_rules | `(tactic| walk_at "n") => `(tactic| try simp only [List.set_cons_zero, List.set_cons_succ, List.map_cons, List.map_nil, List.cons_append, List.nil_append, List.replicate, Nat.reduceSub])
local macro_rules | `(tactic| walk_at "s") => `(tactic| first
  | with_reducible refine wp_seq ?_ | with_reducible refine wk_nx ?_ | with_reducible refine wk_rt ?_ | with_reducible refine wt_nx ?_ | with_reducible refine wt_rt ?_ | with_reducible refine wt_bk ?_ | with_reducible refine wt_ct ?_ | with_reducible refine wk_bk ?_ | with_reducible refine wk_ct ?_
  | with_reducible refine wp_if ?_ | with_reducible refine wp_ret ?_ | with_reducible refine wp_next ?_ | with_reducible refine wp_retN ?_ | with_reducible refine wp_set ?_ | with_reducible refine wp_own ?_ | with_reducible refine wp_drop ?_
  | ((with_reducible refine' wp_var ?_ ?_); rotate_left; rfl) | ((with_reducible refine' wp_varL ?_ ?_); rotate_left; rfl) | ((with_reducible refine' wp_app ?_ ?_); rotate_left; rfl) | ((with_reducible refine' wp_lget ?_ ?_ ?_); rotate_left 2; (· rfl); (· rfl)) | with_reducible refine wp_lput ?_ | ((with_reducible refine' wp_lown ?_ ?_ ?_); rotate_left; (· rfl); (· rfl)) | ((with_reducible refine' wp_fown ?_ ?_ ?_); rotate_left; (· rfl); (· rfl)) | with_reducible refine wp_c ?_ | with_reducible refine wp_op ?_ | with_reducible refine wp_un ?_ | with_reducible refine wp_cb ?_ | with_reducible refine wp_cons ?_ | with_reducible refine wp_nil ?_
  | with_reducible refine wp_bl ?_ | with_reducible refine wp_tru ?_ | with_reducible refine wp_not ?_ | with_reducible refine wp_and ?_ | with_reducible refine wp_or ?_ | with_reducible refine wp_andV ?_ | with_reducible refine wp_orV ?_ | with_reducible refine wp_notV ?_
  | with_reducible refine wp_chain ?_ | with_reducible refine wp_sz ?_ | with_reducible refine wp_lst ?_ | with_reducible refine wp_tup ?_ | with_reducible refine wp_is ?_ | with_reducible refine wp_onone ?_ | with_reducible refine wp_osome ?_ | with_reducible refine wp_sl ?_ | with_reducible refine wp_m1 ?_
  | with_reducible refine wp_all ?_ | with_reducible refine wp_repr ?_ | with_reducible refine wp_peek ?_ | with_reducible refine wp_peekT ?_ | with_reducible refine wp_addF ?_ | with_reducible refine wp_ilist ?_ | with_reducible refine wp_itup ?_ | with_reducible refine wp_istr ?_ | with_reducible refine wp_irng ?_ | with_reducible refine wp_list ?_ | with_reducible refine wp_listS ?_
  | with_reducible refine wp_for ?_ | with_reducible refine wp_call ?_ | with_reducible refine wp_callK ?_ | with_reducible refine wp_lnil ?_ | with_reducible refine wp_ldat ?_ | with_reducible refine wp_callL ?_ | with_reducible refine wp_flast ?_ | with_reducible refine wp_fdat ?_ | with_reducible refine wp_callF ?_
  | with_reducible refine ⟨_, (by assumption : _ = some _), ?_⟩
  | ((with_reducible refine' call_and ?_ ?_ ?_); rotate_left 2; (· rfl); (· assumption)) | ((with_reducible refine' callk_and ?_ ?_ ?_); rotate_left 2; (· exact ⟨rfl, rfl⟩); (· assumption))
  | refine ite_t ?_ | refine ite_f ?_ | refine ite_nt ?_ | refine ite_nf ?_
  | with_reducible refine ⟨_, add_int, ?_⟩ | with_reducible refine ⟨_, iadd_int, ?_⟩ | with_reducible refine ⟨_, sub_int, ?_⟩ | with_reducible refine ⟨_, lt_int, ?_⟩ | with_reducible refine ⟨_, le_int, ?_⟩ | with_reducible refine ⟨_, gt_int, ?_⟩ | with_reducible refine ⟨_, ge_int, ?_⟩ | with_reducible refine ⟨_, eq_int, ?_⟩
  | with_reducible refine ⟨_, len_lst, ?_⟩ | with_reducible refine ⟨_, len_tup, ?_⟩ | with_reducible refine ⟨_, tru_bl, ?_⟩ | with_reducible refine ⟨_, int_int _, ?_⟩ | with_reducible refine ⟨_, int_bl _, ?_⟩
  | with_reducible refine ⟨_, rfl, ?_⟩ | ((with_reducible refine free_and ?_ ?_); (· first | rfl | assumption); walk_at "n") | ((with_reducible refine kind_and ?_ ?_); (· first | rfl | assumption)) | ((with_reducible refine size_and ?_ ?_); (· simp only [List.length_cons, List.length_nil, sizeLine_eq]; omega))
  | with_reducible refine ite_y (by assumption) ?_ | with_reducible refine ite_n (by assumption) ?_ | with_reducible refine ite_ny (by assumption) ?_ | with_reducible refine ite_nn (by assumption) ?_ | with_reducible refine ite_bt (by assumption) ?_ | with_reducible refine ite_bf (by assumption) ?_ | with_reducible refine ite_nbt (by assumption) ?_ | with_reducible refine ite_nbf (by assumption) ?_)
local macro_rules | `(tactic| walk_at "r") => `(tactic| repeat walk_at "s")
local macro_rules | `(tactic| walk_at "f") => `(tactic| (refine ⟨rfl, ?_⟩; walk_at "n"))
local macro_rules | `(tactic| walk_at "d") => `(tactic| (with_reducible refine wp_draw' (by assumption) (by omega) (by decide) ?_; intro _ _ _ _ _))
/-! ShD5: trees that are bent. -/
theorem cut_take {α : Type} (xs : List α) (a : Nat) : cut xs none (some (a : Int)) = xs.take a := by
  unfold cut
  have h0 : HT.sIx xs.length 0 none = 0 := rfl
  rw [h0, HT.sIx_nat, List.drop_zero, Nat.sub_zero]
  by_cases h : a ≤ xs.length
  · rw [Nat.min_eq_left h]
  · rw [Nat.min_eq_right (by omega), List.take_of_length_le (Nat.le_refl _), List.take_of_length_le (by omega)]
theorem cut_drop {α : Type} (xs : List α) (a : Nat) : cut xs (some (a : Int)) none = xs.drop a := by
  unfold cut
  have h0 : HT.sIx xs.length xs.length none = xs.length := rfl
  rw [h0, HT.sIx_nat]
  by_cases h : a ≤ xs.length
  · rw [Nat.min_eq_left h, List.take_of_length_le (by rw [List.length_drop]; omega)]
  · rw [Nat.min_eq_right (by omega), List.drop_of_length_le (Nat.le_refl _), List.drop_of_length_le (by omega)]
    exact List.take_nil
theorem cut_last {α : Type} (xs : List α) : cut xs none (some (-1)) = xs.dropLast := by
  unfold cut
  have h0 : HT.sIx xs.length 0 none = 0 := rfl
  have h1 : HT.sIx xs.length xs.length (some (-1)) = xs.length - 1 := by
    show ((-1 : Int) + (xs.length : Int)).toNat = xs.length - 1
    omega
  rw [h0, h1, List.drop_zero, Nat.sub_zero, List.dropLast_eq_take]
theorem bent_odd {L m : Nat} (hL : 4 ≤ L ∧ L ≤ 40) {w z : D} {r1 r2 : List D} (hw : Shs L w) (h1 : ∀ x ∈ r1, Tre L m x) (h2 : ∀ x ∈ r2, Tre L m x) (hz : Odd L (m + 2) (tw m + 1700) z) (hl : wtAll r1 + wt z + wtAll r2 ≤ 3 * tw m + 1704) : Odd L (m + 1 + 2) (tw (m + 1) + 1700) (.tup (w :: (r1 ++ z :: r2))) := by
  obtain ⟨a, b, c, e, f⟩ := shs_ok hw
  have mem : ∀ x ∈ w :: (r1 ++ z :: r2), okB x = true ∧ x.py.depth ≤ m + 2 ∧ (x = z ∨ noDct x ∧ noLst x) := fun x hx => by
    rcases List.mem_cons.mp hx with y | y
    · rw [y]; exact ⟨a, by omega, .inr ⟨e, f⟩⟩
    · rcases List.mem_append.mp y with y | y
      · have := (h1 x y).ok hL.2
        exact ⟨this.ok, Nat.le_trans this.dp (by omega), .inr ⟨this.nd, this.nl⟩⟩
      · rcases List.mem_cons.mp y with y | y
        · rw [y]; exact ⟨hz.ok, hz.dp, .inl rfl⟩
        · have := (h2 x y).ok hL.2
          exact ⟨this.ok, Nat.le_trans this.dp (by omega), .inr ⟨this.nd, this.nl⟩⟩
  refine ⟨okAll_iff.mpr fun d hd => (mem d hd).1, ?_, Nat.add_le_add_right (depthAll_le fun d hd => (mem d hd).2.1) 1, ?_, ?_⟩
  · show wt w + 2 + wtAll (r1 ++ z :: r2) + 3 ≤ 3 * tw m + 413 + 1700
    rw [wtAll_append]
    show wt w + 2 + (wtAll r1 + (wt z + 2 + wtAll r2)) + 3 ≤ _
    omega
  · rcases hz.te with t | t
    · exact .inl (nd_tup fun d hd => (mem d hd).2.2.elim (fun z => by rw [z]; exact t) fun z => z.1)
    · exact .inr (nl_tup fun d hd => (mem d hd).2.2.elim (fun z => by rw [z]; exact t) fun z => z.2)
  · refine shAll_iff.mpr fun d hd => ?_
    rcases List.mem_cons.mp hd with y | y
    · obtain ⟨s, rfl, _, l⟩ := hw
      rw [y]
      exact decide_eq_true (by omega)
    · rcases List.mem_append.mp y with y | y
      · exact (h1 d y).sh hL.1
      · rcases List.mem_cons.mp y with y | y
        · rw [y]; exact hz.sh
        · exact (h2 d y).sh hL.1
theorem sl_take (xs : List D) (a : Nat) : slD (.tup xs) none (some (a : Int)) = some (.tup (xs.take a)) := by
  show some (D.tup (cut xs none (some (a : Int)))) = _
  rw [cut_take]
theorem sl_drop (xs : List D) (a : Nat) : slD (.tup xs) (some (a : Int)) none = some (.tup (xs.drop a)) := by
  show some (D.tup (cut xs (some (a : Int)) none)) = _
  rw [cut_drop]
theorem sl_last (xs : List D) : slD (.tup xs) none (some (-1)) = some (.tup xs.dropLast) := by
  show some (D.tup (cut xs none (some (-1)))) = _
  rw [cut_last]
theorem add_tup {a b : List D} (h : a.length + b.length ≤ 1000) : addD (.tup a) (.tup b) = some (.tup (a ++ b)) := if_pos (by rw [sizeLine_eq]; omega)
theorem ix_tup' {xs : List D} {a : Nat} (h : a < xs.length) : ixD (.tup xs) (.int (a : Int)) = some xs[a] := by
  show L2.atI xs a = _
  unfold L2.atI ixN
  rw [if_pos (by omega), if_pos (by omega)]
  show xs[(a : Int).toNat]? = _
  rw [Int.toNat_natCast, List.getElem?_eq_getElem h]
def bc : Nat → Nat
  | 0 => 3
  | n + 1 => 3 + bc n
theorem bc_ge (n : Nat) : 3 ≤ bc n := by cases n <;> (unfold bc; omega)
def bnTail (c : Nat → Fm) : MS := (mSeq (mSet 3 (mCallP 2 0 (c 8) (mCons (mC (.int 5)) mNil)))
    (mSeq (mIf (mAnd (mBl (mOp eqXD (mVar 3) (mC (.int 0)))) (mNot (mTru (mIs isStrD (mVar 1))))) (mRet (mOp addD (mVar 1) (mTup (mCons (mC (.str "T")) mNil)))) mNext)
    (mSeq (mIf (mAnd (mBl (mOp eqXD (mVar 3) (mC (.int 1)))) (mNot (mTru (mIs isStrD (mVar 1))))) (mRet (mSl (mVar 1) mONone (mOSome (mUn negD (mC (.int 1)))))) mNext)
    (mSeq (mIf (mAnd (mBl (mOp eqXD (mVar 3) (mC (.int 2)))) (mNot (mTru (mIs isStrD (mVar 1))))) (mRet (mOp addD (mSl (mVar 1) mONone (mOSome (mC (.int 1)))) (mUn (revD (some 0)) (mVar 1)))) mNext)
    (mRet (mCallP 2 0 (c 13) (mCons (mVar 1) mNil)))))))
theorem split_at {r : List D} {j : Nat} (h : j < r.length) : ∃ r1 x r2, r = r1 ++ x :: r2 ∧ r1.length = j := by
  refine ⟨r.take j, r[j], r.drop (j + 1), ?_, by rw [List.length_take]; omega⟩
  rw [← List.drop_eq_getElem_cons h, List.take_append_drop]
end Nv

set_option Elab.async false
set_option linter.all false
set_option maxRecDepth 100000
set_option maxHeartbeats 1000000
namespace Nv
open PySem L2 PyProof.Rows PySem.Spec
local macro_rules | `(tactic| walk_at "n") => `(tactic| try simp only [List.set_cons_zero, List.set_cons_succ, List.map_cons, List.map_nil, List.cons_append, List.nil_append, List.replicate, Nat.reduceSub])
local macro_rules | `(tactic| walk_at "s") => `(tactic| first
  | with_reducible refine wp_seq ?_ | with_reducible refine wk_nx ?_ | with_reducible refine wk_rt ?_ | with_reducible refine wt_nx ?_ | with_reducible refine wt_rt ?_ | with_reducible refine wt_bk ?_ | with_reducible refine wt_ct ?_ | with_reducible refine wk_bk ?_ | with_reducible refine wk_ct ?_
  | with_reducible refine wp_if ?_ | with_reducible refine wp_ret ?_ | with_reducible refine wp_next ?_ | with_reducible refine wp_retN ?_ | with_reducible refine wp_set ?_ | with_reducible refine wp_own ?_ | with_reducible refine wp_drop ?_
  | ((with_reducible refine' wp_var ?_ ?_); rotate_left; rfl) | ((with_reducible refine' wp_varL ?_ ?_); rotate_left; rfl) | ((with_reducible refine' wp_app ?_ ?_); rotate_left; rfl) | ((with_reducible refine' wp_lget ?_ ?_ ?_); rotate_left 2; (· rfl); (· rfl)) | with_reducible refine wp_lput ?_ | ((with_reducible refine' wp_lown ?_ ?_ ?_); rotate_left; (· rfl); (· rfl)) | ((with_reducible refine' wp_fown ?_ ?_ ?_); rotate_left; (· rfl); (· rfl)) | with_reducible refine wp_c ?_ | with_reducible refine wp_op ?_ | with_reducible refine wp_un ?_ | with_reducible refine wp_cb ?_ | with_reducible refine wp_cons ?_ | with_reducible refine wp_nil ?_
  | with_reducible refine wp_bl ?_ | with_reducible refine wp_tru ?_ | with_reducible refine wp_not ?_ | with_reducible refine wp_and ?_ | with_reducible refine wp_or ?_ | with_reducible refine wp_andV ?_ | with_reducible refine wp_orV ?_ | with_reducible refine wp_notV ?_
  | with_reducible refine wp_chain ?_ | with_reducible refine wp_sz ?_ | with_reducible refine wp_lst ?_ | with_reducible refine wp_tup ?_ | with_reducible refine wp_is ?_ | with_reducible refine wp_onone ?_ | with_reducible refine wp_osome ?_ | with_reducible refine wp_sl ?_ | with_reducible refine wp_m1 ?_
  | with_reducible refine wp_all ?_ | with_reducible refine wp_repr ?_ | with_reducible refine wp_peek ?_ | with_reducible refine wp_peekT ?_ | with_reducible refine wp_addF ?_ | with_reducible refine wp_ilist ?_ | with_reducible refine wp_itup ?_ | with_reducible refine wp_istr ?_ | with_reducible refine wp_irng ?_ | with_reducible refine wp_list ?_ | with_reducible refine wp_listS ?_
  | with_reducible refine wp_for ?_ | with_reducible refine wp_call ?_ | with_reducible refine wp_callK ?_ | with_reducible refine wp_lnil ?_ | with_reducible refine wp_ldat ?_ | with_reducible refine wp_callL ?_ | with_reducible refine wp_flast ?_ | with_reducible refine wp_fdat ?_ | with_reducible refine wp_callF ?_
  | with_reducible refine ⟨_, (by assumption : _ = some _), ?_⟩
  | ((with_reducible refine' call_and ?_ ?_ ?_); rotate_left 2; (· rfl); (· assumption)) | ((with_reducible refine' callk_and ?_ ?_ ?_); rotate_left 2; (· exact ⟨rfl, rfl⟩); (· assumption))
  | refine ite_t ?_ | refine ite_f ?_ | refine ite_nt ?_ | refine ite_nf ?_
  | with_reducible refine ⟨_, add_int, ?_⟩ | with_reducible refine ⟨_, iadd_int, ?_⟩ | with_reducible refine ⟨_, sub_int, ?_⟩ | with_reducible refine ⟨_, lt_int, ?_⟩ | with_reducible refine ⟨_, le_int, ?_⟩ | with_reducible refine ⟨_, gt_int, ?_⟩ | with_reducible refine ⟨_, ge_int, ?_⟩ | with_reducible refine ⟨_, eq_int, ?_⟩
  | with_reducible refine ⟨_, len_lst, ?_⟩ | with_reducible refine ⟨_, len_tup, ?_⟩ | with_reducible refine ⟨_, tru_bl, ?_⟩ | with_reducible refine ⟨_, int_int _, ?_⟩ | with_reducible refine ⟨_, int_bl _, ?_⟩
  | with_reducible refine ⟨_, rfl, ?_⟩ | ((with_reducible refine free_and ?_ ?_); (· first | rfl | assumption); walk_at "n") | ((with_reducible refine kind_and ?_ ?_); (· first | rfl | assumption)) | ((with_reducible refine size_and ?_ ?_); (· simp only [List.length_cons, List.length_nil, sizeLine_eq]; omega))
  | with_reducible refine ite_y (by assumption) ?_ | with_reducible refine ite_n (by assumption) ?_ | with_reducible refine ite_ny (by assumption) ?_ | with_reducible refine ite_nn (by assumption) ?_ | with_reducible refine ite_bt (by assumption) ?_ | with_reducible refine ite_bf (by assumption) ?_ | with_reducible refine ite_nbt (by assumption) ?_ | with_reducible refine ite_nbf (by assumption) ?_)
local macro_rules | `(tactic| walk_at "r") => `(tactic| repeat walk_at "s")
local macro_rules | `(tactic| walk_at "f") => `(tactic| (refine ⟨rfl, ?_⟩; walk_at "n"))
local macro_rules | `(tactic| walk_at "d") => `(tactic| (with_reducible refine wp_draw' (by assumption) (by omega) (by decide) ?_; intro _ _ _ _ _))
/-! ShD6: the things that are looked at. -/
theorem headOk2 {w : D} {r : List D} (h : headOk false (w :: r) = true) : dotD 2 w = true := by
  unfold headOk at h
  simpa using h
theorem okT_tre (L : Nat) : ∀ (n m : Nat) (d : D), okT false n d = true → okB d = true → shB L d = true → d.py.depth ≤ m → Tre L m d
  | 0, _, _, h, _, _, _ => by cases h
  | n + 1, m, d, h, ho, hs, hd => by
    have h : (pieceD false d && (kidsD d).all (okT false n)) = true := h
    rw [Bool.and_eq_true] at h
    obtain ⟨hp, hk⟩ := h
    cases d with
    | str s =>
      have hv : (varS s || false) = true := hp
      rw [Bool.or_false] at hv
      unfold varS at hv
      simp only [Bool.and_eq_true, decide_eq_true_eq] at hv
      exact .leaf ⟨s, rfl, ho, by omega⟩
    | tup xs =>
      have hp : (false || (decide (1 ≤ xs.length) && decide (xs.length ≤ 4) && headOk false xs)) = true := hp
      rw [Bool.false_or, Bool.and_eq_true, Bool.and_eq_true, decide_eq_true_eq, decide_eq_true_eq] at hp
      obtain ⟨⟨h1, h4⟩, hh⟩ := hp
      cases xs with
      | nil => exact absurd h1 (by decide)
      | cons w r =>
        have hw := headOk2 hh
        have ok := okAll_iff.mp (show okAll (w :: r) = true from ho)
        have sh := shAll_iff.mp (show shAll L (w :: r) = true from hs)
        have hd : PyData.depthAll (pyAll (w :: r)) + 1 ≤ m := hd
        obtain ⟨m, rfl⟩ : ∃ k, m = k + 1 := ⟨m - 1, by omega⟩
        have hk : r.all (okT false n) = true := hk
        rw [List.all_eq_true] at hk
        have hws : Shs L w := by
          have a := ok w List.mem_cons_self
          have b := sh w List.mem_cons_self
          cases w with
          | str s => exact ⟨s, rfl, a, of_decide_eq_true b⟩
          | _ => cases hw
        refine .node hws (by rw [List.length_cons] at h4; omega) fun x hx => ?_
        have := depth_mem (List.mem_cons_of_mem w hx)
        exact okT_tre L n m x (hk x hx) (ok x (List.mem_cons_of_mem _ hx)) (sh x (List.mem_cons_of_mem _ hx)) (by omega)
    | _ => cases hp
/-- an entry that may be looked at -/
structure Ent (d : D) : Prop where
  ok : okB d = true
  rok : rokB d = true
  dp : d.py.depth < 20
theorem tw7 : tw 7 = 543263 := by decide
theorem tw9 : tw 9 = 4891019 := by decide
theorem Odd.ent {L n w : Nat} {d : D} (h : Odd L n w d) (hn : n < 20) (hw : w ≤ 16000000) : Ent d := ⟨h.ok, h.rok (by omega) hw, Nat.lt_of_le_of_lt h.dp hn⟩
theorem cnt_no (n : Nat) (d : D) : noD (resD (cntF n d)) .non = some (.bl (okT false n d)) := by
  unfold cntF
  cases q : okT false n d <;> rfl
theorem ix_app {a b : List D} {i : Int} (h0 : 0 ≤ i) (h1 : i < a.length) : ∃ d, ixD (.lst (a ++ b)) (.int i) = some d ∧ d ∈ a := by
  refine ⟨a[i.toNat]'(by omega), ?_, List.getElem_mem _⟩
  show L2.atI (a ++ b) i = _
  unfold L2.atI ixN
  rw [if_pos h0, if_pos (by rw [List.length_append]; omega)]
  show (a ++ b)[i.toNat]? = _
  rw [List.getElem?_append_left (by omega), List.getElem?_eq_getElem (by omega)]
def thBody (c : Nat → Fm) : MS := (mSeq (mSet 6 (mCallP 2 0 (c 12) (mCons (mLGet 3 (mCallP 2 0 (c 8) (mCons (mC (.int 9)) mNil))) mNil)))
    (mSeq (mApp 3 (mVar 6))
    (mIf (mAnd (mTru (mIs isTupD (mVar 6))) (mBl (mOp noD (mCall 1 (c 14) (mCons (mVar 6) mNil)) (mC .non)))) (mApp 3 (mCallP 2 0 (c 12) (mCons (mVar 6) mNil))) mNext)))
theorem lgetA {xs : List D} {Q : D → Prop} {e : Env} {i : Nat} {j : Int} {x : Sl} {v : D} (hi : e[i]? = some x) (hx : x.list = some xs) (hv : ixD (.lst xs) (.int j) = some v) (h : Q v) : ∃ s xs k v, e[i]? = some s ∧ s.list = some xs ∧ D.int j = D.int k ∧ L2.atI xs k = some v ∧ Q v := ⟨_, _, j, _, hi, hx, rfl, hv, h⟩
end Nv

set_option Elab.async false
set_option linter.all false
set_option maxRecDepth 100000
set_option maxHeartbeats 1000000
namespace Nv
open PySem L2 PyProof.Rows PySem.Spec
local macro_rules | `(tactic| walk_at "n") => `(tactic| try simp only [List.set_cons_zero, List.set_cons_succ, List.map_cons, List.map_nil, List.cons_append, List.nil_append, List.replicate, Nat.reduceSub])
local macro_rules | `(tactic| walk_at "s") => `(tactic| first
  | with_reducible refine wp_seq ?_ | with_reducible refine wk_nx ?_ | with_reducible refine wk_rt ?_ | with_reducible refine wt_nx ?_ | with_reducible refine wt_rt ?_ | with_reducible refine wt_bk ?_ | with_reducible refine wt_ct ?_ | with_reducible refine wk_bk ?_ | with_reducible refine wk_ct ?_
  | with_reducible refine wp_if ?_ | with_reducible refine wp_ret ?_ | with_reducible refine wp_next ?_ | with_reducible refine wp_retN ?_ | with_reducible refine wp_set ?_ | with_reducible refine wp_own ?_ | with_reducible refine wp_drop ?_
  | ((with_reducible refine' wp_var ?_ ?_); rotate_left; rfl) | ((with_reducible refine' wp_varL ?_ ?_); rotate_left; rfl) | ((with_reducible refine' wp_app ?_ ?_); rotate_left; rfl) | ((with_reducible refine' wp_lget ?_ ?_ ?_); rotate_left 2; (· rfl); (· rfl)) | with_reducible refine wp_lput ?_ | ((with_reducible refine' wp_lown ?_ ?_ ?_); rotate_left; (· rfl); (· rfl)) | ((with_reducible refine' wp_fown ?_ ?_ ?_); rotate_left; (· rfl); (· rfl)) | with_reducible refine wp_c ?_ | with_reducible refine wp_op ?_ | with_reducible refine wp_un ?_ | with_reducible refine wp_cb ?_ | with_reducible refine wp_cons ?_ | with_reducible refine wp_nil ?_
  | with_reducible refine wp_bl ?_ | with_reducible refine wp_tru ?_ | with_reducible refine wp_not ?_ | with_reducible refine wp_and ?_ | with_reducible refine wp_or ?_ | with_reducible refine wp_andV ?_ | with_reducible refine wp_orV ?_ | with_reducible refine wp_notV ?_
  | with_reducible refine wp_chain ?_ | with_reducible refine wp_sz ?_ | with_reducible refine wp_lst ?_ | with_reducible refine wp_tup ?_ | with_reducible refine wp_is ?_ | with_reducible refine wp_onone ?_ | with_reducible refine wp_osome ?_ | with_reducible refine wp_sl ?_ | with_reducible refine wp_m1 ?_
  | with_reducible refine wp_all ?_ | with_reducible refine wp_repr ?_ | with_reducible refine wp_peek ?_ | with_reducible refine wp_peekT ?_ | with_reducible refine wp_addF ?_ | with_reducible refine wp_ilist ?_ | with_reducible refine wp_itup ?_ | with_reducible refine wp_istr ?_ | with_reducible refine wp_irng ?_ | with_reducible refine wp_list ?_ | with_reducible refine wp_listS ?_
  | with_reducible refine wp_for ?_ | with_reducible refine wp_call ?_ | with_reducible refine wp_callK ?_ | with_reducible refine wp_lnil ?_ | with_reducible refine wp_ldat ?_ | with_reducible refine wp_callL ?_ | with_reducible refine wp_flast ?_ | with_reducible refine wp_fdat ?_ | with_reducible refine wp_callF ?_
  | with_reducible refine ⟨_, (by assumption : _ = some _), ?_⟩
  | ((with_reducible refine' call_and ?_ ?_ ?_); rotate_left 2; (· rfl); (· assumption)) | ((with_reducible refine' callk_and ?_ ?_ ?_); rotate_left 2; (· exact ⟨rfl, rfl⟩); (· assumption))
  | refine ite_t ?_ | refine ite_f ?_ | refine ite_nt ?_ | refine ite_nf ?_
  | with_reducible refine ⟨_, add_int, ?_⟩ | with_reducible refine ⟨_, iadd_int, ?_⟩ | with_reducible refine ⟨_, sub_int, ?_⟩ | with_reducible refine ⟨_, lt_int, ?_⟩ | with_reducible refine ⟨_, le_int, ?_⟩ | with_reducible refine ⟨_, gt_int, ?_⟩ | with_reducible refine ⟨_, ge_int, ?_⟩ | with_reducible refine ⟨_, eq_int, ?_⟩
  | with_reducible refine ⟨_, len_lst, ?_⟩ | with_reducible refine ⟨_, len_tup, ?_⟩ | with_reducible refine ⟨_, tru_bl, ?_⟩ | with_reducible refine ⟨_, int_int _, ?_⟩ | with_reducible refine ⟨_, int_bl _, ?_⟩
  | with_reducible refine ⟨_, rfl, ?_⟩ | ((with_reducible refine free_and ?_ ?_); (· first | rfl | assumption); walk_at "n") | ((with_reducible refine kind_and ?_ ?_); (· first | rfl | assumption)) | ((with_reducible refine size_and ?_ ?_); (· simp only [List.length_cons, List.length_nil, sizeLine_eq]; omega))
  | with_reducible refine ite_y (by assumption) ?_ | with_reducible refine ite_n (by assumption) ?_ | with_reducible refine ite_ny (by assumption) ?_ | with_reducible refine ite_nn (by assumption) ?_ | with_reducible refine ite_bt (by assumption) ?_ | with_reducible refine ite_bf (by assumption) ?_ | with_reducible refine ite_nbt (by assumption) ?_ | with_reducible refine ite_nbf (by assumption) ?_)
local macro_rules | `(tactic| walk_at "r") => `(tactic| repeat walk_at "s")
local macro_rules | `(tactic| walk_at "f") => `(tactic| (refine ⟨rfl, ?_⟩; walk_at "n"))
local macro_rules | `(tactic| walk_at "d") => `(tactic| (with_reducible refine wp_draw' (by assumption) (by omega) (by decide) ?_; intro _ _ _ _ _))
/-! ShD7: all things. -/
def ThingsD (d : D) : Prop := ∃ ds, d = .lst ds ∧ ds.length ≤ 100 ∧ ∀ x ∈ ds, Ent x
theorem LetD.lets {ls : List D} (h1 : ls.length = 5) (h2 : ∀ x ∈ ls, Shs 4 x) : lets ls := ⟨by omega, h2⟩
theorem Tre.ent {n : Nat} {d : D} (h : Tre 19 n d) (hn : n ≤ 7) : Ent d := ((h.up hn).odd' (by decide)).ent (by decide) (by decide)
/-- a call of term -/
theorem wp_term {k : Nat} {ws ls : List D} (hws : lex ws) (hls : lets ls) {xs : List Int} {N : Int} {K : List (Key × D)} {e : Env} {i j : Nat} {Q : D → Env → Prop} (hp : PenAt xs N K) (hN : N + 728 ≤ 4000000)
    (hi : (Sl.pd K :: e)[i]? = some (.d (.lst ws))) (hj : (Sl.pd K :: e)[j]? = some (.d (.lst ls)))
    (q : ∀ d K', Tre 19 6 d → PenAt xs (N + 728) K' → Q d (.pd K' :: e)) :
    Wp (mCallF 5 (cs (k + 7) 11) (mFOwn 0 (mFDat (mVar i) (mFDat (mVar j) (mFDat (mC (.int 6)) (mFLast (mSz (mCons (mC (.int 40)) mNil)))))))) (.pd K :: e) Q := by
  have ht := e_term_d ws ls hws hls 5 k xs N K 40 hp hN
  refine wp_callF (wp_fown (s0 := .pd K) rfl rfl (wp_fdat (wp_var hi (wp_fdat (wp_var hj (wp_fdat (wp_c (wp_flast (wp_sz (wp_cons (wp_c (wp_nil ⟨by decide, ?_⟩))))))))))))
  refine ⟨⟨rfl, rfl⟩, _, rfl, ht.mono ?_⟩
  rintro d as' ⟨hd, K', p', rfl, hp'⟩
  exact q d K' hd hp'
end Nv

set_option Elab.async false
set_option linter.all false
set_option maxRecDepth 100000
set_option maxHeartbeats 1000000
namespace Nv
open PySem L2 PyProof.Rows PySem.Spec
local macro_rules | `(tactic| walk_at "n") => `(tactic| try simp only [List.set_cons_zero, List.set_cons_succ, List.map_cons, List.map_nil, List.cons_append, List.nil_append, List.replicate, Nat.reduceSub])
local macro_rules | `(tactic| walk_at "s") => `(tactic| first
  | with_reducible refine wp_seq ?_ | with_reducible refine wk_nx ?_ | with_reducible refine wk_rt ?_ | with_reducible refine wt_nx ?_ | with_reducible refine wt_rt ?_ | with_reducible refine wt_bk ?_ | with_reducible refine wt_ct ?_ | with_reducible refine wk_bk ?_ | with_reducible refine wk_ct ?_
  | with_reducible refine wp_if ?_ | with_reducible refine wp_ret ?_ | with_reducible refine wp_next ?_ | with_reducible refine wp_retN ?_ | with_reducible refine wp_set ?_ | with_reducible refine wp_own ?_ | with_reducible refine wp_drop ?_
  | ((with_reducible refine' wp_var ?_ ?_); rotate_left; rfl) | ((with_reducible refine' wp_varL ?_ ?_); rotate_left; rfl) | ((with_reducible refine' wp_app ?_ ?_); rotate_left; rfl) | ((with_reducible refine' wp_lget ?_ ?_ ?_); rotate_left 2; (· rfl); (· rfl)) | with_reducible refine wp_lput ?_ | ((with_reducible refine' wp_lown ?_ ?_ ?_); rotate_left; (· rfl); (· rfl)) | ((with_reducible refine' wp_fown ?_ ?_ ?_); rotate_left; (· rfl); (· rfl)) | with_reducible refine wp_c ?_ | with_reducible refine wp_op ?_ | with_reducible refine wp_un ?_ | with_reducible refine wp_cb ?_ | with_reducible refine wp_cons ?_ | with_reducible refine wp_nil ?_
  | with_reducible refine wp_bl ?_ | with_reducible refine wp_tru ?_ | with_reducible refine wp_not ?_ | with_reducible refine wp_and ?_ | with_reducible refine wp_or ?_ | with_reducible refine wp_andV ?_ | with_reducible refine wp_orV ?_ | with_reducible refine wp_notV ?_
  | with_reducible refine wp_chain ?_ | with_reducible refine wp_sz ?_ | with_reducible refine wp_lst ?_ | with_reducible refine wp_tup ?_ | with_reducible refine wp_is ?_ | with_reducible refine wp_onone ?_ | with_reducible refine wp_osome ?_ | with_reducible refine wp_sl ?_ | with_reducible refine wp_m1 ?_
  | with_reducible refine wp_all ?_ | with_reducible refine wp_repr ?_ | with_reducible refine wp_peek ?_ | with_reducible refine wp_peekT ?_ | with_reducible refine wp_addF ?_ | with_reducible refine wp_ilist ?_ | with_reducible refine wp_itup ?_ | with_reducible refine wp_istr ?_ | with_reducible refine wp_irng ?_ | with_reducible refine wp_list ?_ | with_reducible refine wp_listS ?_
  | with_reducible refine wp_for ?_ | with_reducible refine wp_call ?_ | with_reducible refine wp_callK ?_ | with_reducible refine wp_lnil ?_ | with_reducible refine wp_ldat ?_ | with_reducible refine wp_callL ?_ | with_reducible refine wp_flast ?_ | with_reducible refine wp_fdat ?_ | with_reducible refine wp_callF ?_
  | with_reducible refine ⟨_, (by assumption : _ = some _), ?_⟩
  | ((with_reducible refine' call_and ?_ ?_ ?_); rotate_left 2; (· rfl); (· assumption)) | ((with_reducible refine' callk_and ?_ ?_ ?_); rotate_left 2; (· exact ⟨rfl, rfl⟩); (· assumption))
  | refine ite_t ?_ | refine ite_f ?_ | refine ite_nt ?_ | refine ite_nf ?_
  | with_reducible refine ⟨_, add_int, ?_⟩ | with_reducible refine ⟨_, iadd_int, ?_⟩ | with_reducible refine ⟨_, sub_int, ?_⟩ | with_reducible refine ⟨_, lt_int, ?_⟩ | with_reducible refine ⟨_, le_int, ?_⟩ | with_reducible refine ⟨_, gt_int, ?_⟩ | with_reducible refine ⟨_, ge_int, ?_⟩ | with_reducible refine ⟨_, eq_int, ?_⟩
  | with_reducible refine ⟨_, len_lst, ?_⟩ | with_reducible refine ⟨_, len_tup, ?_⟩ | with_reducible refine ⟨_, tru_bl, ?_⟩ | with_reducible refine ⟨_, int_int _, ?_⟩ | with_reducible refine ⟨_, int_bl _, ?_⟩
  | with_reducible refine ⟨_, rfl, ?_⟩ | ((with_reducible refine free_and ?_ ?_); (· first | rfl | assumption); walk_at "n") | with_reducible refine rok_and (by assumption) ?_ | ((with_reducible refine kind_and ?_ ?_); (· first | rfl | assumption)) | ((with_reducible refine size_and ?_ ?_); (· simp only [List.length_cons, List.length_nil, sizeLine_eq]; omega))
  | with_reducible refine ite_y (by assumption) ?_ | with_reducible refine ite_n (by assumption) ?_ | with_reducible refine ite_ny (by assumption) ?_ | with_reducible refine ite_nn (by assumption) ?_ | with_reducible refine ite_bt (by assumption) ?_ | with_reducible refine ite_bf (by assumption) ?_ | with_reducible refine ite_nbt (by assumption) ?_ | with_reducible refine ite_nbf (by assumption) ?_)
local macro_rules | `(tactic| walk_at "r") => `(tactic| repeat walk_at "s")
local macro_rules | `(tactic| walk_at "f") => `(tactic| (refine ⟨rfl, ?_⟩; walk_at "n"))
local macro_rules | `(tactic| walk_at "d") => `(tactic| (with_reducible refine wp_draw' (by assumption) (by omega) (by decide) ?_; intro _ _ _ _ _))
/-! Fi1: pieces of trees, trees filled; walk. -/
mutual
def pre : D → List D
  | .tup xs => .tup xs :: preT xs
  | .str s => [.str s]
  | _ => []
def preT : List D → List D
  | [] => []
  | _ :: r => preL r
def preL : List D → List D
  | [] => []
  | d :: r => pre d ++ preL r
end
mutual
def fillD (f : Str → D) : D → D
  | .str s => f s
  | .tup xs => .tup (fillT f xs)
  | d => d
def fillT (f : Str → D) : List D → List D
  | [] => []
  | w :: r => w :: fillL f r
def fillL (f : Str → D) : List D → List D
  | [] => []
  | d :: r => fillD f d :: fillL f r
end
/-- a tree: texts, or a text with trees behind it -/
inductive TT : D → Prop
  | leaf (s : Str) : TT (.str s)
  | node (w : Str) {r : List D} (h : ∀ x ∈ r, TT x) : TT (.tup (.str w :: r))
theorem Tre.tt {L n : Nat} {d : D} (h : Tre L n d) : TT d := by
  induction h with
  | leaf h =>
    obtain ⟨s, rfl, _⟩ := h
    exact .leaf s
  | node hw hl hr ih =>
    obtain ⟨s, rfl, _⟩ := hw
    exact .node s ih
theorem preL_app : ∀ (a b : List D), preL (a ++ b) = preL a ++ preL b
  | [], _ => rfl
  | d :: a, b => by
    show pre d ++ preL (a ++ b) = pre d ++ preL a ++ preL b
    rw [preL_app a b, List.append_assoc]
theorem fillL_map (f : Str → D) : ∀ r : List D, fillL f r = r.map (fillD f)
  | [] => rfl
  | d :: r => by
    show fillD f d :: fillL f r = _
    rw [fillL_map f r]
    rfl
theorem pre_str (s : Str) : pre (.str s) = [.str s] := rfl
theorem pre_tup (w : D) (r : List D) : pre (.tup (w :: r)) = .tup (w :: r) :: preL r := rfl
theorem preL_cons (d : D) (r : List D) : preL (d :: r) = pre d ++ preL r := rfl
def wkBody : MS := (mSeq (mSet 3 (mPop 2))
    (mSeq (mApp 1 (mVar 3))
    (mIf (mTru (mIs isTupD (mVar 3))) (mExt 2 (mUn (revD (some 0)) (mVar 3))) mNext)))
theorem rev_all (ts : List D) : revD none (.tup ts) = some (.tup ts.reverse) := by
  show some (D.tup (ts.reverse.take (negN ts.length none))) = _
  have : negN ts.length none = ts.length := rfl
  rw [this, List.take_of_length_le (by rw [List.length_reverse]; exact Nat.le_refl _)]
theorem rev_tail (w : D) (r : List D) : revD (some 0) (.tup (w :: r)) = some (.tup r.reverse) := by
  show some (D.tup ((w :: r).reverse.take (negN (w :: r).length (some 0)))) = _
  have : negN (w :: r).length (some 0) = r.reverse.length := by
    rw [List.length_reverse]
    rfl
  rw [this, List.reverse_cons, List.take_left']
  rfl
theorem pre_pos {d : D} (h : TT d) : 0 < (pre d).length := by
  cases h with
  | leaf s => exact Nat.zero_lt_one
  | node w h => exact Nat.succ_pos _
theorem len_pre : ∀ {ws : List D}, (∀ x ∈ ws, TT x) → ws.length ≤ (preL ws).length
  | [], _ => Nat.zero_le _
  | d :: r, h => by
    have a := pre_pos (h d List.mem_cons_self)
    have b := len_pre fun x hx => h x (List.mem_cons_of_mem _ hx)
    rw [preL_cons, List.length_append, List.length_cons]
    omega
theorem e_walk (k : Nat) (ts : List D) (h : ∀ x ∈ ts, TT x) (hl : (preL ts).length < 1000) : cs (k + 1) 30 [.d (.tup ts)] = some (.lst (preL ts), [.d (.tup ts)]) := by
  refine eq_of_wc ?_
  refine (show Wc (defM 1 4 (m_walk (cs k))) _ _ from ?_)
  refine wc_def rfl rfl ?_; walk_at "n"
  unfold m_walk
  have hr := rev_all ts
  have hs : sizeLine = 16777216 := sizeLine_eq
  walk_at "r"
  refine wp_while (wh_inv (fun m e => ∃ fo ws x3, e = [.d (.tup ts), .ol fo, .ol ws, x3] ∧ Plain x3 ∧ (∀ x ∈ ws, TT x) ∧ fo ++ preL ws.reverse = preL ts ∧ m = (preL ws.reverse).length) (preL ts).length _ ⟨[], ts.reverse, .no, rfl, .no, fun x hx => h x (List.mem_reverse.mp hx), by rw [List.reverse_reverse]; rfl, by rw [List.reverse_reverse]⟩ ?_ 1000 hl)
  rintro m e ⟨fo, ws, x3, rfl, h3, hw, he, rfl⟩
  have ht : truD (.lst ws) = some (!ws.isEmpty) := rfl
  refine wp_peekT ?_
  refine wp_tru (wp_var (d := .lst ws) rfl ⟨_, ht, ?_⟩)
  have f3 : ∀ x y : Sl, freeB [.d (.tup ts), x, y, x3] 3 = true := fun x y => by rcases h3 with rfl | ⟨y, rfl⟩ <;> rfl
  rcases List.eq_nil_or_concat ws with rfl | ⟨w0, d, rfl⟩
  · refine ite_f ?_
    walk_at "r"
    have he : fo = preL ts := by rw [← he]; show _ = fo ++ []; rw [List.append_nil]
    exact ⟨by rw [he], rfl⟩
  · rw [List.concat_eq_append] at hw he ⊢
    have hd : TT d := hw d (List.mem_append_right _ List.mem_cons_self)
    have hb : (!(w0 ++ [d]).isEmpty) = true := by cases w0 <;> rfl
    rw [hb]
    refine ite_t ?_
    have e1 : (w0 ++ [d]).reverse = d :: w0.reverse := by rw [List.reverse_append]; rfl
    rw [e1, preL_cons] at he
    have hpos := pre_pos hd
    refine ⟨(pre d).length + (preL w0.reverse).length - 1, by rw [e1, preL_cons, List.length_append]; omega, ?_⟩
    have hlen := congrArg List.length he
    rw [List.length_append, List.length_append] at hlen
    refine wp_seq (wp_set (wp_pop (s := .ol (w0 ++ [d])) (xs := w0) (d := d) rfl rfl ⟨f3 _ _, ?_⟩))
    show seqK _ _ .nx [.d (.tup ts), .ol fo, .ol w0, .d d]
    have hsz : fo.length < sizeLine := by omega
    walk_at "r"
    refine ⟨hsz, ?_⟩
    show seqK _ _ .nx [.d (.tup ts), .ol (fo ++ [d]), .ol w0, .d d]
    cases hd with
    | leaf s =>
      walk_at "r"
      exact ⟨_, by rw [pre_str]; show _ ≤ 1 + (preL w0.reverse).length - 1; omega, fo ++ [.str s], w0, _, rfl, .d _, fun x hx => hw x (List.mem_append_left _ hx), by rw [List.append_assoc]; exact he, rfl⟩
    | @node w r hr =>
      have hrt := rev_tail (.str w) r
      walk_at "r"
      refine wp_ext (s0 := .ol w0) (k0 := w0) rfl rfl ?_
      walk_at "r"
      have hlr : w0.length + r.reverse.length ≤ sizeLine := by
        have a := len_pre (ws := w0.reverse) fun x hx => hw x (List.mem_append_left _ (List.mem_reverse.mp hx))
        have b := len_pre hr
        rw [pre_tup, List.length_cons] at hlen
        rw [List.length_reverse] at a ⊢
        omega
      refine ⟨r.reverse, .ol w0, w0, rfl, rfl, rfl, hlr, ?_⟩
      refine ⟨_, ?_, fo ++ [.tup (.str w :: r)], w0 ++ r.reverse, _, rfl, .d _, fun x hx => ?_, ?_, rfl⟩
      · rw [List.reverse_append, List.reverse_reverse, preL_app, List.length_append, pre_tup, List.length_cons]
        omega
      · rcases List.mem_append.mp hx with z | z
        · exact hw x (List.mem_append_left _ z)
        · exact hr x (List.mem_reverse.mp z)
      · rw [List.reverse_append, List.reverse_reverse, preL_app, List.append_assoc]
        exact he

end Nv

set_option Elab.async false
set_option linter.all false
set_option maxRecDepth 100000
set_option maxHeartbeats 1000000
namespace Nv
open PySem L2 PyProof.Rows PySem.Spec
local macro_rules | `(tactic| walk_at "n") => `(tactic| try simp only [List.set_cons_zero, List.set_cons_succ, List.map_cons, List.map_nil, List.cons_append, List.nil_append, List.replicate, Nat.reduceSub])
local macro_rules | `(tactic| walk_at "s") => `(tactic| first
  | with_reducible refine wp_seq ?_ | with_reducible refine wk_nx ?_ | with_reducible refine wk_rt ?_ | with_reducible refine wt_nx ?_ | with_reducible refine wt_rt ?_ | with_reducible refine wt_bk ?_ | with_reducible refine wt_ct ?_ | with_reducible refine wk_bk ?_ | with_reducible refine wk_ct ?_
  | with_reducible refine wp_if ?_ | with_reducible refine wp_ret ?_ | with_reducible refine wp_next ?_ | with_reducible refine wp_retN ?_ | with_reducible refine wp_set ?_ | with_reducible refine wp_own ?_ | with_reducible refine wp_drop ?_
  | ((with_reducible refine' wp_var ?_ ?_); rotate_left; rfl) | ((with_reducible refine' wp_varL ?_ ?_); rotate_left; rfl) | ((with_reducible refine' wp_app ?_ ?_); rotate_left; rfl) | ((with_reducible refine' wp_lget ?_ ?_ ?_); rotate_left 2; (· rfl); (· rfl)) | with_reducible refine wp_lput ?_ | ((with_reducible refine' wp_lown ?_ ?_ ?_); rotate_left; (· rfl); (· rfl)) | ((with_reducible refine' wp_fown ?_ ?_ ?_); rotate_left; (· rfl); (· rfl)) | with_reducible refine wp_c ?_ | with_reducible refine wp_op ?_ | with_reducible refine wp_un ?_ | with_reducible refine wp_cb ?_ | with_reducible refine wp_cons ?_ | with_reducible refine wp_nil ?_
  | with_reducible refine wp_bl ?_ | with_reducible refine wp_tru ?_ | with_reducible refine wp_not ?_ | with_reducible refine wp_and ?_ | with_reducible refine wp_or ?_ | with_reducible refine wp_andV ?_ | with_reducible refine wp_orV ?_ | with_reducible refine wp_notV ?_
  | with_reducible refine wp_chain ?_ | with_reducible refine wp_sz ?_ | with_reducible refine wp_lst ?_ | with_reducible refine wp_tup ?_ | with_reducible refine wp_is ?_ | with_reducible refine wp_onone ?_ | with_reducible refine wp_osome ?_ | with_reducible refine wp_sl ?_ | with_reducible refine wp_m1 ?_
  | with_reducible refine wp_all ?_ | with_reducible refine wp_repr ?_ | with_reducible refine wp_peek ?_ | with_reducible refine wp_peekT ?_ | with_reducible refine wp_addF ?_ | with_reducible refine wp_ilist ?_ | with_reducible refine wp_itup ?_ | with_reducible refine wp_istr ?_ | with_reducible refine wp_irng ?_ | with_reducible refine wp_list ?_ | with_reducible refine wp_listS ?_
  | with_reducible refine wp_for ?_ | with_reducible refine wp_call ?_ | with_reducible refine wp_callK ?_ | with_reducible refine wp_lnil ?_ | with_reducible refine wp_ldat ?_ | with_reducible refine wp_callL ?_ | with_reducible refine wp_flast ?_ | with_reducible refine wp_fdat ?_ | with_reducible refine wp_callF ?_
  | with_reducible refine ⟨_, (by assumption : _ = some _), ?_⟩
  | ((with_reducible refine' call_and ?_ ?_ ?_); rotate_left 2; (· rfl); (· assumption)) | ((with_reducible refine' callk_and ?_ ?_ ?_); rotate_left 2; (· exact ⟨rfl, rfl⟩); (· assumption))
  | refine ite_t ?_ | refine ite_f ?_ | refine ite_nt ?_ | refine ite_nf ?_
  | with_reducible refine ⟨_, add_int, ?_⟩ | with_reducible refine ⟨_, iadd_int, ?_⟩ | with_reducible refine ⟨_, sub_int, ?_⟩ | with_reducible refine ⟨_, lt_int, ?_⟩ | with_reducible refine ⟨_, le_int, ?_⟩ | with_reducible refine ⟨_, gt_int, ?_⟩ | with_reducible refine ⟨_, ge_int, ?_⟩ | with_reducible refine ⟨_, eq_int, ?_⟩
  | with_reducible refine ⟨_, len_lst, ?_⟩ | with_reducible refine ⟨_, len_tup, ?_⟩ | with_reducible refine ⟨_, tru_bl, ?_⟩ | with_reducible refine ⟨_, int_int _, ?_⟩ | with_reducible refine ⟨_, int_bl _, ?_⟩
  | with_reducible refine ⟨_, rfl, ?_⟩ | ((with_reducible refine free_and ?_ ?_); (· first | rfl | assumption); walk_at "n") | with_reducible refine rok_and (by assumption) ?_ | ((with_reducible refine kind_and ?_ ?_); (· first | rfl | assumption)) | ((with_reducible refine size_and ?_ ?_); (· simp only [List.length_cons, List.length_nil, sizeLine_eq]; omega))
  | with_reducible refine ite_y (by assumption) ?_ | with_reducible refine ite_n (by assumption) ?_ | with_reducible refine ite_ny (by assumption) ?_ | with_reducible refine ite_nn (by assumption) ?_ | with_reducible refine ite_bt (by assumption) ?_ | with_reducible refine ite_bf (by assumption) ?_ | with_reducible refine ite_nbt (by assumption) ?_ | with_reducible refine ite_nbf (by assumption) ?_)
local macro_rules | `(tactic| walk_at "r") => `(tactic| repeat walk_at "s")
local macro_rules | `(tactic| walk_at "f") => `(tactic| (refine ⟨rfl, ?_⟩; walk_at "n"))
local macro_rules | `(tactic| walk_at "d") => `(tactic| (with_reducible refine wp_draw' (by assumption) (by omega) (by decide) ?_; intro _ _ _ _ _))
/-! Fi2: filled, filled_all. -/
def lookF (kvs : List (Key × D)) (s : Str) : D := (valD kvs (.inr s)).getD (.str s)
def flBody : MS := (mIf (mTru (mIs isStrD (mVar 3))) (mApp 2 (mIf (mBl (mOp (inDct fun b => b) (mVar 3) (mVar 1))) (mDIx (mVar 1) (mVar 3)) (mVar 3))) (mSeq (mSet 4 (mOp (intD fun i j => some (.int (i - j))) (mCb lenD (mCons (mVar 3) mNil)) (mC (.int 1))))
    (mSeq (mSet 5 (mUn revLD (mLSl 2 (mOSome (mOp (intD fun i j => some (.int (i - j))) (mPeek (mCb lenD (mCons (mVar 2) mNil))) (mVar 4))) mONone)))
    (mSeq (mDelSl 2 (mOp (intD fun i j => some (.int (i - j))) (mPeek (mCb lenD (mCons (mVar 2) mNil))) (mVar 4)))
    (mApp 2 (mTup (mCons (mOp ixD (mVar 3) (mC (.int 0))) (mStar (mVar 5) mNil))))))))
theorem cut_from {α : Type} (a b : List α) : cut (a ++ b) (some ((a ++ b).length - b.length : Int)) none = b := by
  have e : (((a ++ b).length : Int) - b.length) = (a.length : Int) := by rw [List.length_append]; omega
  rw [e]
  rw [cut_drop, List.drop_left]
section
variable {t : D} {kvs : List (Key × D)} {R : Out → Env → Prop}
/-- what the pieces d of the list do to what is held -/
def Does (t : D) (kvs : List (Key × D)) (ps : List D) (vs : List D) : Prop := ∀ (held rest : List D) (x3 x4 x5 : Sl) (R : Out → Env → Prop), held.length + ps.length ≤ 1000 → Plain x3 → Plain x4 → Plain x5 →
  (∀ y3 y4 y5, Plain y3 → Plain y4 → Plain y5 → Wp (forGo 3 flBody rest) [.d t, .d (.dct kvs), .ol (held ++ vs), y3, y4, y5] R) → Wp (forGo 3 flBody (ps ++ rest)) [.d t, .d (.dct kvs), .ol held, x3, x4, x5] R
theorem Does.nil : Does t kvs [] [] := fun held rest x3 x4 x5 R hl h3 h4 h5 k => by
  have := k x3 x4 x5 h3 h4 h5
  rw [List.append_nil] at this
  exact this
theorem Does.app {ps qs vs us : List D} (h : Does t kvs ps vs) (g : Does t kvs qs us) (hv : vs.length ≤ ps.length) : Does t kvs (ps ++ qs) (vs ++ us) := fun held rest x3 x4 x5 R hl h3 h4 h5 k => by
  rw [List.length_append] at hl
  rw [List.append_assoc]
  refine h held _ _ _ _ R (by omega) h3 h4 h5 fun y3 y4 y5 k3 k4 k5 => ?_
  refine g _ _ _ _ _ R (by rw [List.length_append]; omega) k3 k4 k5 fun z3 z4 z5 l3 l4 l5 => ?_
  rw [List.append_assoc]
  exact k z3 z4 z5 l3 l4 l5
theorem free3 {x3 x4 x5 y : Sl} (h : Plain x3) : freeB [.d t, .d (.dct kvs), y, x3, x4, x5] 3 = true := by rcases h with rfl | ⟨y, rfl⟩ <;> rfl
theorem does_str (s : Str) : Does t kvs [.str s] [lookF kvs s] := fun held rest x3 x4 x5 R hl h3 h4 h5 k => by
  have hl : held.length + 1 ≤ 1000 := hl
  have hs : sizeLine = 16777216 := sizeLine_eq
  have hz : held.length < sizeLine := by omega
  refine for_cons1 (free3 h3) ?_
  walk_at "n"
  have hi : inDct (fun b => b) (.str s) (.dct kvs) = some (.bl (valD kvs (.inr s)).isSome) := rfl
  unfold flBody
  cases hv : valD kvs (.inr s) with
  | none =>
    rw [hv] at hi
    have hi : inDct (fun b => b) (.str s) (.dct kvs) = some (.bl false) := hi
    have hf : lookF kvs s = .str s := by unfold lookF; rw [hv]; rfl
    walk_at "r"
    refine ⟨hz, ?_⟩
    walk_at "r"
    rw [← hf]
    exact k _ _ _ (.d _) h4 h5
  | some d =>
    rw [hv] at hi
    have hi : inDct (fun b => b) (.str s) (.dct kvs) = some (.bl true) := hi
    have hf : lookF kvs s = d := by unfold lookF; rw [hv]; rfl
    walk_at "r"
    refine wp_dix ?_
    walk_at "r"
    refine ⟨.inr s, d, rfl, hv, _, rfl, hz, ?_⟩
    walk_at "r"
    rw [← hf]
    exact k _ _ _ (.d _) h4 h5
theorem fill_str (f : Str → D) (s : Str) : fillD f (.str s) = f s := rfl
theorem fill_tup (f : Str → D) (w : D) (r : List D) : fillD f (.tup (w :: r)) = .tup (w :: fillL f r) := rfl
theorem fillL_len (f : Str → D) (r : List D) : (fillL f r).length = r.length := by rw [fillL_map, List.length_map]
theorem does_list : ∀ {ds : List D}, (∀ d ∈ ds, TT d ∧ Does t kvs (pre d).reverse [fillD (lookF kvs) d]) → Does t kvs (preL ds).reverse (fillL (lookF kvs) ds).reverse
  | [], _ => Does.nil
  | d :: r, h => by
    have ih := does_list (ds := r) fun x hx => h x (List.mem_cons_of_mem _ hx)
    have hd := (h d List.mem_cons_self).2
    have lr := len_pre (ws := r) fun x hx => (h x (List.mem_cons_of_mem _ hx)).1
    rw [preL_cons, List.reverse_append]
    show Does t kvs _ (fillD (lookF kvs) d :: fillL (lookF kvs) r).reverse
    rw [List.reverse_cons]
    exact ih.app hd (by rw [List.length_reverse, List.length_reverse, fillL_len]; exact lr)
theorem does_node (w : Str) {r : List D} (hr : ∀ x ∈ r, TT x) (h : Does t kvs (preL r).reverse (fillL (lookF kvs) r).reverse) : Does t kvs (pre (.tup (.str w :: r))).reverse [fillD (lookF kvs) (.tup (.str w :: r))] := fun held rest x3 x4 x5 R hl h3 h4 h5 k => by
  rw [pre_tup, List.reverse_cons] at hl ⊢
  rw [List.length_append, List.length_reverse] at hl
  have hl : held.length + ((preL r).length + 1) ≤ 1000 := hl
  have lr := len_pre hr
  have hs : sizeLine = 16777216 := sizeLine_eq
  rw [List.append_assoc]
  refine h held _ _ _ _ R (by rw [List.length_reverse]; omega) h3 h4 h5 fun y3 y4 y5 k3 k4 k5 => ?_
  refine for_cons1 (free3 k3) ?_
  walk_at "n"
  have lf : (fillL (lookF kvs) r).reverse.length = r.length := by rw [List.length_reverse, fillL_len]
  generalize hF : (fillL (lookF kvs) r).reverse = F at lf ⊢
  have hF' : F.reverse = fillL (lookF kvs) r := by rw [← hF, List.reverse_reverse]
  have e1 : (((D.str w :: r).length : Nat) : Int) - 1 = (r.length : Int) := by rw [List.length_cons]; omega
  have f4 : ∀ x y : Sl, freeB [.d t, .d (.dct kvs), x, y, y4, y5] 4 = true := fun x y => by rcases k4 with rfl | ⟨y, rfl⟩ <;> rfl
  have f5 : ∀ x y z : Sl, freeB [.d t, .d (.dct kvs), x, y, z, y5] 5 = true := fun x y z => by rcases k5 with rfl | ⟨y, rfl⟩ <;> rfl
  unfold flBody
  refine wp_if (wp_tru (wp_is (wp_var (d := .tup (.str w :: r)) rfl ⟨rfl, _, rfl, ite_f ?_⟩)))
  refine wp_seq (wp_set (wp_op (wp_cb (wp_cons (wp_var (d := .tup (.str w :: r)) rfl (wp_nil ⟨_, len_tup, wp_c ⟨_, sub_int, f4 _ _, ?_⟩⟩))))))
  rw [e1]
  show seqK _ _ .nx [.d t, .d (.dct kvs), .ol (held ++ F), .d (.tup (.str w :: r)), .d (.int r.length), y5]
  have e2 : (((held ++ F).length : Nat) : Int) - (r.length : Int) = ((held ++ F).length : Int) - (F.length : Int) := by rw [lf]
  have e3 : (((held ++ F).length : Nat) : Int) - (r.length : Int) = (held.length : Int) := by rw [List.length_append, lf]; omega
  refine wp_seq (wp_set (wp_un (wp_lsl (s0 := .ol (held ++ F)) (k0 := held ++ F) rfl rfl (wp_osome (wp_op (wp_peek (wp_cb (wp_cons (wp_var (d := .lst (held ++ F)) rfl (wp_nil ⟨_, len_lst, rfl, wp_var (d := .int r.length) rfl ⟨_, sub_int, _, rfl, wp_onone ⟨.ol (held ++ F), held ++ F, rfl, rfl, ?_⟩⟩⟩))))))))))
  rw [e2, cut_from, show revLD (.lst F) = some (.lst F.reverse) from rfl, hF']
  refine ⟨_, rfl, f5 _ _ _, ?_⟩
  show seqK _ _ .nx [.d t, .d (.dct kvs), .ol (held ++ F), .d (.tup (.str w :: r)), .d (.int r.length), .d (.lst (fillL (lookF kvs) r))]
  refine wp_seq (wp_delSl (s0 := .ol (held ++ F)) (k0 := held ++ F) rfl rfl (wp_op (wp_peek (wp_cb (wp_cons (wp_var (d := .lst (held ++ F)) rfl (wp_nil ⟨_, len_lst, rfl, wp_var (d := .int r.length) rfl ⟨_, sub_int, ((held ++ F).length : Int) - r.length, .ol (held ++ F), held ++ F, rfl, rfl, rfl, ?_, ?_⟩⟩)))))))
  · rw [e3, List.length_append]
    omega
  rw [e3, Int.toNat_natCast, List.take_left]
  show seqK _ _ .nx [.d t, .d (.dct kvs), .ol held, .d (.tup (.str w :: r)), .d (.int r.length), .d (.lst (fillL (lookF kvs) r))]
  refine wp_app (ys := held) rfl (wp_tup (wp_cons (wp_op (wp_var (d := .tup (.str w :: r)) rfl (wp_c ⟨.str w, tup_ix0 _ _, wp_star (wp_var (d := .lst (fillL (lookF kvs) r)) rfl ⟨_, rfl, wp_nil ⟨?_, held, rfl, by omega, ?_⟩⟩)⟩)))))
  · rw [List.append_nil, List.length_cons, fillL_len]
    omega
  rw [List.append_nil]
  exact k _ _ _ (.d _) (.d _) (.d _)
theorem does_tree {d : D} (h : TT d) : Does t kvs (pre d).reverse [fillD (lookF kvs) d] := by
  induction h with
  | leaf s => exact does_str s
  | node w hr ih => exact does_node w hr (does_list fun x hx => ⟨hr x hx, ih x hx⟩)
end
theorem e_filled (k : Nat) {t : D} (h : TT t) (hl : (pre t).length < 1000) (kvs : List (Key × D)) : cs (k + 2) 39 [.d t, .d (.dct kvs)] = some (fillD (lookF kvs) t, [.d t, .d (.dct kvs)]) := by
  refine eq_of_wc ?_
  refine (show Wc (defM 2 6 (m_filled (cs (k + 1)))) _ _ from ?_)
  refine wc_def rfl rfl ?_; walk_at "n"
  have hp : preL [t] = pre t := List.append_nil _
  have hw := e_walk k [t] (fun x hx => by rw [List.mem_singleton.mp hx]; exact h) (by rw [hp]; exact hl)
  rw [hp] at hw
  have hs : sizeLine = 16777216 := sizeLine_eq
  have hg := does_tree (t := t) (kvs := kvs) h
  unfold m_filled
  generalize cs (k + 1) 30 = c30 at hw
  walk_at "r"
  have := hg [] [] .no .no .no
  rw [List.append_nil] at this
  refine this _ (by rw [List.length_reverse]; show 0 + _ ≤ _; omega) .no .no .no fun y3 y4 y5 k3 k4 k5 => ?_
  refine for_nil ?_
  walk_at "r"
  exact ⟨_, [fillD (lookF kvs) t], 0, fillD (lookF kvs) t, rfl, rfl, rfl, rfl, rfl, rfl⟩

end Nv

set_option Elab.async false
set_option linter.all false
set_option maxRecDepth 100000
set_option maxHeartbeats 1000000
namespace Nv
open PySem L2 PyProof.Rows PySem.Spec
local macro_rules | `(tactic| walk_at "n") => `(tactic| try simp only [List.set_cons_zero, List.set_cons_succ, List.map_cons, List.map_nil, List.cons_append, List.nil_append, List.replicate, Nat.reduceSub])
local macro_rules | `(tactic| walk_at "s") => `(tactic| first
  | with_reducible refine wp_seq ?_ | with_reducible refine wk_nx ?_ | with_reducible refine wk_rt ?_ | with_reducible refine wt_nx ?_ | with_reducible refine wt_rt ?_ | with_reducible refine wt_bk ?_ | with_reducible refine wt_ct ?_ | with_reducible refine wk_bk ?_ | with_reducible refine wk_ct ?_
  | with_reducible refine wp_if ?_ | with_reducible refine wp_ret ?_ | with_reducible refine wp_next ?_ | with_reducible refine wp_retN ?_ | with_reducible refine wp_set ?_ | with_reducible refine wp_own ?_ | with_reducible refine wp_drop ?_
  | ((with_reducible refine' wp_var ?_ ?_); rotate_left; rfl) | ((with_reducible refine' wp_varL ?_ ?_); rotate_left; rfl) | ((with_reducible refine' wp_app ?_ ?_); rotate_left; rfl) | ((with_reducible refine' wp_lget ?_ ?_ ?_); rotate_left 2; (· rfl); (· rfl)) | with_reducible refine wp_lput ?_ | ((with_reducible refine' wp_lown ?_ ?_ ?_); rotate_left; (· rfl); (· rfl)) | ((with_reducible refine' wp_fown ?_ ?_ ?_); rotate_left; (· rfl); (· rfl)) | with_reducible refine wp_c ?_ | with_reducible refine wp_op ?_ | with_reducible refine wp_un ?_ | with_reducible refine wp_cb ?_ | with_reducible refine wp_cons ?_ | with_reducible refine wp_nil ?_
  | with_reducible refine wp_bl ?_ | with_reducible refine wp_tru ?_ | with_reducible refine wp_not ?_ | with_reducible refine wp_and ?_ | with_reducible refine wp_or ?_ | with_reducible refine wp_andV ?_ | with_reducible refine wp_orV ?_ | with_reducible refine wp_notV ?_
  | with_reducible refine wp_chain ?_ | with_reducible refine wp_sz ?_ | with_reducible refine wp_lst ?_ | with_reducible refine wp_tup ?_ | with_reducible refine wp_is ?_ | with_reducible refine wp_onone ?_ | with_reducible refine wp_osome ?_ | with_reducible refine wp_sl ?_ | with_reducible refine wp_m1 ?_
  | with_reducible refine wp_all ?_ | with_reducible refine wp_repr ?_ | with_reducible refine wp_peek ?_ | with_reducible refine wp_peekT ?_ | with_reducible refine wp_addF ?_ | with_reducible refine wp_ilist ?_ | with_reducible refine wp_itup ?_ | with_reducible refine wp_istr ?_ | with_reducible refine wp_irng ?_ | with_reducible refine wp_list ?_ | with_reducible refine wp_listS ?_
  | with_reducible refine wp_for ?_ | with_reducible refine wp_call ?_ | with_reducible refine wp_callK ?_ | with_reducible refine wp_lnil ?_ | with_reducible refine wp_ldat ?_ | with_reducible refine wp_callL ?_ | with_reducible refine wp_flast ?_ | with_reducible refine wp_fdat ?_ | with_reducible refine wp_callF ?_
  | with_reducible refine ⟨_, (by assumption : _ = some _), ?_⟩
  | ((with_reducible refine' call_and ?_ ?_ ?_); rotate_left 2; (· rfl); (· assumption)) | ((with_reducible refine' callk_and ?_ ?_ ?_); rotate_left 2; (· exact ⟨rfl, rfl⟩); (· assumption))
  | refine ite_t ?_ | refine ite_f ?_ | refine ite_nt ?_ | refine ite_nf ?_
  | with_reducible refine ⟨_, add_int, ?_⟩ | with_reducible refine ⟨_, iadd_int, ?_⟩ | with_reducible refine ⟨_, sub_int, ?_⟩ | with_reducible refine ⟨_, lt_int, ?_⟩ | with_reducible refine ⟨_, le_int, ?_⟩ | with_reducible refine ⟨_, gt_int, ?_⟩ | with_reducible refine ⟨_, ge_int, ?_⟩ | with_reducible refine ⟨_, eq_int, ?_⟩
  | with_reducible refine ⟨_, len_lst, ?_⟩ | with_reducible refine ⟨_, len_tup, ?_⟩ | with_reducible refine ⟨_, tru_bl, ?_⟩ | with_reducible refine ⟨_, int_int _, ?_⟩ | with_reducible refine ⟨_, int_bl _, ?_⟩
  | with_reducible refine ⟨_, rfl, ?_⟩ | ((with_reducible refine free_and ?_ ?_); (· first | rfl | assumption); walk_at "n") | with_reducible refine rok_and (by assumption) ?_ | ((with_reducible refine kind_and ?_ ?_); (· first | rfl | assumption)) | ((with_reducible refine size_and ?_ ?_); (· simp only [List.length_cons, List.length_nil, sizeLine_eq]; omega))
  | with_reducible refine ite_y (by assumption) ?_ | with_reducible refine ite_n (by assumption) ?_ | with_reducible refine ite_ny (by assumption) ?_ | with_reducible refine ite_nn (by assumption) ?_ | with_reducible refine ite_bt (by assumption) ?_ | with_reducible refine ite_bf (by assumption) ?_ | with_reducible refine ite_nbt (by assumption) ?_ | with_reducible refine ite_nbf (by assumption) ?_)
local macro_rules | `(tactic| walk_at "r") => `(tactic| repeat walk_at "s")
local macro_rules | `(tactic| walk_at "f") => `(tactic| (refine ⟨rfl, ?_⟩; walk_at "n"))
local macro_rules | `(tactic| walk_at "d") => `(tactic| (with_reducible refine wp_draw' (by assumption) (by omega) (by decide) ?_; intro _ _ _ _ _))
/-! Fi3: filled_all; the law's own filled, pieces. -/
theorem ids_same {α β : Type} {f : α → β} {g : α → β} {l : List α} (h : ∀ x ∈ l, f x = g x) : l.map f = l.map g := List.map_congr_left h
/-- a comprehension over known things whose answers are known -/
theorem wp_lcmap {j : Nat} {it : M (List D)} {m : M D} {f : D → D} {e e1 : Env} {ds : List D} {Q : List D → Env → Prop} (hi : it e = some (ds, e1)) (hj : e1[j]? = some .no) (hl : ds.length ≤ sizeLine) (h : ∀ d ∈ ds, Wp m (e1.set j (.d d)) fun x e2 => x = f d ∧ e2 = e1.set j (.d d)) (k : Q (ds.map f) e1) : Wp (mLc it mYes m j) e Q := by
  refine wp_lc ⟨ds, e1, hi, hj, ds.map f, e1, ?_, k⟩
  have := lc_map (m := m) (f := f) hj ds [] (fun d hd => by
    obtain ⟨x, e2, a, b, c⟩ := h d hd
    rw [a, b, c]) (by rw [List.length_nil]; omega)
  rw [List.nil_append] at this
  exact this
theorem e_filled_all (k : Nat) {ts : List D} (h : ∀ t ∈ ts, TT t ∧ (pre t).length < 1000) (hl : ts.length ≤ 1000) (kvs : List (Key × D)) : cs (k + 3) 40 [.d (.tup ts), .d (.dct kvs)] = some (.tup (fillL (lookF kvs) ts), [.d (.tup ts), .d (.dct kvs)]) := by
  refine eq_of_wc ?_
  refine (show Wc (defM 2 3 (m_filled_all (cs (k + 2)))) _ _ from ?_)
  refine wc_def rfl rfl ?_; walk_at "n"
  have hs : sizeLine = 16777216 := sizeLine_eq
  have hf : ∀ t ∈ ts, cs (k + 2) 39 [.d t, .d (.dct kvs)] = some (fillD (lookF kvs) t, [.d t, .d (.dct kvs)]) := fun t ht => e_filled k (h t ht).1 (h t ht).2 kvs
  unfold m_filled_all
  generalize cs (k + 2) 39 = c39 at hf
  refine wp_ret (wp_cb (wp_cons (wp_lst (wp_lcmap (f := fillD (lookF kvs)) (ds := ts) rfl rfl (by omega) (fun d hd => ?_) (wp_nil ⟨_, tup_lst _, ?_⟩)))))
  · have := hf d hd
    walk_at "n"
    walk_at "r"
    exact ⟨rfl, rfl⟩
  · rw [← fillL_map]
    exact ⟨rfl, rfl⟩
theorem sl_tail (w : D) (r : List D) : slD (.tup (w :: r)) (some 1) none = some (.tup r) := by
  show some (D.tup (cut (w :: r) (some 1) none)) = _
  rw [cut1]
  rfl
def lfBody (c : Nat → Fm) : MS := m__law_filled c
theorem lf_str (c : Nat → Fm) (kvs : List (Key × D)) (s : Str) : defM 2 3 (m__law_filled c) [.d (.str s), .d (.dct kvs)] = some (fillD (lookF kvs) (.str s), [.d (.str s), .d (.dct kvs)]) := by
  refine eq_of_wc ?_
  refine wc_def rfl rfl ?_; walk_at "n"
  unfold m__law_filled
  walk_at "r"
  refine wp_dget2 (wp_var (d := .dct kvs) rfl ⟨kvs, rfl, wp_var (d := .str s) rfl ⟨.inr s, rfl, wp_var (d := .str s) rfl ?_⟩⟩)
  exact ⟨rfl, rfl⟩
theorem lf_tup (c : Nat → Fm) (kvs : List (Key × D)) (w : Str) {r : List D} (hl : r.length ≤ 1000) (h : ∀ x ∈ r, c 41 [.d x, .d (.dct kvs)] = some (fillD (lookF kvs) x, [.d x, .d (.dct kvs)])) : defM 2 3 (m__law_filled c) [.d (.tup (.str w :: r)), .d (.dct kvs)] = some (fillD (lookF kvs) (.tup (.str w :: r)), [.d (.tup (.str w :: r)), .d (.dct kvs)]) := by
  refine eq_of_wc ?_
  refine wc_def rfl rfl ?_; walk_at "n"
  have hs : sizeLine = 16777216 := sizeLine_eq
  have h0 := tup_ix0 (.str w) r
  have h1 := sl_tail (.str w) r
  unfold m__law_filled
  generalize c 41 = c41 at h
  walk_at "r"
  refine wp_lcmap (f := fillD (lookF kvs)) (ds := r) (e1 := [.d (.tup (.str w :: r)), .d (.dct kvs), .no]) ?_ rfl (by omega) (fun d hd => ?_) ?_
  · show ((some (D.tup (cut (.str w :: r) (some 1) none), _)).bind _ : Option _) = _
    rw [cut1]
    rfl
  · have := h d hd
    walk_at "n"
    walk_at "r"
    exact ⟨rfl, rfl⟩
  · have ha : addD (.tup [.str w]) (.tup (r.map (fillD (lookF kvs)))) = some (.tup (.str w :: r.map (fillD (lookF kvs)))) := if_pos (by rw [List.length_map, List.length_cons, List.length_nil]; omega)
    walk_at "r"
    refine ⟨?_, rfl⟩
    rw [fill_tup, fillL_map]
theorem e_lfilled {L : Nat} (kvs : List (Key × D)) : ∀ (n k : Nat) {t : D}, Tre L n t → cs (k + n + 1) 41 [.d t, .d (.dct kvs)] = some (fillD (lookF kvs) t, [.d t, .d (.dct kvs)]) := fun n => by
  induction n with
  | zero =>
    intro k t h
    cases h with
    | leaf h =>
      obtain ⟨s, rfl, _⟩ := h
      exact lf_str (cs k) kvs s
  | succ n ih =>
    intro k t h
    cases h with
    | leaf h =>
      obtain ⟨s, rfl, _⟩ := h
      exact lf_str (cs (k + (n + 1))) kvs s
    | @node _ w r hw hl hr =>
      obtain ⟨s, rfl, _⟩ := hw
      exact lf_tup (cs (k + n + 1)) kvs s (by omega) fun x hx => ih k (hr x hx)
theorem e_lall {L : Nat} (kvs : List (Key × D)) (n k : Nat) {ts : List D} (h : ∀ t ∈ ts, Tre L n t) (hl : ts.length ≤ 1000) : cs (k + n + 2) 43 [.d (.tup ts), .d (.dct kvs)] = some (.tup (fillL (lookF kvs) ts), [.d (.tup ts), .d (.dct kvs)]) := by
  refine eq_of_wc ?_
  refine (show Wc (defM 2 3 (m__law_all_filled (cs (k + n + 1)))) _ _ from ?_)
  refine wc_def rfl rfl ?_; walk_at "n"
  have hs : sizeLine = 16777216 := sizeLine_eq
  have hf : ∀ t ∈ ts, cs (k + n + 1) 41 [.d t, .d (.dct kvs)] = some (fillD (lookF kvs) t, [.d t, .d (.dct kvs)]) := fun t ht => e_lfilled kvs n k (h t ht)
  unfold m__law_all_filled
  generalize cs (k + n + 1) 41 = c41 at hf
  refine wp_ret (wp_cb (wp_cons (wp_lst (wp_lcmap (f := fillD (lookF kvs)) (ds := ts) rfl rfl (by omega) (fun d hd => ?_) (wp_nil ⟨_, tup_lst _, ?_⟩)))))
  · have := hf d hd
    walk_at "n"
    walk_at "r"
    exact ⟨rfl, rfl⟩
  · rw [← fillL_map]
    exact ⟨rfl, rfl⟩

end Nv

set_option Elab.async false
set_option linter.all false
set_option maxRecDepth 100000
set_option maxHeartbeats 1000000
namespace Nv
open PySem L2 PyProof.Rows PySem.Spec
local macro_rules | `(tactic| walk_at "n") => `(tactic| try simp only [List.set_cons_zero, List.set_cons_succ, List.map_cons, List.map_nil, List.cons_append, List.nil_append, List.replicate, Nat.reduceSub])
local macro_rules | `(tactic| walk_at "s") => `(tactic| first
  | with_reducible refine wp_seq ?_ | with_reducible refine wk_nx ?_ | with_reducible refine wk_rt ?_ | with_reducible refine wt_nx ?_ | with_reducible refine wt_rt ?_ | with_reducible refine wt_bk ?_ | with_reducible refine wt_ct ?_ | with_reducible refine wk_bk ?_ | with_reducible refine wk_ct ?_
  | with_reducible refine wp_if ?_ | with_reducible refine wp_ret ?_ | with_reducible refine wp_next ?_ | with_reducible refine wp_retN ?_ | with_reducible refine wp_set ?_ | with_reducible refine wp_own ?_ | with_reducible refine wp_drop ?_
  | ((with_reducible refine' wp_var ?_ ?_); rotate_left; rfl) | ((with_reducible refine' wp_varL ?_ ?_); rotate_left; rfl) | ((with_reducible refine' wp_app ?_ ?_); rotate_left; rfl) | ((with_reducible refine' wp_lget ?_ ?_ ?_); rotate_left 2; (· rfl); (· rfl)) | with_reducible refine wp_lput ?_ | ((with_reducible refine' wp_lown ?_ ?_ ?_); rotate_left; (· rfl); (· rfl)) | ((with_reducible refine' wp_fown ?_ ?_ ?_); rotate_left; (· rfl); (· rfl)) | with_reducible refine wp_c ?_ | with_reducible refine wp_op ?_ | with_reducible refine wp_un ?_ | with_reducible refine wp_cb ?_ | with_reducible refine wp_cons ?_ | with_reducible refine wp_nil ?_
  | with_reducible refine wp_bl ?_ | with_reducible refine wp_tru ?_ | with_reducible refine wp_not ?_ | with_reducible refine wp_and ?_ | with_reducible refine wp_or ?_ | with_reducible refine wp_andV ?_ | with_reducible refine wp_orV ?_ | with_reducible refine wp_notV ?_
  | with_reducible refine wp_chain ?_ | with_reducible refine wp_sz ?_ | with_reducible refine wp_lst ?_ | with_reducible refine wp_tup ?_ | with_reducible refine wp_is ?_ | with_reducible refine wp_onone ?_ | with_reducible refine wp_osome ?_ | with_reducible refine wp_sl ?_ | with_reducible refine wp_m1 ?_
  | with_reducible refine wp_all ?_ | with_reducible refine wp_repr ?_ | with_reducible refine wp_peek ?_ | with_reducible refine wp_peekT ?_ | with_reducible refine wp_addF ?_ | with_reducible refine wp_ilist ?_ | with_reducible refine wp_itup ?_ | with_reducible refine wp_istr ?_ | with_reducible refine wp_irng ?_ | with_reducible refine wp_list ?_ | with_reducible refine wp_listS ?_
  | with_reducible refine wp_for ?_ | with_reducible refine wp_call ?_ | with_reducible refine wp_callK ?_ | with_reducible refine wp_lnil ?_ | with_reducible refine wp_ldat ?_ | with_reducible refine wp_callL ?_ | with_reducible refine wp_flast ?_ | with_reducible refine wp_fdat ?_ | with_reducible refine wp_callF ?_
  | with_reducible refine ⟨_, (by assumption : _ = some _), ?_⟩
  | ((with_reducible refine' call_and ?_ ?_ ?_); rotate_left 2; (· rfl); (· assumption)) | ((with_reducible refine' callk_and ?_ ?_ ?_); rotate_left 2; (· exact ⟨rfl, rfl⟩); (· assumption))
  | refine ite_t ?_ | refine ite_f ?_ | refine ite_nt ?_ | refine ite_nf ?_
  | with_reducible refine ⟨_, add_int, ?_⟩ | with_reducible refine ⟨_, iadd_int, ?_⟩ | with_reducible refine ⟨_, sub_int, ?_⟩ | with_reducible refine ⟨_, lt_int, ?_⟩ | with_reducible refine ⟨_, le_int, ?_⟩ | with_reducible refine ⟨_, gt_int, ?_⟩ | with_reducible refine ⟨_, ge_int, ?_⟩ | with_reducible refine ⟨_, eq_int, ?_⟩
  | with_reducible refine ⟨_, len_lst, ?_⟩ | with_reducible refine ⟨_, len_tup, ?_⟩ | with_reducible refine ⟨_, tru_bl, ?_⟩ | with_reducible refine ⟨_, int_int _, ?_⟩ | with_reducible refine ⟨_, int_bl _, ?_⟩
  | with_reducible refine ⟨_, rfl, ?_⟩ | ((with_reducible refine free_and ?_ ?_); (· first | rfl | assumption); walk_at "n") | with_reducible refine rok_and (by assumption) ?_ | ((with_reducible refine kind_and ?_ ?_); (· first | rfl | assumption)) | ((with_reducible refine size_and ?_ ?_); (· simp only [List.length_cons, List.length_nil, sizeLine_eq]; omega))
  | with_reducible refine ite_y (by assumption) ?_ | with_reducible refine ite_n (by assumption) ?_ | with_reducible refine ite_ny (by assumption) ?_ | with_reducible refine ite_nn (by assumption) ?_ | with_reducible refine ite_bt (by assumption) ?_ | with_reducible refine ite_bf (by assumption) ?_ | with_reducible refine ite_nbt (by assumption) ?_ | with_reducible refine ite_nbf (by assumption) ?_)
local macro_rules | `(tactic| walk_at "r") => `(tactic| repeat walk_at "s")
local macro_rules | `(tactic| walk_at "f") => `(tactic| (refine ⟨rfl, ?_⟩; walk_at "n"))
local macro_rules | `(tactic| walk_at "d") => `(tactic| (with_reducible refine wp_draw' (by assumption) (by omega) (by decide) ?_; intro _ _ _ _ _))
/-! Fi4: the law's pieces and variables; the program's variables. -/
theorem lp_str (c : Nat → Fm) (s : Str) : defM 1 3 (m__law_pieces c) [.d (.str s)] = some (.lst (pre (.str s)), [.d (.str s)]) := by
  refine eq_of_wc ?_
  refine wc_def rfl rfl ?_; walk_at "n"
  have hs : sizeLine = 16777216 := sizeLine_eq
  unfold m__law_pieces
  walk_at "r"
  exact ⟨rfl, rfl⟩
theorem lp_tup (c : Nat → Fm) (w : Str) {r : List D} (ht : ∀ x ∈ r, TT x) (hl : (preL r).length ≤ 5000) (h : ∀ x ∈ r, c 34 [.d x] = some (.lst (pre x), [.d x])) : defM 1 3 (m__law_pieces c) [.d (.tup (.str w :: r))] = some (.lst (pre (.tup (.str w :: r))), [.d (.tup (.str w :: r))]) := by
  refine eq_of_wc ?_
  refine wc_def rfl rfl ?_; walk_at "n"
  have hs : sizeLine = 16777216 := sizeLine_eq
  have h1 := sl_tail (.str w) r
  unfold m__law_pieces
  generalize c 34 = c34 at h
  walk_at "r"
  refine for_inv (fun i e => ∃ x2, e = [.d (.tup (.str w :: r)), .ol (.tup (.str w :: r) :: preL (r.take i)), x2] ∧ Plain x2) r 0 _ ⟨.no, rfl, .no⟩ ?_ ?_
  · rintro i y e hy ⟨x2, rfl, h2⟩
    rw [Nat.zero_add]
    have hi : i < r.length := (List.getElem?_eq_some_iff.mp hy).1
    have hy' : r[i] = y := (List.getElem?_eq_some_iff.mp hy).2
    have hc := h y (by rw [← hy']; exact List.getElem_mem _)
    have f2 : freeB [.d (.tup (.str w :: r)), .ol (.tup (.str w :: r) :: preL (r.take i)), x2] 2 = true := by rcases h2 with rfl | ⟨y, rfl⟩ <;> rfl
    have et : r.take (i + 1) = r.take i ++ [y] := by rw [List.take_succ, hy]; rfl
    have ep : preL (r.take (i + 1)) = preL (r.take i) ++ pre y := by rw [et, preL_app]; show _ ++ (pre y ++ []) = _; rw [List.append_nil]
    have hle : (preL (r.take (i + 1))).length ≤ (preL r).length := by
      have := congrArg (fun l => (preL l).length) (List.take_append_drop (i + 1) r)
      simp only [preL_app, List.length_append] at this
      omega
    rw [ep, List.length_append] at hle
    refine ⟨f2, ?_⟩
    walk_at "n"
    refine wp_ext (s0 := .ol (.tup (.str w :: r) :: preL (r.take i))) (k0 := _) rfl rfl ?_
    walk_at "r"
    refine ⟨pre y, _, _, rfl, rfl, rfl, by rw [List.length_cons]; omega, ?_⟩
    refine ⟨_, ?_, .d y⟩
    rw [ep]
    rfl
  · rintro e ⟨x2, rfl, h2⟩
    rw [Nat.zero_add, List.take_length]
    walk_at "r"
    exact ⟨rfl, rfl⟩
theorem e_lpieces {L : Nat} : ∀ (n k : Nat) {t : D}, Tre L n t → (pre t).length ≤ 5000 → cs (k + n + 1) 34 [.d t] = some (.lst (pre t), [.d t]) := fun n => by
  induction n with
  | zero =>
    intro k t h hl
    cases h with
    | leaf h =>
      obtain ⟨s, rfl, _⟩ := h
      exact lp_str (cs k) s
  | succ n ih =>
    intro k t h hl
    cases h with
    | leaf h =>
      obtain ⟨s, rfl, _⟩ := h
      exact lp_str (cs (k + (n + 1))) s
    | @node _ w r hw h3 hr =>
      obtain ⟨s, rfl, _⟩ := hw
      rw [pre_tup, List.length_cons] at hl
      refine lp_tup (cs (k + n + 1)) s (fun x hx => (hr x hx).tt) (by omega) fun x hx => ih k (hr x hx) ?_
      have : (pre x).length ≤ (preL r).length := by
        clear hl h3 ih
        induction r with
        | nil => cases hx
        | cons d r ihr =>
          rw [preL_cons, List.length_append]
          rcases List.mem_cons.mp hx with z | z
          · rw [z]; omega
          · have := ihr (fun y hy => hr y (List.mem_cons_of_mem _ hy)) z
            omega
      omega
/-! what occurs, once each, in the order of the first time -/
def addV (acc : List Str) (p : D) : List Str := match p with
  | .str s => if s ∈ acc then acc else acc ++ [s]
  | _ => acc
def varsS (ps : List D) : List Str := ps.foldl addV []
theorem addV_len (acc : List Str) (p : D) : (addV acc p).length ≤ acc.length + 1 := by
  unfold addV
  split
  · split
    · omega
    · rw [List.length_append]; exact Nat.le_refl _
  · omega
theorem addVs_len : ∀ (ps : List D) (acc : List Str), (ps.foldl addV acc).length ≤ acc.length + ps.length
  | [], acc => Nat.le_refl _
  | p :: ps, acc => by
    have a := addV_len acc p
    have b := addVs_len ps (addV acc p)
    rw [List.foldl_cons, List.length_cons]
    omega
theorem any_str (s : Str) : ∀ acc : List Str, ((acc.map D.str).any fun y => eqF y (.str s)) = decide (s ∈ acc)
  | [] => rfl
  | a :: acc => by
    rw [List.map_cons, List.any_cons, any_str s acc]
    show ((a == s) || _) = _
    by_cases h : a = s
    · subst h
      simp
    · have : (a == s) = false := by simpa using h
      rw [this, Bool.false_or]
      have h' : ¬ s = a := fun z => h z.symm
      simp [h']
theorem strs_flat : ∀ acc : List Str, (acc.map D.str).all flatD = true
  | [] => rfl
  | a :: acc => by
    rw [List.map_cons, List.all_cons, strs_flat acc]
    rfl
theorem ni_strs (s : Str) (acc : List Str) : inD true (.str s) (.lst (acc.map D.str)) = some (.bl (!decide (s ∈ acc))) := by
  show (if (flatD (.str s) && (acc.map D.str).all flatD) = true then some (D.bl (if true then !(acc.map D.str).any (fun y => eqF y (.str s)) else _)) else none) = _
  rw [strs_flat, any_str]
  rfl
theorem pre_kind {d : D} (h : TT d) : ∀ p ∈ pre d, (∃ s, p = .str s) ∨ ∃ xs, p = .tup xs := by
  induction h with
  | leaf s => exact fun p hp => .inl ⟨s, List.mem_singleton.mp hp⟩
  | @node w r hr ih =>
    intro p hp
    rw [pre_tup] at hp
    rcases List.mem_cons.mp hp with z | z
    · exact .inr ⟨_, z⟩
    · clear hp hr
      induction r with
      | nil => cases z
      | cons d r ihr =>
        rw [preL_cons] at z
        rcases List.mem_append.mp z with y | y
        · exact ih d List.mem_cons_self p y
        · exact ihr (fun x hx => ih x (List.mem_cons_of_mem _ hx)) y
def lvBody : MS := (mIf (mAnd (mTru (mIs isStrD (mVar 3))) (mBl (mPeek (mOp (inD true) (mVar 3) (mVar 1))))) (mApp 1 (mVar 3)) mNext)
theorem lv_loop {x0 y2 : Sl} {R : Out → Env → Prop} : ∀ (ps : List D) (acc : List Str) (x3 : Sl), Plain x3 → acc.length + ps.length ≤ 10000 → (∀ p ∈ ps, (∃ s, p = .str s) ∨ ∃ xs, p = .tup xs) →
    (∀ y3, Plain y3 → R .nx [x0, .ol ((ps.foldl addV acc).map .str), y2, y3]) → Wp (forGo 3 lvBody ps) [x0, .ol (acc.map .str), y2, x3] R
  | [], acc, x3, h3, _, _, k => for_nil (k x3 h3)
  | p :: ps, acc, x3, h3, hl, hk, k => by
    have f3 : freeB [x0, .ol (acc.map .str), y2, x3] 3 = true := by rcases h3 with rfl | ⟨y, rfl⟩ <;> rfl
    have hs : sizeLine = 16777216 := sizeLine_eq
    rw [List.length_cons] at hl
    refine for_cons1 f3 ?_
    walk_at "n"
    unfold lvBody
    rcases hk p List.mem_cons_self with ⟨s, rfl⟩ | ⟨xs, rfl⟩
    · refine wp_if (wp_and (wp_tru (wp_is (wp_var (d := .str s) rfl ⟨rfl, _, rfl, ite_t (wp_bl (wp_peek (wp_op (wp_var (d := .str s) rfl (wp_var (d := .lst (acc.map .str)) rfl ⟨_, ni_strs s acc, rfl, _, rfl, ?_⟩)))))⟩))))
      by_cases h : s ∈ acc
      · rw [decide_eq_true h]
        refine ite_f (wp_next (wt_nx ?_))
        have e : addV acc (.str s) = acc := if_pos h
        refine lv_loop ps acc (.d (.str s)) (.d _) (by omega) (fun q hq => hk q (List.mem_cons_of_mem _ hq)) fun y3 g3 => ?_
        have := k y3 g3
        rw [List.foldl_cons, e] at this
        exact this
      · rw [decide_eq_false h]
        have e : addV acc (.str s) = acc ++ [s] := if_neg h
        refine ite_t (wp_app (ys := acc.map .str) rfl (wp_var (d := .str s) rfl ⟨_, rfl, by rw [List.length_map]; omega, wt_nx ?_⟩))
        have em : acc.map D.str ++ [.str s] = (acc ++ [s]).map D.str := by rw [List.map_append]; rfl
        rw [em]
        refine lv_loop ps (acc ++ [s]) (.d (.str s)) (.d _) (by rw [List.length_append, List.length_cons, List.length_nil]; omega) (fun q hq => hk q (List.mem_cons_of_mem _ hq)) fun y3 g3 => ?_
        have := k y3 g3
        rw [List.foldl_cons, e] at this
        exact this
    · refine wp_if (wp_and (wp_tru (wp_is (wp_var (d := .tup xs) rfl ⟨rfl, _, rfl, ite_f (ite_f (wp_next (wt_nx ?_)))⟩))))
      refine lv_loop ps acc (.d (.tup xs)) (.d _) (by omega) (fun q hq => hk q (List.mem_cons_of_mem _ hq)) fun y3 g3 => ?_
      exact k y3 g3
theorem e_lvariables {L : Nat} (n k : Nat) {ts : List D} (h : ∀ t ∈ ts, Tre L n t) (hl : (preL ts).length ≤ 5000) : cs (k + n + 2) 42 [.d (.tup ts)] = some (.lst ((varsS (preL ts)).map .str), [.d (.tup ts)]) := by
  refine eq_of_wc ?_
  refine (show Wc (defM 1 4 (m__law_variables (cs (k + n + 1)))) _ _ from ?_)
  refine wc_def rfl rfl ?_; walk_at "n"
  have hs : sizeLine = 16777216 := sizeLine_eq
  have hle : ∀ t ∈ ts, (pre t).length ≤ 5000 := fun t ht => by
    obtain ⟨a, b, rfl⟩ := List.append_of_mem ht
    rw [preL_app, List.length_append, preL_cons, List.length_append] at hl
    omega
  have hf : ∀ t ∈ ts, cs (k + n + 1) 34 [.d t] = some (.lst (pre t), [.d t]) := fun t ht => e_lpieces n k (h t ht) (hle t ht)
  unfold m__law_variables
  generalize cs (k + n + 1) 34 = c34 at hf
  walk_at "r"
  refine for_inv (fun i e => ∃ x2 x3, e = [.d (.tup ts), .ol ((varsS (preL (ts.take i))).map .str), x2, x3] ∧ Plain x2 ∧ Plain x3) ts 0 _ ⟨.no, .no, rfl, .no, .no⟩ ?_ ?_
  · rintro i y e hy ⟨x2, x3, rfl, h2, h3⟩
    rw [Nat.zero_add]
    have hi : i < ts.length := (List.getElem?_eq_some_iff.mp hy).1
    have hy' : ts[i] = y := (List.getElem?_eq_some_iff.mp hy).2
    have hm : y ∈ ts := by rw [← hy']; exact List.getElem_mem _
    have hc := hf y hm
    have f2 : freeB [.d (.tup ts), .ol ((varsS (preL (ts.take i))).map .str), x2, x3] 2 = true := by rcases h2 with rfl | ⟨y, rfl⟩ <;> rfl
    have et : ts.take (i + 1) = ts.take i ++ [y] := by rw [List.take_succ, hy]; rfl
    have ep : preL (ts.take (i + 1)) = preL (ts.take i) ++ pre y := by rw [et, preL_app]; show _ ++ (pre y ++ []) = _; rw [List.append_nil]
    have hle2 : (preL (ts.take i)).length ≤ (preL ts).length := by
      have := congrArg (fun l => (preL l).length) (List.take_append_drop i ts)
      simp only [preL_app, List.length_append] at this
      omega
    have hv := addVs_len (preL (ts.take i)) []
    have hv : (varsS (preL (ts.take i))).length ≤ 0 + (preL (ts.take i)).length := hv
    have hy5 := hle y hm
    refine ⟨f2, ?_⟩
    walk_at "n"
    walk_at "r"
    refine lv_loop (pre y) _ x3 h3 (by omega) (pre_kind (h y hm).tt) fun y3 g3 => ?_
    refine wt_nx ⟨.d y, y3, ?_, .d y, g3⟩
    rw [ep]
    unfold varsS
    rw [List.foldl_append]
  · rintro e ⟨x2, x3, rfl, h2, h3⟩
    rw [Nat.zero_add, List.take_length]
    walk_at "r"
    exact ⟨rfl, rfl⟩

end Nv

set_option Elab.async false
set_option linter.all false
set_option maxRecDepth 100000
set_option maxHeartbeats 1000000
namespace Nv
open PySem L2 PyProof.Rows PySem.Spec
local macro_rules | `(tactic| walk_at "n") => `(tactic| try simp only [List.set_cons_zero, List.set_cons_succ, List.map_cons, List.map_nil, List.cons_append, List.nil_append, List.replicate, Nat.reduceSub])
local macro_rules | `(tactic| walk_at "s") => `(tactic| first
  | with_reducible refine wp_seq ?_ | with_reducible refine wk_nx ?_ | with_reducible refine wk_rt ?_ | with_reducible refine wt_nx ?_ | with_reducible refine wt_rt ?_ | with_reducible refine wt_bk ?_ | with_reducible refine wt_ct ?_ | with_reducible refine wk_bk ?_ | with_reducible refine wk_ct ?_
  | with_reducible refine wp_if ?_ | with_reducible refine wp_ret ?_ | with_reducible refine wp_next ?_ | with_reducible refine wp_retN ?_ | with_reducible refine wp_set ?_ | with_reducible refine wp_own ?_ | with_reducible refine wp_drop ?_
  | ((with_reducible refine' wp_var ?_ ?_); rotate_left; rfl) | ((with_reducible refine' wp_varL ?_ ?_); rotate_left; rfl) | ((with_reducible refine' wp_app ?_ ?_); rotate_left; rfl) | ((with_reducible refine' wp_lget ?_ ?_ ?_); rotate_left 2; (· rfl); (· rfl)) | with_reducible refine wp_lput ?_ | ((with_reducible refine' wp_lown ?_ ?_ ?_); rotate_left; (· rfl); (· rfl)) | ((with_reducible refine' wp_fown ?_ ?_ ?_); rotate_left; (· rfl); (· rfl)) | with_reducible refine wp_c ?_ | with_reducible refine wp_op ?_ | with_reducible refine wp_un ?_ | with_reducible refine wp_cb ?_ | with_reducible refine wp_cons ?_ | with_reducible refine wp_nil ?_
  | with_reducible refine wp_bl ?_ | with_reducible refine wp_tru ?_ | with_reducible refine wp_not ?_ | with_reducible refine wp_and ?_ | with_reducible refine wp_or ?_ | with_reducible refine wp_andV ?_ | with_reducible refine wp_orV ?_ | with_reducible refine wp_notV ?_
  | with_reducible refine wp_chain ?_ | with_reducible refine wp_sz ?_ | with_reducible refine wp_lst ?_ | with_reducible refine wp_tup ?_ | with_reducible refine wp_is ?_ | with_reducible refine wp_onone ?_ | with_reducible refine wp_osome ?_ | with_reducible refine wp_sl ?_ | with_reducible refine wp_m1 ?_
  | with_reducible refine wp_all ?_ | with_reducible refine wp_repr ?_ | with_reducible refine wp_peek ?_ | with_reducible refine wp_peekT ?_ | with_reducible refine wp_addF ?_ | with_reducible refine wp_ilist ?_ | with_reducible refine wp_itup ?_ | with_reducible refine wp_istr ?_ | with_reducible refine wp_irng ?_ | with_reducible refine wp_list ?_ | with_reducible refine wp_listS ?_
  | with_reducible refine wp_for ?_ | with_reducible refine wp_call ?_ | with_reducible refine wp_callK ?_ | with_reducible refine wp_lnil ?_ | with_reducible refine wp_ldat ?_ | with_reducible refine wp_callL ?_ | with_reducible refine wp_flast ?_ | with_reducible refine wp_fdat ?_ | with_reducible refine wp_callF ?_
  | with_reducible refine ⟨_, (by assumption : _ = some _), ?_⟩
  | ((with_reducible refine' call_and ?_ ?_ ?_); rotate_left 2; (· rfl); (· assumption)) | ((with_reducible refine' callk_and ?_ ?_ ?_); rotate_left 2; (· exact ⟨rfl, rfl⟩); (· assumption))
  | refine ite_t ?_ | refine ite_f ?_ | refine ite_nt ?_ | refine ite_nf ?_
  | with_reducible refine ⟨_, add_int, ?_⟩ | with_reducible refine ⟨_, iadd_int, ?_⟩ | with_reducible refine ⟨_, sub_int, ?_⟩ | with_reducible refine ⟨_, lt_int, ?_⟩ | with_reducible refine ⟨_, le_int, ?_⟩ | with_reducible refine ⟨_, gt_int, ?_⟩ | with_reducible refine ⟨_, ge_int, ?_⟩ | with_reducible refine ⟨_, eq_int, ?_⟩
  | with_reducible refine ⟨_, len_lst, ?_⟩ | with_reducible refine ⟨_, len_tup, ?_⟩ | with_reducible refine ⟨_, tru_bl, ?_⟩ | with_reducible refine ⟨_, int_int _, ?_⟩ | with_reducible refine ⟨_, int_bl _, ?_⟩
  | with_reducible refine ⟨_, rfl, ?_⟩ | ((with_reducible refine free_and ?_ ?_); (· first | rfl | assumption); walk_at "n") | with_reducible refine rok_and (by assumption) ?_ | ((with_reducible refine kind_and ?_ ?_); (· first | rfl | assumption)) | ((with_reducible refine size_and ?_ ?_); (· simp only [List.length_cons, List.length_nil, sizeLine_eq]; omega))
  | with_reducible refine ite_y (by assumption) ?_ | with_reducible refine ite_n (by assumption) ?_ | with_reducible refine ite_ny (by assumption) ?_ | with_reducible refine ite_nn (by assumption) ?_ | with_reducible refine ite_bt (by assumption) ?_ | with_reducible refine ite_bf (by assumption) ?_ | with_reducible refine ite_nbt (by assumption) ?_ | with_reducible refine ite_nbf (by assumption) ?_)
local macro_rules | `(tactic| walk_at "r") => `(tactic| repeat walk_at "s")
local macro_rules | `(tactic| walk_at "f") => `(tactic| (refine ⟨rfl, ?_⟩; walk_at "n"))
local macro_rules | `(tactic| walk_at "d") => `(tactic| (with_reducible refine wp_draw' (by assumption) (by omega) (by decide) ?_; intro _ _ _ _ _))
/-! Fi5: the program's variables, renamed; the law's renamed. -/
def mkV (s : Str) : Key × D := (.inr s, .bl true)
theorem any_mk (s : Str) : ∀ vs : List Str, ((vs.map mkV).any fun kv => decide (kv.1 = (.inr s : Key))) = decide (s ∈ vs)
  | [] => rfl
  | a :: vs => by
    rw [List.map_cons, List.any_cons, any_mk s vs]
    show (decide ((Sum.inr a : Key) = .inr s) || _) = _
    by_cases h : a = s
    · subst h
      simp
    · have h' : ¬ s = a := fun z => h z.symm
      have h2 : ¬ (Sum.inr a : Key) = .inr s := fun z => h (Sum.inr.inj z)
      rw [decide_eq_false h2, Bool.false_or]
      simp [h']
theorem put_mk (s : Str) (vs : List Str) : putD (vs.map mkV) (.inr s) (.bl true) = (addV vs (.str s)).map mkV := by
  unfold putD
  rw [any_mk]
  by_cases h : s ∈ vs
  · rw [decide_eq_true h, if_pos rfl, show addV vs (.str s) = vs from if_pos h, List.map_map]
    refine List.map_congr_left fun x hx => ?_
    show (if (Sum.inr x : Key) = .inr s then ((Sum.inr x : Key), D.bl true) else (.inr x, .bl true)) = _
    split <;> rfl
  · rw [decide_eq_false h, if_neg Bool.false_ne_true, show addV vs (.str s) = vs ++ [s] from if_neg h, List.map_append]
    rfl
def viBody : MS := (mIf (mTru (mIs isStrD (mVar 2))) (mDPutK 1 (mVar 2) (mC (.bl true))) mNext)
theorem vi_loop {x0 : Sl} {R : Out → Env → Prop} : ∀ (ps : List D) (acc : List Str) (x2 : Sl), Plain x2 → acc.length + ps.length ≤ 10000 → (∀ p ∈ ps, (∃ s, p = .str s) ∨ ∃ xs, p = .tup xs) →
    (∀ y2, Plain y2 → R .nx [x0, .od ((ps.foldl addV acc).map mkV), y2]) → Wp (forGo 2 viBody ps) [x0, .od (acc.map mkV), x2] R
  | [], acc, x2, h2, _, _, k => for_nil (k x2 h2)
  | p :: ps, acc, x2, h2, hl, hk, k => by
    have f2 : freeB [x0, .od (acc.map mkV), x2] 2 = true := by rcases h2 with rfl | ⟨y, rfl⟩ <;> rfl
    have hs : sizeLine = 16777216 := sizeLine_eq
    rw [List.length_cons] at hl
    have ha := addV_len acc p
    refine for_cons1 f2 ?_
    walk_at "n"
    unfold viBody
    rcases hk p List.mem_cons_self with ⟨s, rfl⟩ | ⟨xs, rfl⟩
    · refine wp_if (wp_tru (wp_is (wp_var (d := .str s) rfl ⟨rfl, _, rfl, ite_t ?_⟩)))
      refine wp_dputk (wp_c ⟨⟨.od (acc.map mkV), _, rfl, rfl⟩, wp_var (d := .str s) rfl ⟨.inr s, .od (acc.map mkV), acc.map mkV, rfl, rfl, rfl, by rw [List.length_map]; omega, wt_nx ?_⟩⟩)
      show Wp (forGo 2 viBody ps) [x0, .od (putD (acc.map mkV) (.inr s) (.bl true)), .d (.str s)] R
      rw [put_mk]
      exact vi_loop ps (addV acc (.str s)) (.d (.str s)) (.d _) (by omega) (fun q hq => hk q (List.mem_cons_of_mem _ hq)) fun y3 g3 => k y3 g3
    · refine wp_if (wp_tru (wp_is (wp_var (d := .tup xs) rfl ⟨rfl, _, rfl, ite_f (wp_next (wt_nx ?_))⟩)))
      exact vi_loop ps acc (.d (.tup xs)) (.d _) (by omega) (fun q hq => hk q (List.mem_cons_of_mem _ hq)) fun y3 g3 => k y3 g3
theorem pre_kinds {ts : List D} (h : ∀ t ∈ ts, TT t) : ∀ p ∈ preL ts, (∃ s, p = .str s) ∨ ∃ xs, p = .tup xs := by
  induction ts with
  | nil => exact fun p hp => by cases hp
  | cons d r ih =>
    intro p hp
    rw [preL_cons] at hp
    rcases List.mem_append.mp hp with y | y
    · exact pre_kind (h d List.mem_cons_self) p y
    · exact ih (fun x hx => h x (List.mem_cons_of_mem _ hx)) p y
theorem keys_mk (vs : List Str) : tupOfS [.dct (vs.map mkV)] = some (.tup (vs.map .str)) := by
  show some (D.tup ((vs.map mkV).map fun kv => kD kv.1)) = _
  rw [List.map_map]
  rfl
theorem e_variables (k : Nat) {ts : List D} (h : ∀ t ∈ ts, TT t) (hl : (preL ts).length < 1000) : cs (k + 2) 31 [.d (.tup ts)] = some (.tup ((varsS (preL ts)).map .str), [.d (.tup ts)]) := by
  refine eq_of_wc ?_
  refine (show Wc (defM 1 3 (m_variables_in (cs (k + 1)))) _ _ from ?_)
  refine wc_def rfl rfl ?_; walk_at "n"
  have hw := e_walk k ts h hl
  unfold m_variables_in
  generalize cs (k + 1) 30 = c30 at hw
  refine wp_seq (wp_ownD rfl ?_)
  walk_at "n"
  walk_at "r"
  refine vi_loop (preL ts) [] .no .no (by show 0 + _ ≤ _; omega) (pre_kinds h) fun y2 g2 => ?_
  refine wk_nx (wp_ret (wp_cb (wp_cons (wp_varO (kvs := (varsS (preL ts)).map mkV) rfl (wp_nil ⟨_, keys_mk _, ?_⟩)))))
  exact ⟨rfl, rfl⟩

end Nv

set_option Elab.async false
set_option linter.all false
set_option maxRecDepth 100000
set_option maxHeartbeats 1000000
namespace Nv
open PySem L2 PyProof.Rows PySem.Spec
local macro_rules | `(tactic| walk_at "n") => `(tactic| try simp only [List.set_cons_zero, List.set_cons_succ, List.map_cons, List.map_nil, List.cons_append, List.nil_append, List.replicate, Nat.reduceSub])
local macro_rules | `(tactic| walk_at "s") => `(tactic| first
  | with_reducible refine wp_seq ?_ | with_reducible refine wk_nx ?_ | with_reducible refine wk_rt ?_ | with_reducible refine wt_nx ?_ | with_reducible refine wt_rt ?_ | with_reducible refine wt_bk ?_ | with_reducible refine wt_ct ?_ | with_reducible refine wk_bk ?_ | with_reducible refine wk_ct ?_
  | with_reducible refine wp_if ?_ | with_reducible refine wp_ret ?_ | with_reducible refine wp_next ?_ | with_reducible refine wp_retN ?_ | with_reducible refine wp_set ?_ | with_reducible refine wp_own ?_ | with_reducible refine wp_drop ?_
  | ((with_reducible refine' wp_var ?_ ?_); rotate_left; rfl) | ((with_reducible refine' wp_varL ?_ ?_); rotate_left; rfl) | ((with_reducible refine' wp_app ?_ ?_); rotate_left; rfl) | ((with_reducible refine' wp_lget ?_ ?_ ?_); rotate_left 2; (· rfl); (· rfl)) | with_reducible refine wp_lput ?_ | ((with_reducible refine' wp_lown ?_ ?_ ?_); rotate_left; (· rfl); (· rfl)) | ((with_reducible refine' wp_fown ?_ ?_ ?_); rotate_left; (· rfl); (· rfl)) | with_reducible refine wp_c ?_ | with_reducible refine wp_op ?_ | with_reducible refine wp_un ?_ | with_reducible refine wp_cb ?_ | with_reducible refine wp_cons ?_ | with_reducible refine wp_nil ?_
  | with_reducible refine wp_bl ?_ | with_reducible refine wp_tru ?_ | with_reducible refine wp_not ?_ | with_reducible refine wp_and ?_ | with_reducible refine wp_or ?_ | with_reducible refine wp_andV ?_ | with_reducible refine wp_orV ?_ | with_reducible refine wp_notV ?_
  | with_reducible refine wp_chain ?_ | with_reducible refine wp_sz ?_ | with_reducible refine wp_lst ?_ | with_reducible refine wp_tup ?_ | with_reducible refine wp_is ?_ | with_reducible refine wp_onone ?_ | with_reducible refine wp_osome ?_ | with_reducible refine wp_sl ?_ | with_reducible refine wp_m1 ?_
  | with_reducible refine wp_all ?_ | with_reducible refine wp_repr ?_ | with_reducible refine wp_peek ?_ | with_reducible refine wp_peekT ?_ | with_reducible refine wp_addF ?_ | with_reducible refine wp_ilist ?_ | with_reducible refine wp_itup ?_ | with_reducible refine wp_istr ?_ | with_reducible refine wp_irng ?_ | with_reducible refine wp_list ?_ | with_reducible refine wp_listS ?_
  | with_reducible refine wp_for ?_ | with_reducible refine wp_call ?_ | with_reducible refine wp_callK ?_ | with_reducible refine wp_lnil ?_ | with_reducible refine wp_ldat ?_ | with_reducible refine wp_callL ?_ | with_reducible refine wp_flast ?_ | with_reducible refine wp_fdat ?_ | with_reducible refine wp_callF ?_
  | with_reducible refine ⟨_, (by assumption : _ = some _), ?_⟩
  | ((with_reducible refine' call_and ?_ ?_ ?_); rotate_left 2; (· rfl); (· assumption)) | ((with_reducible refine' callk_and ?_ ?_ ?_); rotate_left 2; (· exact ⟨rfl, rfl⟩); (· assumption))
  | refine ite_t ?_ | refine ite_f ?_ | refine ite_nt ?_ | refine ite_nf ?_
  | with_reducible refine ⟨_, add_int, ?_⟩ | with_reducible refine ⟨_, iadd_int, ?_⟩ | with_reducible refine ⟨_, sub_int, ?_⟩ | with_reducible refine ⟨_, lt_int, ?_⟩ | with_reducible refine ⟨_, le_int, ?_⟩ | with_reducible refine ⟨_, gt_int, ?_⟩ | with_reducible refine ⟨_, ge_int, ?_⟩ | with_reducible refine ⟨_, eq_int, ?_⟩
  | with_reducible refine ⟨_, len_lst, ?_⟩ | with_reducible refine ⟨_, len_tup, ?_⟩ | with_reducible refine ⟨_, tru_bl, ?_⟩ | with_reducible refine ⟨_, int_int _, ?_⟩ | with_reducible refine ⟨_, int_bl _, ?_⟩
  | with_reducible refine ⟨_, rfl, ?_⟩ | ((with_reducible refine free_and ?_ ?_); (· first | rfl | assumption); walk_at "n") | with_reducible refine rok_and (by assumption) ?_ | ((with_reducible refine kind_and ?_ ?_); (· first | rfl | assumption)) | ((with_reducible refine size_and ?_ ?_); (· simp only [List.length_cons, List.length_nil, sizeLine_eq]; omega))
  | with_reducible refine ite_y (by assumption) ?_ | with_reducible refine ite_n (by assumption) ?_ | with_reducible refine ite_ny (by assumption) ?_ | with_reducible refine ite_nn (by assumption) ?_ | with_reducible refine ite_bt (by assumption) ?_ | with_reducible refine ite_bf (by assumption) ?_ | with_reducible refine ite_nbt (by assumption) ?_ | with_reducible refine ite_nbf (by assumption) ?_)
local macro_rules | `(tactic| walk_at "r") => `(tactic| repeat walk_at "s")
local macro_rules | `(tactic| walk_at "f") => `(tactic| (refine ⟨rfl, ?_⟩; walk_at "n"))
local macro_rules | `(tactic| walk_at "d") => `(tactic| (with_reducible refine wp_draw' (by assumption) (by omega) (by decide) ?_; intro _ _ _ _ _))
/-! Fi6: the program's renamed and the law's. -/
def newStr (n : Nat) : Str := ("V" : Str) ++ fmtI (n : Int)
def renL : Nat → List Str → List (Key × D)
  | _, [] => []
  | n, s :: r => (.inr s, .str (newStr n)) :: renL (n + 1) r
def okNew (n : Nat) : Bool := strB (newStr n) && decide ((newStr n).length ≤ 4) && decide ((n : Int).natAbs.log2 < 1920)
theorem new_all : (List.range 1000).all okNew = true := by decide +kernel
theorem new_ok {n : Nat} (h : n < 1000) : strB (newStr n) = true ∧ (newStr n).length ≤ 4 ∧ (n : Int).natAbs.log2 < 1920 := by
  have := List.all_eq_true.mp new_all n (List.mem_range.mpr h)
  unfold okNew at this
  rw [Bool.and_eq_true, Bool.and_eq_true] at this
  exact ⟨this.1.1, of_decide_eq_true this.1.2, of_decide_eq_true this.2⟩
theorem putD_len (kvs : List (Key × D)) (k : Key) (d : D) : (putD kvs k d).length ≤ kvs.length + 1 := by
  unfold putD
  split
  · rw [List.length_map]; omega
  · rw [List.length_append]; exact Nat.le_refl _
theorem empty_v : (Str.empty ++ ("V" : Str)) = ("V" : Str) := by decide +kernel
theorem js_new {n : Nat} (h : n < 1000) (x0 x2 : Sl) : mJ [(mC (.str "V")), (mFmt (mVar 1))] [x0, .d (.int (n : Int)), x2] = some (.str (newStr n), [x0, .d (.int (n : Int)), x2]) := by
  obtain ⟨a, b, c⟩ := new_ok h
  have hs : sizeLine = 16777216 := sizeLine_eq
  have e1 : (Str.empty ++ ("V" : Str)).length ≤ sizeLine := by rw [empty_v, hs]; decide
  have e2 : (Str.empty ++ ("V" : Str) ++ fmtI (n : Int)).length ≤ sizeLine := by
    rw [empty_v]
    show (newStr n).length ≤ _
    omega
  have e3 : fmtD (.int (n : Int)) = some (fmtI (n : Int)) := if_pos c
  have e4 : (Str.empty ++ ("V" : Str) ++ fmtI (n : Int)) = newStr n := by rw [empty_v]; rfl
  unfold mJ
  simp only [mJs, mC, mFmt, mVar, List.getElem?_cons_succ, List.getElem?_cons_zero, Option.bind_some, Sl.data, List.set_cons_succ, List.set_cons_zero, isStr, if_pos e1, e3, if_pos e2, e4]
  rw [if_pos (by omega)]
  rfl
theorem dc_new (x0 : Sl) : ∀ (vs : List Str) (n : Nat) (acc : List (Key × D)), n + vs.length ≤ 1000 → acc.length + vs.length ≤ 10000 →
    dcGo 1 2 mYes (mVar 2) (mJ [(mC (.str "V")), (mFmt (mVar 1))]) (enumGo n (vs.map .str)) acc [x0, .no, .no] = some (mergeD acc (renL n vs), [x0, .no, .no])
  | [], n, acc, _, _ => rfl
  | s :: vs, n, acc, hn, ha => by
    rw [List.length_cons] at hn ha
    have hs : sizeLine = 16777216 := sizeLine_eq
    have hj := js_new (n := n) (by omega) x0 (.d (.str s))
    have hp := putD_len acc (.inr s) (.str (newStr n))
    show dcGo 1 2 mYes (mVar 2) _ (.tup [.int (n : Nat), .str s] :: enumGo (n + 1) (vs.map .str)) acc [x0, .no, .no] = _
    unfold dcGo
    have z : acc.length < sizeLine ∧ allNo [1, 2] [x0, .no, .no] = true := ⟨by omega, rfl⟩
    simp only [twoD, Option.bind_some, mYes, List.set_cons_succ, List.set_cons_zero, if_true, mVar, List.getElem?_cons_succ, List.getElem?_cons_zero, Sl.data, hj, keyD]
    exact (if_pos z).trans (dc_new x0 vs (n + 1) (putD acc (.inr s) (.str (newStr n))) (by omega) (by omega))
theorem mv2 (x0 x1 : Sl) (d : D) : mVar 2 [x0, x1, .d d] = some (d, [x0, x1, .d d]) := rfl
theorem e_renamed (k : Nat) {ts : List D} (h : ∀ t ∈ ts, TT t ∧ (pre t).length < 1000) (h2 : (preL ts).length < 1000) : cs (k + 4) 55 [.d (.tup ts)] = some (.tup (fillL (lookF (mergeD [] (renL 0 (varsS (preL ts))))) ts), [.d (.tup ts)]) := by
  refine eq_of_wc ?_
  refine (show Wc (defM 1 3 (m_renamed (cs (k + 3)))) _ _ from ?_)
  refine wc_def rfl rfl ?_; walk_at "n"
  have hv := e_variables (k + 1) (fun t ht => (h t ht).1) h2
  have hn := addVs_len (preL ts) []
  have hn : (varsS (preL ts)).length ≤ 0 + (preL ts).length := hn
  have hlen := len_pre fun t ht => (h t ht).1
  have hf := e_filled_all k h (by omega) (mergeD [] (renL 0 (varsS (preL ts))))
  unfold m_renamed
  generalize cs (k + 3) 31 = c31 at hv
  generalize cs (k + 3) 40 = c40 at hf
  have hd : mDc (mEnumT (mCons (mCall 1 c31 (mCons (mVar 0) mNil)) mNil)) mYes (mVar 2) (mJ [(mC (.str "V")), (mFmt (mVar 1))]) 1 2 [.d (.tup ts), .no, .no] = some (.dct (mergeD [] (renL 0 (varsS (preL ts)))), [.d (.tup ts), .no, .no]) := by
    have hq := dc_new (.d (.tup ts)) (varsS (preL ts)) 0 [] (by omega) (by show 0 + _ ≤ _; omega)
    have hi : mEnumT (mCons (mCall 1 c31 (mCons (mVar 0) mNil)) mNil) [.d (.tup ts), .no, .no] = some (enumGo 0 ((varsS (preL ts)).map .str), [.d (.tup ts), .no, .no]) := by
      have w : Wp (mEnumT (mCons (mCall 1 c31 (mCons (mVar 0) mNil)) mNil)) [.d (.tup ts), .no, .no] fun x e' => x = enumGo 0 ((varsS (preL ts)).map .str) ∧ e' = [.d (.tup ts), .no, .no] :=
        wp_enumT (wp_cons (wp_call (wp_cons (wp_var (d := .tup ts) rfl (wp_nil ⟨rfl, wc_eq hv (wp_nil ⟨(varsS (preL ts)).map .str, rfl, rfl, rfl⟩)⟩)))))
      obtain ⟨x, e', a, b, c⟩ := w
      rw [a, b, c]
    unfold mDc
    rw [hi]
    show (if allNo [1, 2] [.d (.tup ts), .no, .no] = true then (dcGo 1 2 mYes (mVar 2) (mJ [(mC (.str "V")), (mFmt (mVar 1))]) (enumGo 0 ((varsS (preL ts)).map .str)) [] [.d (.tup ts), .no, .no]).bind _ else none) = _
    exact (if_pos (show allNo [1, 2] [Sl.d (.tup ts), .no, .no] = true from rfl)).trans (by rw [hq]; rfl)
  refine wp_ret (wp_call (wp_cons (wp_var (d := .tup ts) rfl (wp_cons (Wp.of hd (wp_nil ⟨rfl, wc_eq hf ?_⟩))))))
  exact ⟨rfl, rfl⟩

end Nv

set_option Elab.async false
set_option linter.all false
set_option maxRecDepth 100000
set_option maxHeartbeats 1000000
namespace Nv
open PySem L2 PyProof.Rows PySem.Spec
local macro_rules | `(tactic| walk_at "n") => `(tactic| try simp only [List.set_cons_zero, List.set_cons_succ, List.map_cons, List.map_nil, List.cons_append, List.nil_append, List.replicate, Nat.reduceSub])
local macro_rules | `(tactic| walk_at "s") => `(tactic| first
  | with_reducible refine wp_seq ?_ | with_reducible refine wk_nx ?_ | with_reducible refine wk_rt ?_ | with_reducible refine wt_nx ?_ | with_reducible refine wt_rt ?_ | with_reducible refine wt_bk ?_ | with_reducible refine wt_ct ?_ | with_reducible refine wk_bk ?_ | with_reducible refine wk_ct ?_
  | with_reducible refine wp_if ?_ | with_reducible refine wp_ret ?_ | with_reducible refine wp_next ?_ | with_reducible refine wp_retN ?_ | with_reducible refine wp_set ?_ | with_reducible refine wp_own ?_ | with_reducible refine wp_drop ?_
  | ((with_reducible refine' wp_var ?_ ?_); rotate_left; rfl) | ((with_reducible refine' wp_varL ?_ ?_); rotate_left; rfl) | ((with_reducible refine' wp_app ?_ ?_); rotate_left; rfl) | ((with_reducible refine' wp_lget ?_ ?_ ?_); rotate_left 2; (· rfl); (· rfl)) | with_reducible refine wp_lput ?_ | ((with_reducible refine' wp_lown ?_ ?_ ?_); rotate_left; (· rfl); (· rfl)) | ((with_reducible refine' wp_fown ?_ ?_ ?_); rotate_left; (· rfl); (· rfl)) | with_reducible refine wp_c ?_ | with_reducible refine wp_op ?_ | with_reducible refine wp_un ?_ | with_reducible refine wp_cb ?_ | with_reducible refine wp_cons ?_ | with_reducible refine wp_nil ?_
  | with_reducible refine wp_bl ?_ | with_reducible refine wp_tru ?_ | with_reducible refine wp_not ?_ | with_reducible refine wp_and ?_ | with_reducible refine wp_or ?_ | with_reducible refine wp_andV ?_ | with_reducible refine wp_orV ?_ | with_reducible refine wp_notV ?_
  | with_reducible refine wp_chain ?_ | with_reducible refine wp_sz ?_ | with_reducible refine wp_lst ?_ | with_reducible refine wp_tup ?_ | with_reducible refine wp_is ?_ | with_reducible refine wp_onone ?_ | with_reducible refine wp_osome ?_ | with_reducible refine wp_sl ?_ | with_reducible refine wp_m1 ?_
  | with_reducible refine wp_all ?_ | with_reducible refine wp_repr ?_ | with_reducible refine wp_peek ?_ | with_reducible refine wp_peekT ?_ | with_reducible refine wp_addF ?_ | with_reducible refine wp_ilist ?_ | with_reducible refine wp_itup ?_ | with_reducible refine wp_istr ?_ | with_reducible refine wp_irng ?_ | with_reducible refine wp_list ?_ | with_reducible refine wp_listS ?_
  | with_reducible refine wp_for ?_ | with_reducible refine wp_call ?_ | with_reducible refine wp_callK ?_ | with_reducible refine wp_lnil ?_ | with_reducible refine wp_ldat ?_ | with_reducible refine wp_callL ?_ | with_reducible refine wp_flast ?_ | with_reducible refine wp_fdat ?_ | with_reducible refine wp_callF ?_
  | with_reducible refine ⟨_, (by assumption : _ = some _), ?_⟩
  | ((with_reducible refine' call_and ?_ ?_ ?_); rotate_left 2; (· rfl); (· assumption)) | ((with_reducible refine' callk_and ?_ ?_ ?_); rotate_left 2; (· exact ⟨rfl, rfl⟩); (· assumption))
  | refine ite_t ?_ | refine ite_f ?_ | refine ite_nt ?_ | refine ite_nf ?_
  | with_reducible refine ⟨_, add_int, ?_⟩ | with_reducible refine ⟨_, iadd_int, ?_⟩ | with_reducible refine ⟨_, sub_int, ?_⟩ | with_reducible refine ⟨_, lt_int, ?_⟩ | with_reducible refine ⟨_, le_int, ?_⟩ | with_reducible refine ⟨_, gt_int, ?_⟩ | with_reducible refine ⟨_, ge_int, ?_⟩ | with_reducible refine ⟨_, eq_int, ?_⟩
  | with_reducible refine ⟨_, len_lst, ?_⟩ | with_reducible refine ⟨_, len_tup, ?_⟩ | with_reducible refine ⟨_, tru_bl, ?_⟩ | with_reducible refine ⟨_, int_int _, ?_⟩ | with_reducible refine ⟨_, int_bl _, ?_⟩
  | with_reducible refine ⟨_, rfl, ?_⟩ | ((with_reducible refine free_and ?_ ?_); (· first | rfl | assumption); walk_at "n") | with_reducible refine rok_and (by assumption) ?_ | ((with_reducible refine kind_and ?_ ?_); (· first | rfl | assumption)) | ((with_reducible refine size_and ?_ ?_); (· simp only [List.length_cons, List.length_nil, sizeLine_eq]; omega))
  | with_reducible refine ite_y (by assumption) ?_ | with_reducible refine ite_n (by assumption) ?_ | with_reducible refine ite_ny (by assumption) ?_ | with_reducible refine ite_nn (by assumption) ?_ | with_reducible refine ite_bt (by assumption) ?_ | with_reducible refine ite_bf (by assumption) ?_ | with_reducible refine ite_nbt (by assumption) ?_ | with_reducible refine ite_nbf (by assumption) ?_)
local macro_rules | `(tactic| walk_at "r") => `(tactic| repeat walk_at "s")
local macro_rules | `(tactic| walk_at "f") => `(tactic| (refine ⟨rfl, ?_⟩; walk_at "n"))
local macro_rules | `(tactic| walk_at "d") => `(tactic| (with_reducible refine wp_draw' (by assumption) (by omega) (by decide) ?_; intro _ _ _ _ _))
/-! Fi7: the law's renamed. -/
def prL : Nat → List Str → List D
  | _, [] => []
  | n, s :: r => .tup [.str s, .str (newStr n)] :: prL (n + 1) r
theorem prL_get : ∀ (vs : List Str) (n i : Nat), (prL n vs)[i]? = vs[i]?.map fun s => D.tup [.str s, .str (newStr (n + i))]
  | [], _, _ => by simp [prL]
  | s :: vs, n, 0 => by simp [prL]
  | s :: vs, n, i + 1 => by
    have := prL_get vs (n + 1) i
    rw [show n + (i + 1) = n + 1 + i by omega]
    simpa [prL] using this
theorem pairs_pr : ∀ (vs : List Str) (n : Nat), pairsOf (prL n vs) = some (renL n vs)
  | [], _ => rfl
  | s :: vs, n => by
    show (pairsOf (prL (n + 1) vs)).bind _ = _
    rw [pairs_pr vs (n + 1)]
    rfl
def prF (vs : List Str) (d : D) : D := match d with
  | .int i => ((vs[i.toNat]?).map fun s => D.tup [.str s, .str (newStr i.toNat)]).getD .non
  | _ => .non
theorem prF_int (vs : List Str) (i : Nat) : prF vs (.int (i : Int)) = ((vs[i]?).map fun s => D.tup [.str s, .str (newStr i)]).getD .non := rfl
theorem upto_pr (vs : List Str) : (upto vs.length).map (prF vs) = prL 0 vs := by
  apply List.ext_getElem?
  intro i
  rw [prL_get, List.getElem?_map]
  by_cases h : i < vs.length
  · have hu : (upto vs.length)[i]? = some (.int (i : Int)) := by
      unfold upto
      rw [List.getElem?_map, List.getElem?_range h]
      rfl
    rw [hu, Nat.zero_add]
    show some (prF vs (.int (i : Int))) = _
    rw [prF_int, List.getElem?_eq_getElem h]
    rfl
  · rw [List.getElem?_eq_none (by rw [upto_length]; omega), List.getElem?_eq_none (by omega)]
    rfl
theorem e_lrenamed {L : Nat} (n k : Nat) {ts : List D} (h : ∀ t ∈ ts, Tre L n t) (hl : (preL ts).length < 1000) : cs (k + n + 3) 221 [.d (.tup ts)] = some (.tup (fillL (lookF (mergeD [] (renL 0 (varsS (preL ts))))) ts), [.d (.tup ts)]) := by
  refine eq_of_wc ?_
  refine (show Wc (defM 1 3 (m__law_renamed (cs (k + n + 2)))) _ _ from ?_)
  refine wc_def rfl rfl ?_; walk_at "n"
  have hs : sizeLine = 16777216 := sizeLine_eq
  have hv := e_lvariables n k h (by omega)
  have hn := addVs_len (preL ts) []
  have hn : (varsS (preL ts)).length ≤ 0 + (preL ts).length := hn
  have hlen := len_pre fun t ht => (h t ht).tt
  have hf := e_lall (mergeD [] (renL 0 (varsS (preL ts)))) n k h (by omega)
  unfold m__law_renamed
  generalize cs (k + n + 2) 42 = c42 at hv
  generalize cs (k + n + 2) 43 = c43 at hf
  generalize hV : varsS (preL ts) = vs at hv hn hf ⊢
  have hll : lenD [.lst (vs.map D.str)] = some (.int vs.length) := by rw [len_lst, List.length_map]
  refine wp_seq (wp_set (wp_call (wp_cons (wp_var (d := .tup ts) rfl (wp_nil ⟨rfl, wc_eq hv ⟨rfl, ?_⟩⟩)))))
  show seqK _ _ .nx [.d (.tup ts), .d (.lst (vs.map .str)), .no]
  refine wk_nx (wp_ret (wp_call (wp_cons (wp_var (d := .tup ts) rfl (wp_cons (wp_cb (wp_cons (wp_lst (wp_lcmap (f := prF vs) (ds := upto vs.length) (e1 := [.d (.tup ts), .d (.lst (vs.map .str)), .no]) ?_ rfl (by rw [upto_length]; omega) (fun d hd => ?_) (wp_nil ⟨.dct (mergeD [] (renL 0 vs)), ?_, wp_nil ⟨rfl, wc_eq hf ?_⟩⟩))))))))))
  · have w : Wp (mIRng (mCons (mCb lenD (mCons (mVar 1) mNil)) mNil)) [.d (.tup ts), .d (.lst (vs.map .str)), .no] fun x e' => x = upto vs.length ∧ e' = [.d (.tup ts), .d (.lst (vs.map .str)), .no] :=
      wp_irng (wp_cons (wp_cb (wp_cons (wp_var (d := .lst (vs.map .str)) rfl (wp_nil ⟨_, hll, wp_nil ⟨(vs.length : Int), rfl, by omega, by rw [Int.toNat_natCast], rfl⟩⟩)))))
    obtain ⟨x, e', a, b, c⟩ := w
    rw [a, b, c]
  · obtain ⟨i, hi0⟩ := List.getElem?_of_mem hd
    obtain ⟨rfl, hi⟩ := upto_get hi0
    walk_at "n"
    have hx : ixD (.lst (vs.map D.str)) (.int (i : Int)) = some (.str vs[i]) := by
      show L2.atI (vs.map D.str) (i : Int) = _
      unfold L2.atI ixN
      rw [if_pos (by omega), if_pos (by rw [List.length_map]; omega)]
      show (vs.map D.str)[i]? = _
      rw [List.getElem?_map, List.getElem?_eq_getElem hi]
      rfl
    obtain ⟨n1, n2, n3⟩ := new_ok (n := i) (by omega)
    have hst : strOfD [.int (i : Int)] = some (.str (fmtI (i : Int))) := if_pos n3
    have had : addD (.str "V") (.str (fmtI (i : Int))) = some (.str (newStr i)) := if_pos (by
      have z : (newStr i).length = ("V" : Str).length + (fmtI (i : Int)).length := strLen_append _ _
      omega)
    have hp : prF vs (.int (i : Int)) = .tup [.str vs[i], .str (newStr i)] := by
      rw [prF_int, List.getElem?_eq_getElem hi]
      rfl
    rw [hp]
    walk_at "r"
    exact ⟨rfl, rfl⟩
  · rw [upto_pr]
    show (pairsOf (prL 0 vs)).bind _ = _
    rw [pairs_pr]
    rfl
  · exact ⟨rfl, rfl⟩

end Nv

set_option Elab.async false
set_option linter.all false
set_option maxRecDepth 100000
set_option maxHeartbeats 1000000
namespace Nv
open PySem L2 PyProof.Rows PySem.Spec
local macro_rules | `(tactic| walk_at "n") => `(tactic| try simp only [List.set_cons_zero, List.set_cons_succ, List.map_cons, List.map_nil, List.cons_append, List.nil_append, List.replicate, Nat.reduceSub])
local macro_rules | `(tactic| walk_at "s") => `(tactic| first
  | with_reducible refine wp_seq ?_ | with_reducible refine wk_nx ?_ | with_reducible refine wk_rt ?_ | with_reducible refine wt_nx ?_ | with_reducible refine wt_rt ?_ | with_reducible refine wt_bk ?_ | with_reducible refine wt_ct ?_ | with_reducible refine wk_bk ?_ | with_reducible refine wk_ct ?_
  | with_reducible refine wp_if ?_ | with_reducible refine wp_ret ?_ | with_reducible refine wp_next ?_ | with_reducible refine wp_retN ?_ | with_reducible refine wp_set ?_ | with_reducible refine wp_own ?_ | with_reducible refine wp_drop ?_
  | ((with_reducible refine' wp_var ?_ ?_); rotate_left; rfl) | ((with_reducible refine' wp_varL ?_ ?_); rotate_left; rfl) | ((with_reducible refine' wp_app ?_ ?_); rotate_left; rfl) | ((with_reducible refine' wp_lget ?_ ?_ ?_); rotate_left 2; (· rfl); (· rfl)) | with_reducible refine wp_lput ?_ | ((with_reducible refine' wp_lown ?_ ?_ ?_); rotate_left; (· rfl); (· rfl)) | ((with_reducible refine' wp_fown ?_ ?_ ?_); rotate_left; (· rfl); (· rfl)) | with_reducible refine wp_c ?_ | with_reducible refine wp_op ?_ | with_reducible refine wp_un ?_ | with_reducible refine wp_cb ?_ | with_reducible refine wp_cons ?_ | with_reducible refine wp_nil ?_
  | with_reducible refine wp_bl ?_ | with_reducible refine wp_tru ?_ | with_reducible refine wp_not ?_ | with_reducible refine wp_and ?_ | with_reducible refine wp_or ?_ | with_reducible refine wp_andV ?_ | with_reducible refine wp_orV ?_ | with_reducible refine wp_notV ?_
  | with_reducible refine wp_chain ?_ | with_reducible refine wp_sz ?_ | with_reducible refine wp_lst ?_ | with_reducible refine wp_tup ?_ | with_reducible refine wp_is ?_ | with_reducible refine wp_onone ?_ | with_reducible refine wp_osome ?_ | with_reducible refine wp_sl ?_ | with_reducible refine wp_m1 ?_
  | with_reducible refine wp_all ?_ | with_reducible refine wp_repr ?_ | with_reducible refine wp_peek ?_ | with_reducible refine wp_peekT ?_ | with_reducible refine wp_addF ?_ | with_reducible refine wp_ilist ?_ | with_reducible refine wp_itup ?_ | with_reducible refine wp_istr ?_ | with_reducible refine wp_irng ?_ | with_reducible refine wp_list ?_ | with_reducible refine wp_listS ?_
  | with_reducible refine wp_for ?_ | with_reducible refine wp_call ?_ | with_reducible refine wp_callK ?_ | with_reducible refine wp_lnil ?_ | with_reducible refine wp_ldat ?_ | with_reducible refine wp_callL ?_ | with_reducible refine wp_flast ?_ | with_reducible refine wp_fdat ?_ | with_reducible refine wp_callF ?_
  | with_reducible refine ⟨_, (by assumption : _ = some _), ?_⟩
  | ((with_reducible refine' call_and ?_ ?_ ?_); rotate_left 2; (· rfl); (· assumption)) | ((with_reducible refine' callk_and ?_ ?_ ?_); rotate_left 2; (· exact ⟨rfl, rfl⟩); (· assumption))
  | refine ite_t ?_ | refine ite_f ?_ | refine ite_nt ?_ | refine ite_nf ?_
  | with_reducible refine ⟨_, add_int, ?_⟩ | with_reducible refine ⟨_, iadd_int, ?_⟩ | with_reducible refine ⟨_, sub_int, ?_⟩ | with_reducible refine ⟨_, lt_int, ?_⟩ | with_reducible refine ⟨_, le_int, ?_⟩ | with_reducible refine ⟨_, gt_int, ?_⟩ | with_reducible refine ⟨_, ge_int, ?_⟩ | with_reducible refine ⟨_, eq_int, ?_⟩
  | with_reducible refine ⟨_, len_lst, ?_⟩ | with_reducible refine ⟨_, len_tup, ?_⟩ | with_reducible refine ⟨_, tru_bl, ?_⟩ | with_reducible refine ⟨_, int_int _, ?_⟩ | with_reducible refine ⟨_, int_bl _, ?_⟩
  | with_reducible refine ⟨_, rfl, ?_⟩ | ((with_reducible refine free_and ?_ ?_); (· first | rfl | assumption); walk_at "n") | with_reducible refine rok_and (by assumption) ?_ | ((with_reducible refine kind_and ?_ ?_); (· first | rfl | assumption)) | ((with_reducible refine size_and ?_ ?_); (· simp only [List.length_cons, List.length_nil, sizeLine_eq]; omega))
  | with_reducible refine ite_y (by assumption) ?_ | with_reducible refine ite_n (by assumption) ?_ | with_reducible refine ite_ny (by assumption) ?_ | with_reducible refine ite_nn (by assumption) ?_ | with_reducible refine ite_bt (by assumption) ?_ | with_reducible refine ite_bf (by assumption) ?_ | with_reducible refine ite_nbt (by assumption) ?_ | with_reducible refine ite_nbf (by assumption) ?_)
local macro_rules | `(tactic| walk_at "r") => `(tactic| repeat walk_at "s")
local macro_rules | `(tactic| walk_at "f") => `(tactic| (refine ⟨rfl, ?_⟩; walk_at "n"))
local macro_rules | `(tactic| walk_at "d") => `(tactic| (with_reducible refine wp_draw' (by assumption) (by omega) (by decide) ?_; intro _ _ _ _ _))
/-! Fi8: trees as they are drawn, and how many pieces they have. -/
def TermSz (f : Fm) (c n : Nat) (ws ls : List D) : Prop := ∀ (xs : List Int) (N : Int) (K : List (Key × D)) (p : Int), PenAt xs N K → N + c ≤ 4000000 → 1 ≤ p →
  Wc f [.pd K, .d (.lst ws), .d (.lst ls), .d (.int (n : Int)), .pl [.int p]] fun d as' => Tre 19 n d ∧ ∃ K' p', as' = [.pd K', .d (.lst ws), .d (.lst ls), .d (.int (n : Int)), .pl [.int p']] ∧ PenAt xs (N + c) K' ∧ 0 ≤ p' ∧ ((pre d).length : Int) + p' = p
theorem tm_turn2 {c : Nat → Fm} {ws ls : List D} {n : Nat} {cc : Nat} (hc : TermSz (c 11) cc n ws ls) {xs : List Int} {N : Int} {K : List (Key × D)} {p : Int} {x5 x7 : Sl} {w : D} {r : List D} {R : Out → Env → Prop} {P : Env → Prop} (hp : PenAt xs N K) (hN : N + cc ≤ 4000000) (hr : ∀ x ∈ r, Tre 19 n x) (hl : r.length ≤ 2) (h0 : 0 ≤ p)
    (q : ∀ K' p' r', PenAt xs (N + cc) K' → (∀ x ∈ r', Tre 19 n x) → r'.length ≤ r.length + 1 → 0 ≤ p' → ((preL r').length : Int) + p' = (preL r).length + p → P [.pd K', .d (.lst ws), .d (.lst ls), .d (.int ((n + 1 : Nat) : Int)), .pl [.int p'], x5, .d (.tup (w :: r')), x7]) :
    Wp (tmBody c) [.pd K, .d (.lst ws), .d (.lst ls), .d (.int ((n + 1 : Nat) : Int)), .pl [.int p], x5, .d (.tup (w :: r)), x7] (turnK P R) := by
  unfold tmBody
  walk_at "r"
  refine lget1 rfl rfl ?_
  walk_at "r"
  refine ite_dec (fun z => ?_) fun z => ?_
  · walk_at "r"
    have en : ((n + 1 : Nat) : Int) - 1 = (n : Int) := by omega
    refine ⟨⟨rfl, rfl⟩, _, rfl, ?_⟩
    rw [en]
    refine (hc xs N K p hp hN (by omega)).mono ?_
    rintro d as' ⟨hd, K', p', rfl, hp', hp0, hps⟩
    show Wp mNil [Sl.pd K', Sl.d (D.lst ws), Sl.d (D.lst ls), Sl.d (D.int ((n + 1 : Nat) : Int)), Sl.pl [D.int p'], x5, Sl.d (D.tup (w :: r)), x7] _
    walk_at "r"
    have ha : addD (.tup (w :: r)) (.tup [d]) = some (.tup (w :: (r ++ [d]))) := if_pos (by rw [List.length_cons, List.length_cons, List.length_nil, sizeLine_eq]; omega)
    walk_at "r"
    refine q K' p' (r ++ [d]) hp' (fun x hx => ?_) (by rw [List.length_append]; simp) hp0 (by rw [preL_app, List.length_append]; show (((preL r).length + (pre d ++ []).length : Nat) : Int) + p' = _; rw [List.append_nil]; omega)
    rcases List.mem_append.mp hx with z | z
    · exact hr x z
    · rw [List.mem_singleton.mp z]; exact hd
  · walk_at "r"
    exact q K p r (hp.up (by omega)) hr (by omega) h0 rfl
theorem e_term2 (ws ls : List D) (hws : lex ws) (hls : lets ls) : ∀ n k : Nat, TermSz (cs (k + n + 2) 11) (tc n) (n + 1) ws ls
  | n, k => fun xs N K p hp hN hp1 => by
    have h2 := tc_ge n
    have ne := shs_emp hls
    refine (show Wc (defM 5 8 (m__law_term (cs (k + n + 1)))) _ _ from ?_)
    refine wc_def rfl rfl ?_; walk_at "n"
    unfold m__law_term
    walk_at "r"
    refine lget1 rfl rfl ?_
    walk_at "r"
    refine lput1 rfl ?_
    walk_at "n"
    walk_at "r"
    walk_at "d"
    rename_i w K1 w0 w1 p1
    walk_at "r"
    have tail : Wp (mSeq (mSet 6 (mTup (mCons (mOp ixD (mVar 1) (mCallP 2 0 (cs (k + n + 1) 8) (mCons (mCb lenD (mCons (mVar 1) mNil)) mNil))) mNil)))
    (mSeq (mFor (mIRng (mCons (mOp (intD fun i j => if CMul i j then some (.int (i * j)) else none) (mOp ixD (mLst (mSz (mCons (mC (.int 0)) (mCons (mC (.int 1)) (mCons (mC (.int 2)) (mCons (mC (.int 3)) (mCons (mC (.int 3)) mNil))))))) (mVar 5)) (mCb intOfD (mCons (mOp gtD (mVar 3) (mC (.int 1))) mNil))) mNil)) 7 (tmBody (cs (k + n + 1)))) (mRet (mVar 6))))
      [.pd K1, .d (.lst ws), .d (.lst ls), .d (.int ((n + 1 : Nat) : Int)), .pl [.int (p - 1)], .d (.int w), .no, .no]
      (defK [.pd K, .d (.lst ws), .d (.lst ls), .d (.int ((n + 1 : Nat) : Int)), .pl [.int p]] fun d as' => Tre 19 (n + 1) d ∧ ∃ K' p', as' = [.pd K', .d (.lst ws), .d (.lst ls), .d (.int ((n + 1 : Nat) : Int)), .pl [.int p']] ∧ PenAt xs (N + tc n) K' ∧ 0 ≤ p' ∧ ((pre d).length : Int) + p' = p) := by
      walk_at "r"
      refine wp_pick (k + n) rfl ⟨hws.1, hws.2.1⟩ hws.2.2 p1 (by omega) fun d K2 hd p2 => ?_
      walk_at "r"
      obtain ⟨m, em, m0, m1⟩ := range5 w0 w1
      have cm : ∀ j : Int, CMul m j := fun j => .inl ⟨by omega, by omega⟩
      walk_at "r"
      refine ⟨_, if_pos (cm _), ?_⟩
      walk_at "r"
      cases n with
      | zero =>
        have e0 : m * (if decide ((1 : Int) < ((0 + 1 : Nat) : Int)) = true then (1 : Int) else 0) = 0 := Int.mul_zero m
        rw [e0]
        refine ⟨by decide, ?_⟩
        refine for_nil ?_
        walk_at "r"
        exact ⟨.node (r := []) hd (by decide) (fun _ z => by cases z), K2, p - 1, rfl, p2.up (by omega), by omega, by show ((1 : Nat) : Int) + (p - 1) = p; omega⟩
      | succ n =>
        have e1 : m * (if decide ((1 : Int) < ((n + 1 + 1 : Nat) : Int)) = true then (1 : Int) else 0) = m := by rw [decide_eq_true (by omega), if_pos rfl, Int.mul_one]
        rw [e1]
        have et : (tc (n + 1) : Int) = 2 + 3 * (tc n : Int) := by show ((2 + 3 * tc n : Nat) : Int) = _; omega
        refine ⟨by omega, ?_⟩
        have ih := e_term2 ws ls hws hls n k
        refine for_inv (fun i e => ∃ K' p' r x7, e = [.pd K', .d (.lst ws), .d (.lst ls), .d (.int ((n + 1 + 1 : Nat) : Int)), .pl [.int p'], .d (.int w), .d (.tup (d :: r)), x7] ∧ PenAt xs (N + 2 + i * tc n) K' ∧ r.length ≤ i ∧ (∀ x ∈ r, Tre 19 (n + 1) x) ∧ Plain x7 ∧ 0 ≤ p' ∧ ((preL r).length : Int) + p' = p - 1) (upto m.toNat) 0 _ ⟨K2, p - 1, [], .no, rfl, p2.up (by omega), Nat.le_refl _, (fun _ z => by cases z), .no, by omega, by show ((0 : Nat) : Int) + (p - 1) = _; omega⟩ ?_ ?_
        · rintro i y e hy ⟨K', p', r, x7, rfl, hp', hrl, hr, h7, g0, gs⟩
          obtain ⟨rfl, hi⟩ := upto_get hy
          rw [Nat.zero_add] at hp' hrl ⊢
          have f7 : freeB [.pd K', .d (.lst ws), .d (.lst ls), .d (.int ((n + 1 + 1 : Nat) : Int)), .pl [.int p'], .d (.int w), .d (.tup (d :: r)), x7] 7 = true := by rcases h7 with rfl | ⟨y, rfl⟩ <;> rfl
          have hm : i * tc n ≤ 2 * tc n := Nat.mul_le_mul_right _ (by omega)
          have hm' : (i : Int) * (tc n : Int) ≤ 2 * (tc n : Int) := by exact_mod_cast hm
          have es : ((i + 1 : Nat) : Int) * (tc n : Int) = (i : Int) * (tc n : Int) + tc n := by rw [Int.natCast_add, Int.add_mul]; omega
          refine ⟨f7, ?_⟩
          refine tm_turn2 (n := n + 1) ih hp' (by omega) hr (by omega) g0 fun K3 p3 r' hp3 hr' hl' k0 ks => ?_
          exact ⟨K3, p3, r', _, rfl, hp3.up (by omega), by omega, hr', .d _, k0, by omega⟩
        · rintro e ⟨K', p', r, x7, rfl, hp', hrl, hr, h7, g0, gs⟩
          rw [Nat.zero_add, upto_length] at hp' hrl
          have hm : m.toNat * tc n ≤ 3 * tc n := Nat.mul_le_mul_right _ (by omega)
          have hm' : (m.toNat : Int) * (tc n : Int) ≤ 3 * (tc n : Int) := by exact_mod_cast hm
          walk_at "r"
          exact ⟨.node hd (by omega) hr, K', p', rfl, hp'.up (by omega), g0, by rw [pre_tup, List.length_cons]; omega⟩
    refine ite_b (fun z => ?_) fun z => ?_
    · walk_at "r"
      refine ite_dec (fun z2 => ?_) fun z2 => ?_
      · walk_at "r"
        have hl : 0 < ls.length := by
          cases ls with
          | nil => cases z
          | cons _ _ => rw [List.length_cons]; omega
        refine wp_pick (k + n) rfl ⟨hl, by have := hls.1; omega⟩ hls.2 p1 (by omega) fun d K2 hd p2 => ?_
        obtain ⟨s, rfl, _⟩ := id hd
        exact ⟨.leaf hd, K2, p - 1, rfl, p2.up (by omega), by omega, by show ((1 : Nat) : Int) + (p - 1) = p; omega⟩
      · with_reducible refine wp_next ?_
        with_reducible refine wk_nx ?_
        exact tail
    · refine ite_f ?_
      with_reducible refine wp_next ?_
      with_reducible refine wk_nx ?_
      exact tail

end Nv

set_option Elab.async false
set_option linter.all false
set_option maxRecDepth 100000
set_option maxHeartbeats 1000000
namespace Nv
open PySem L2 PyProof.Rows PySem.Spec
local macro_rules | `(tactic| walk_at "n") => `(tactic| try simp only [List.set_cons_zero, List.set_cons_succ, List.map_cons, List.map_nil, List.cons_append, List.nil_append, List.replicate, Nat.reduceSub])
local macro_rules | `(tactic| walk_at "s") => `(tactic| first
  | with_reducible refine wp_seq ?_ | with_reducible refine wk_nx ?_ | with_reducible refine wk_rt ?_ | with_reducible refine wt_nx ?_ | with_reducible refine wt_rt ?_ | with_reducible refine wt_bk ?_ | with_reducible refine wt_ct ?_ | with_reducible refine wk_bk ?_ | with_reducible refine wk_ct ?_
  | with_reducible refine wp_if ?_ | with_reducible refine wp_ret ?_ | with_reducible refine wp_next ?_ | with_reducible refine wp_retN ?_ | with_reducible refine wp_set ?_ | with_reducible refine wp_own ?_ | with_reducible refine wp_drop ?_
  | ((with_reducible refine' wp_var ?_ ?_); rotate_left; rfl) | ((with_reducible refine' wp_varL ?_ ?_); rotate_left; rfl) | ((with_reducible refine' wp_app ?_ ?_); rotate_left; rfl) | ((with_reducible refine' wp_lget ?_ ?_ ?_); rotate_left 2; (· rfl); (· rfl)) | with_reducible refine wp_lput ?_ | ((with_reducible refine' wp_lown ?_ ?_ ?_); rotate_left; (· rfl); (· rfl)) | ((with_reducible refine' wp_fown ?_ ?_ ?_); rotate_left; (· rfl); (· rfl)) | with_reducible refine wp_c ?_ | with_reducible refine wp_op ?_ | with_reducible refine wp_un ?_ | with_reducible refine wp_cb ?_ | with_reducible refine wp_cons ?_ | with_reducible refine wp_nil ?_
  | with_reducible refine wp_bl ?_ | with_reducible refine wp_tru ?_ | with_reducible refine wp_not ?_ | with_reducible refine wp_and ?_ | with_reducible refine wp_or ?_ | with_reducible refine wp_andV ?_ | with_reducible refine wp_orV ?_ | with_reducible refine wp_notV ?_
  | with_reducible refine wp_chain ?_ | with_reducible refine wp_sz ?_ | with_reducible refine wp_lst ?_ | with_reducible refine wp_tup ?_ | with_reducible refine wp_is ?_ | with_reducible refine wp_onone ?_ | with_reducible refine wp_osome ?_ | with_reducible refine wp_sl ?_ | with_reducible refine wp_m1 ?_
  | with_reducible refine wp_all ?_ | with_reducible refine wp_repr ?_ | with_reducible refine wp_peek ?_ | with_reducible refine wp_peekT ?_ | with_reducible refine wp_addF ?_ | with_reducible refine wp_ilist ?_ | with_reducible refine wp_itup ?_ | with_reducible refine wp_istr ?_ | with_reducible refine wp_irng ?_ | with_reducible refine wp_list ?_ | with_reducible refine wp_listS ?_
  | with_reducible refine wp_for ?_ | with_reducible refine wp_call ?_ | with_reducible refine wp_callK ?_ | with_reducible refine wp_lnil ?_ | with_reducible refine wp_ldat ?_ | with_reducible refine wp_callL ?_ | with_reducible refine wp_flast ?_ | with_reducible refine wp_fdat ?_ | with_reducible refine wp_callF ?_
  | with_reducible refine ⟨_, (by assumption : _ = some _), ?_⟩
  | ((with_reducible refine' call_and ?_ ?_ ?_); rotate_left 2; (· rfl); (· assumption)) | ((with_reducible refine' callk_and ?_ ?_ ?_); rotate_left 2; (· exact ⟨rfl, rfl⟩); (· assumption))
  | refine ite_t ?_ | refine ite_f ?_ | refine ite_nt ?_ | refine ite_nf ?_
  | with_reducible refine ⟨_, add_int, ?_⟩ | with_reducible refine ⟨_, iadd_int, ?_⟩ | with_reducible refine ⟨_, sub_int, ?_⟩ | with_reducible refine ⟨_, lt_int, ?_⟩ | with_reducible refine ⟨_, le_int, ?_⟩ | with_reducible refine ⟨_, gt_int, ?_⟩ | with_reducible refine ⟨_, ge_int, ?_⟩ | with_reducible refine ⟨_, eq_int, ?_⟩
  | with_reducible refine ⟨_, len_lst, ?_⟩ | with_reducible refine ⟨_, len_tup, ?_⟩ | with_reducible refine ⟨_, tru_bl, ?_⟩ | with_reducible refine ⟨_, int_int _, ?_⟩ | with_reducible refine ⟨_, int_bl _, ?_⟩
  | with_reducible refine ⟨_, rfl, ?_⟩ | ((with_reducible refine free_and ?_ ?_); (· first | rfl | assumption); walk_at "n") | with_reducible refine rok_and (by assumption) ?_ | ((with_reducible refine kind_and ?_ ?_); (· first | rfl | assumption)) | ((with_reducible refine size_and ?_ ?_); (· simp only [List.length_cons, List.length_nil, sizeLine_eq]; omega))
  | with_reducible refine ite_y (by assumption) ?_ | with_reducible refine ite_n (by assumption) ?_ | with_reducible refine ite_ny (by assumption) ?_ | with_reducible refine ite_nn (by assumption) ?_ | with_reducible refine ite_bt (by assumption) ?_ | with_reducible refine ite_bf (by assumption) ?_ | with_reducible refine ite_nbt (by assumption) ?_ | with_reducible refine ite_nbf (by assumption) ?_)
local macro_rules | `(tactic| walk_at "r") => `(tactic| repeat walk_at "s")
local macro_rules | `(tactic| walk_at "f") => `(tactic| (refine ⟨rfl, ?_⟩; walk_at "n"))
local macro_rules | `(tactic| walk_at "d") => `(tactic| (with_reducible refine wp_draw' (by assumption) (by omega) (by decide) ?_; intro _ _ _ _ _))
/-! Fi9: sizes; what is filled is a tree. -/
theorem wtAll_cons (d : D) (r : List D) : wtAll (d :: r) = wt d + 2 + wtAll r := rfl
theorem wtAll_pre : ∀ {r : List D}, (∀ x ∈ r, wt x + 2 ≤ 250 * (pre x).length) → wtAll r ≤ 250 * (preL r).length
  | [], _ => Nat.zero_le _
  | d :: r, h => by
    have a := h d List.mem_cons_self
    have b := wtAll_pre fun x hx => h x (List.mem_cons_of_mem _ hx)
    rw [preL_cons, List.length_append]
    have e : wtAll (d :: r) = wt d + 2 + wtAll r := wtAll_cons d r
    omega
theorem tre_wt {n : Nat} {d : D} (h : Tre 19 n d) : wt d + 2 ≤ 250 * (pre d).length := by
  induction h with
  | leaf h =>
    obtain ⟨s, rfl, a, b⟩ := h
    show 10 * s.length + 2 + 2 ≤ 250 * 1
    omega
  | @node n w r hw hl hr ih =>
    obtain ⟨s, rfl, a, b⟩ := hw
    have q := wtAll_pre ih
    rw [pre_tup, List.length_cons]
    have e : wt (.tup (.str s :: r)) = 10 * s.length + 2 + 2 + wtAll r + 3 := by
      show wtAll (.str s :: r) + 3 = _
      rw [wtAll_cons]
      rfl
    omega
theorem tre_ok {n : Nat} {d : D} (h : Tre 19 n d) : okB d = true ∧ d.py.depth ≤ n ∧ noDct d ∧ noLst d := by
  have := h.ok (by decide)
  exact ⟨this.ok, this.dp, this.nd, this.nl⟩
theorem rok_tre {n : Nat} {d : D} (h : Tre 19 n d) (hn : n ≤ 50) (hl : (pre d).length ≤ 5000) : rokB d = true := by
  obtain ⟨a, b, c, e⟩ := tre_ok h
  have w := tre_wt h
  exact rok_of a (by omega) (by omega) (tells_nd c)
theorem tre_all {n : Nat} {ts : List D} (h : ∀ t ∈ ts, Tre 19 n t) : okAll ts = true ∧ wtAll ts ≤ 250 * (preL ts).length ∧ PyData.depthAll (pyAll ts) ≤ n ∧ (∀ t ∈ ts, noDct t) ∧ ∀ t ∈ ts, noLst t :=
  ⟨okAll_iff.mpr fun d hd => (tre_ok (h d hd)).1, wtAll_pre fun d hd => tre_wt (h d hd), depthAll_le fun d hd => (tre_ok (h d hd)).2.1, fun d hd => (tre_ok (h d hd)).2.2.1, fun d hd => (tre_ok (h d hd)).2.2.2⟩
theorem rok_tup {n : Nat} {ts : List D} (h : ∀ t ∈ ts, Tre 19 n t) (hn : n ≤ 50) (hl : (preL ts).length ≤ 20000) : rokB (.tup ts) = true := by
  obtain ⟨a, b, c, e, f⟩ := tre_all h
  refine rok_of a ?_ ?_ (tells_nd (nd_tup e))
  · show wtAll ts + 3 ≤ _
    omega
  · show PyData.depthAll (pyAll ts) + 1 ≤ _
    omega
theorem rok_lst {n : Nat} {ts : List D} (h : ∀ t ∈ ts, Tre 19 n t) (hn : n ≤ 50) (hl : (preL ts).length ≤ 20000) : rokB (.lst ts) = true := by
  obtain ⟨a, b, c, e, f⟩ := tre_all h
  refine rok_of a ?_ ?_ (tells_nd (nd_lst e))
  · show wtAll ts + 3 ≤ _
    omega
  · show PyData.depthAll (pyAll ts) + 1 ≤ _
    omega
theorem tre_fill {L m : Nat} {f : Str → D} (hf : ∀ s, Shs 4 (.str s) → Tre L m (f s)) {n : Nat} {d : D} (h : Tre L n d) : Tre L (n + m) (fillD f d) := by
  induction h with
  | leaf h =>
    obtain ⟨s, rfl, a, b⟩ := h
    exact (hf s ⟨s, rfl, a, b⟩).up (by omega)
  | @node n w r hw hl hr ih =>
    rw [fill_tup, show n + 1 + m = n + m + 1 by omega]
    refine .node hw (by rw [fillL_len]; exact hl) fun x hx => ?_
    rw [fillL_map] at hx
    obtain ⟨y, hy, rfl⟩ := List.mem_map.mp hx
    exact ih y hy
theorem fillL_size {f : Str → D} {b : Nat} : ∀ {r : List D}, (∀ x ∈ r, (pre (fillD f x)).length ≤ b * (pre x).length) → (preL (fillL f r)).length ≤ b * (preL r).length
  | [], _ => Nat.zero_le _
  | d :: r, h => by
    have a := h d List.mem_cons_self
    have c := fillL_size fun x hx => h x (List.mem_cons_of_mem _ hx)
    show (pre (fillD f d) ++ preL (fillL f r)).length ≤ b * (pre d ++ preL r).length
    rw [List.length_append, List.length_append, Nat.mul_add]
    omega
theorem fill_size {L b : Nat} {f : Str → D} (hb : 1 ≤ b) (hf : ∀ s, Shs 4 (.str s) → (pre (f s)).length ≤ b) {n : Nat} {d : D} (h : Tre L n d) : (pre (fillD f d)).length ≤ b * (pre d).length := by
  induction h with
  | leaf h =>
    obtain ⟨s, rfl, a, c⟩ := h
    show (pre (f s)).length ≤ b * 1
    rw [Nat.mul_one]
    exact hf s ⟨s, rfl, a, c⟩
  | @node n w r hw hl hr ih =>
    rw [fill_tup, pre_tup, pre_tup, List.length_cons, List.length_cons, Nat.mul_add]
    have := fillL_size ih
    omega
theorem putD_all {P : D → Prop} {kvs : List (Key × D)} {k : Key} {d : D} (h : ∀ kv ∈ kvs, P kv.2) (hd : P d) : ∀ kv ∈ putD kvs k d, P kv.2 := by
  unfold putD
  split
  · intro kv hkv
    obtain ⟨x, hx, rfl⟩ := List.mem_map.mp hkv
    split
    · exact hd
    · exact h x hx
  · intro kv hkv
    rcases List.mem_append.mp hkv with z | z
    · exact h kv z
    · rw [List.mem_singleton.mp z]
      exact hd
theorem merge_all {P : D → Prop} : ∀ {more kvs : List (Key × D)}, (∀ kv ∈ kvs, P kv.2) → (∀ kv ∈ more, P kv.2) → ∀ kv ∈ mergeD kvs more, P kv.2
  | [], _, h, _ => h
  | a :: more, kvs, h, g => merge_all (more := more) (kvs := putD kvs a.1 a.2) (putD_all h (g a List.mem_cons_self)) fun kv hkv => g kv (List.mem_cons_of_mem _ hkv)
theorem val_mem {kvs : List (Key × D)} {k : Key} {d : D} (h : valD kvs k = some d) : ∃ kv ∈ kvs, kv.2 = d := by
  unfold valD at h
  cases q : kvs.find? fun kv => decide (kv.1 = k) with
  | none => rw [q] at h; cases h
  | some x =>
    rw [q] at h
    cases h
    exact ⟨x, List.mem_of_find?_eq_some q, rfl⟩
theorem look_all {P : D → Prop} {kvs : List (Key × D)} (h : ∀ kv ∈ kvs, P kv.2) (g : ∀ s, Shs 4 (.str s) → P (.str s)) : ∀ s, Shs 4 (.str s) → P (lookF kvs s) := fun s hs => by
  unfold lookF
  cases q : valD kvs (.inr s) with
  | none => exact g s hs
  | some d =>
    obtain ⟨kv, a, rfl⟩ := val_mem q
    exact h kv a
theorem ren_all : ∀ (vs : List Str) (n : Nat), n + vs.length ≤ 1000 → ∀ kv ∈ renL n vs, Shs 4 kv.2
  | [], _, _ => fun kv h => by cases h
  | s :: vs, n, hn => fun kv h => by
    rw [List.length_cons] at hn
    rcases List.mem_cons.mp h with z | z
    · obtain ⟨a, b, c⟩ := new_ok (n := n) (by omega)
      rw [z]
      exact ⟨newStr n, rfl, a, b⟩
    · exact ren_all vs (n + 1) (by omega) kv z
/-- the renamed trees are trees -/
theorem ren_tre {n : Nat} {ts : List D} (h : ∀ t ∈ ts, Tre 19 n t) (hl : (preL ts).length < 1000) : rokB (.tup (fillL (lookF (mergeD [] (renL 0 (varsS (preL ts))))) ts)) = true ∨ 50 < n := by
  by_cases hn : n ≤ 50
  · refine .inl ?_
    have hv := addVs_len (preL ts) []
    have hv : (varsS (preL ts)).length ≤ 0 + (preL ts).length := hv
    have look := look_all (P := Shs 4) (kvs := mergeD [] (renL 0 (varsS (preL ts)))) (merge_all (fun kv h => by cases h) (ren_all _ 0 (by omega))) fun s hs => hs
    refine rok_tup (n := n) (fun t ht => ?_) hn ?_
    · rw [fillL_map] at ht
      obtain ⟨y, hy, rfl⟩ := List.mem_map.mp ht
      exact tre_fill (m := 0) (fun s hs => .leaf (look s hs)) (h y hy)
    · have := fillL_size (b := 1) (r := ts) fun x hx => fill_size (f := lookF (mergeD [] (renL 0 (varsS (preL ts))))) (Nat.le_refl _) (fun s hs => by
        obtain ⟨z, e, _⟩ := look s hs
        rw [e]
        exact Nat.le_refl 1) (h x hx)
      omega
  · exact .inr (by omega)

end Nv

set_option Elab.async false
set_option linter.all false
set_option maxRecDepth 100000
set_option maxHeartbeats 1000000
namespace Nv
open PySem L2 PyProof.Rows PySem.Spec
local macro_rules | `(tactic| walk_at "n") => `(tactic| try simp only [List.set_cons_zero, List.set_cons_succ, List.map_cons, List.map_nil, List.cons_append, List.nil_append, List.replicate, Nat.reduceSub])
local macro_rules | `(tactic| walk_at "s") => `(tactic| first
  | with_reducible refine wp_seq ?_ | with_reducible refine wk_nx ?_ | with_reducible refine wk_rt ?_ | with_reducible refine wt_nx ?_ | with_reducible refine wt_rt ?_ | with_reducible refine wt_bk ?_ | with_reducible refine wt_ct ?_ | with_reducible refine wk_bk ?_ | with_reducible refine wk_ct ?_
  | with_reducible refine wp_if ?_ | with_reducible refine wp_ret ?_ | with_reducible refine wp_next ?_ | with_reducible refine wp_retN ?_ | with_reducible refine wp_set ?_ | with_reducible refine wp_own ?_ | with_reducible refine wp_drop ?_
  | ((with_reducible refine' wp_var ?_ ?_); rotate_left; rfl) | ((with_reducible refine' wp_varL ?_ ?_); rotate_left; rfl) | ((with_reducible refine' wp_app ?_ ?_); rotate_left; rfl) | ((with_reducible refine' wp_lget ?_ ?_ ?_); rotate_left 2; (· rfl); (· rfl)) | with_reducible refine wp_lput ?_ | ((with_reducible refine' wp_lown ?_ ?_ ?_); rotate_left; (· rfl); (· rfl)) | ((with_reducible refine' wp_fown ?_ ?_ ?_); rotate_left; (· rfl); (· rfl)) | with_reducible refine wp_c ?_ | with_reducible refine wp_op ?_ | with_reducible refine wp_un ?_ | with_reducible refine wp_cb ?_ | with_reducible refine wp_cons ?_ | with_reducible refine wp_nil ?_
  | with_reducible refine wp_bl ?_ | with_reducible refine wp_tru ?_ | with_reducible refine wp_not ?_ | with_reducible refine wp_and ?_ | with_reducible refine wp_or ?_ | with_reducible refine wp_andV ?_ | with_reducible refine wp_orV ?_ | with_reducible refine wp_notV ?_
  | with_reducible refine wp_chain ?_ | with_reducible refine wp_sz ?_ | with_reducible refine wp_lst ?_ | with_reducible refine wp_tup ?_ | with_reducible refine wp_is ?_ | with_reducible refine wp_onone ?_ | with_reducible refine wp_osome ?_ | with_reducible refine wp_sl ?_ | with_reducible refine wp_m1 ?_
  | with_reducible refine wp_all ?_ | with_reducible refine wp_repr ?_ | with_reducible refine wp_peek ?_ | with_reducible refine wp_peekT ?_ | with_reducible refine wp_addF ?_ | with_reducible refine wp_ilist ?_ | with_reducible refine wp_itup ?_ | with_reducible refine wp_istr ?_ | with_reducible refine wp_irng ?_ | with_reducible refine wp_list ?_ | with_reducible refine wp_listS ?_
  | with_reducible refine wp_for ?_ | with_reducible refine wp_call ?_ | with_reducible refine wp_callK ?_ | with_reducible refine wp_lnil ?_ | with_reducible refine wp_ldat ?_ | with_reducible refine wp_callL ?_ | with_reducible refine wp_flast ?_ | with_reducible refine wp_fdat ?_ | with_reducible refine wp_callF ?_
  | with_reducible refine ⟨_, (by assumption : _ = some _), ?_⟩
  | ((with_reducible refine' call_and ?_ ?_ ?_); rotate_left 2; (· rfl); (· assumption)) | ((with_reducible refine' callk_and ?_ ?_ ?_); rotate_left 2; (· exact ⟨rfl, rfl⟩); (· assumption))
  | refine ite_t ?_ | refine ite_f ?_ | refine ite_nt ?_ | refine ite_nf ?_
  | with_reducible refine ⟨_, add_int, ?_⟩ | with_reducible refine ⟨_, iadd_int, ?_⟩ | with_reducible refine ⟨_, sub_int, ?_⟩ | with_reducible refine ⟨_, lt_int, ?_⟩ | with_reducible refine ⟨_, le_int, ?_⟩ | with_reducible refine ⟨_, gt_int, ?_⟩ | with_reducible refine ⟨_, ge_int, ?_⟩ | with_reducible refine ⟨_, eq_int, ?_⟩
  | with_reducible refine ⟨_, len_lst, ?_⟩ | with_reducible refine ⟨_, len_tup, ?_⟩ | with_reducible refine ⟨_, tru_bl, ?_⟩ | with_reducible refine ⟨_, int_int _, ?_⟩ | with_reducible refine ⟨_, int_bl _, ?_⟩
  | with_reducible refine ⟨_, rfl, ?_⟩ | ((with_reducible refine free_and ?_ ?_); (· first | rfl | assumption); walk_at "n") | with_reducible refine rok_and (by assumption) ?_ | ((with_reducible refine kind_and ?_ ?_); (· first | rfl | assumption)) | ((with_reducible refine size_and ?_ ?_); (· simp only [List.length_cons, List.length_nil, sizeLine_eq]; omega))
  | with_reducible refine ite_y (by assumption) ?_ | with_reducible refine ite_n (by assumption) ?_ | with_reducible refine ite_ny (by assumption) ?_ | with_reducible refine ite_nn (by assumption) ?_ | with_reducible refine ite_bt (by assumption) ?_ | with_reducible refine ite_bf (by assumption) ?_ | with_reducible refine ite_nbt (by assumption) ?_ | with_reducible refine ite_nbf (by assumption) ?_)
local macro_rules | `(tactic| walk_at "r") => `(tactic| repeat walk_at "s")
local macro_rules | `(tactic| walk_at "f") => `(tactic| (refine ⟨rfl, ?_⟩; walk_at "n"))
local macro_rules | `(tactic| walk_at "d") => `(tactic| (with_reducible refine wp_draw' (by assumption) (by omega) (by decide) ?_; intro _ _ _ _ _))
/-! Fi10: fills, and what is filled by them. -/
structure SwapD (kvs : List (Key × D)) : Prop where
  few : kvs.length ≤ 10
  each : ∀ kv ∈ kvs, (∃ s, kv.1 = .inr s ∧ Shs 4 (.str s)) ∧ Tre 19 5 kv.2 ∧ (pre kv.2).length ≤ 9
theorem kv_facts : ∀ {kvs : List (Key × D)}, (∀ kv ∈ kvs, (∃ s, kv.1 = .inr s ∧ Shs 4 (.str s)) ∧ Tre 19 5 kv.2 ∧ (pre kv.2).length ≤ 9) → okKv kvs = true ∧ wtKv kvs ≤ kvs.length * 3256 ∧ PyData.depthKv (pyKv kvs) ≤ 5 ∧ noListKv (pyKv kvs) = true
  | [], _ => ⟨rfl, Nat.zero_le _, Nat.zero_le _, rfl⟩
  | (k, d) :: r, h => by
    obtain ⟨a, b, c, e⟩ := kv_facts fun kv hkv => h kv (List.mem_cons_of_mem _ hkv)
    obtain ⟨⟨s, rfl, x, hx, g1, g2⟩, g3, g4⟩ := h (k, d) List.mem_cons_self
    cases hx
    have g3 : Tre 19 5 d := g3
    have g4 : (pre d).length ≤ 9 := g4
    obtain ⟨o1, o2, o3, o4⟩ := tre_ok g3
    have o5 := tre_wt g3
    refine ⟨?_, ?_, ?_, ?_⟩
    · show (strB s && okB d && okKv r) = true
      rw [g1, o1, a]
      rfl
    · rw [List.length_cons, Nat.add_mul]
      show 1006 + wt d + wtKv r ≤ _
      omega
    · show max (max 0 d.py.depth) (PyData.depthKv (pyKv r)) ≤ 5
      omega
    · show (noList d.py && noListKv (pyKv r)) = true
      rw [show noList d.py = true from o4, e]
      rfl
theorem SwapD.okB {kvs : List (Key × D)} (h : SwapD kvs) : okB (.dct kvs) = true ∧ wt (.dct kvs) ≤ 40000 ∧ (D.dct kvs).py.depth ≤ 6 ∧ noLst (.dct kvs) := by
  obtain ⟨a, b, c, e⟩ := kv_facts h.each
  have := h.few
  refine ⟨a, ?_, ?_, e⟩
  · show wtKv kvs + 3 ≤ _
    have : kvs.length * 3256 ≤ 10 * 3256 := Nat.mul_le_mul_right _ h.few
    omega
  · show PyData.depthKv (pyKv kvs) + 1 ≤ 6
    omega
theorem SwapD.rokL {kvs : List (Key × D)} (h : SwapD kvs) {n : Nat} {t : D} (ht : Tre 19 n t) (hn : n ≤ 50) (hl : (pre t).length ≤ 5000) : rokL [t, .dct kvs] = true := by
  obtain ⟨a, b, c, e⟩ := h.okB
  obtain ⟨o1, o2, o3, o4⟩ := tre_ok ht
  have o5 := tre_wt ht
  have hk : Nv.okB (.lst [t, .dct kvs]) = true := okAll_iff.mpr fun d hd => by
    rcases List.mem_cons.mp hd with z | z
    · rw [z]; exact o1
    · rw [List.mem_singleton.mp z]; exact a
  obtain ⟨w1, w2, w3⟩ := wt_ok _ hk
  have hw : wt (.lst [t, .dct kvs]) ≤ 16000000 := by
    show wtAll [t, .dct kvs] + 3 ≤ _
    rw [wtAll_cons, wtAll_cons]
    show wt t + 2 + (wt (.dct kvs) + 2 + 0) + 3 ≤ _
    omega
  have hd : (D.lst [t, .dct kvs]).py.depth ≤ 60 := by
    show max t.py.depth (max (D.dct kvs).py.depth 0) + 1 ≤ 60
    omega
  have nl : noListAll (pyAll [t, .dct kvs]) = true := nl_all fun d hd => by
    rcases List.mem_cons.mp hd with z | z
    · rw [z]; exact o4
    · rw [List.mem_singleton.mp z]; exact e
  have w3 : plainAll [t, .dct kvs] = true := w3
  have hs : sizeLine = 16777216 := sizeLine_eq
  unfold Nv.rokL
  rw [w3, nl, w2, decide_eq_true hd, decide_eq_true (show (D.lst [t, .dct kvs]).py.shown.length ≤ sizeLine by omega), decide_eq_true (show [t, D.dct kvs].length ≤ sizeLine by rw [List.length_cons, List.length_cons, List.length_nil]; omega)]
  rfl
/-! the same fill, its keys turned about -/
theorem val_cons_eq (k : Key) (d : D) (r : List (Key × D)) : valD ((k, d) :: r) k = some d := by simp [valD, List.find?_cons]
theorem val_cons_ne {k k' : Key} (d : D) (r : List (Key × D)) (h : ¬ k = k') : valD ((k, d) :: r) k' = valD r k' := by simp [valD, List.find?_cons, h]
theorem val_map (k : Key) (d : D) (k' : Key) : ∀ kvs : List (Key × D), (kvs.any fun kv => decide (kv.1 = k)) = true → valD (kvs.map fun kv => if kv.1 = k then (kv.1, d) else kv) k' = if k = k' then some d else valD kvs k'
  | [], h => by cases h
  | (a, x) :: r, h => by
    rw [List.map_cons]
    by_cases ha : a = k
    · subst ha
      rw [show (if (a, x).1 = a then ((a, x).1, d) else (a, x)) = (a, d) from if_pos rfl]
      by_cases hk : a = k'
      · subst hk
        rw [val_cons_eq, if_pos rfl]
      · rw [val_cons_ne _ _ hk, val_cons_ne _ _ hk, if_neg hk]
        -- the rest may have the key again
        by_cases hr : (r.any fun kv => decide (kv.1 = a)) = true
        · rw [val_map a d k' r hr, if_neg hk]
        · congr 1
          refine (List.map_congr_left fun kv hkv => ?_).trans (List.map_id r)
          have : ¬ kv.1 = a := fun z => hr (List.any_eq_true.mpr ⟨kv, hkv, decide_eq_true z⟩)
          rw [if_neg this]
          rfl
    · rw [show (if (a, x).1 = k then ((a, x).1, d) else (a, x)) = (a, x) from if_neg ha]
      have hr : (r.any fun kv => decide (kv.1 = k)) = true := by
        rw [List.any_cons, Bool.or_eq_true] at h
        rcases h with z | z
        · exact absurd (of_decide_eq_true z) ha
        · exact z
      by_cases hk : a = k'
      · subst hk
        rw [val_cons_eq, val_cons_eq, if_neg (fun z => ha z.symm)]
      · rw [val_cons_ne _ _ hk, val_cons_ne _ _ hk, val_map k d k' r hr]
theorem val_app (k : Key) (d : D) (k' : Key) : ∀ kvs : List (Key × D), ¬ (kvs.any fun kv => decide (kv.1 = k)) = true → valD (kvs ++ [(k, d)]) k' = if k = k' then some d else valD kvs k'
  | [], _ => by
    by_cases hk : k = k'
    · subst hk
      rw [if_pos rfl]
      exact val_cons_eq k d []
    · rw [if_neg hk]
      exact val_cons_ne d [] hk
  | (a, x) :: r, h => by
    have ha : ¬ a = k := fun z => h (by rw [List.any_cons, decide_eq_true z]; rfl)
    have hr : ¬ (r.any fun kv => decide (kv.1 = k)) = true := fun z => h (by rw [List.any_cons, z, Bool.or_true])
    rw [List.cons_append]
    by_cases hk : a = k'
    · subst hk
      rw [val_cons_eq, val_cons_eq, if_neg (fun z => ha z.symm)]
    · rw [val_cons_ne _ _ hk, val_cons_ne _ _ hk, val_app k d k' r hr]
theorem val_put (k : Key) (d : D) (k' : Key) (kvs : List (Key × D)) : valD (putD kvs k d) k' = if k = k' then some d else valD kvs k' := by
  unfold putD
  split
  · rename_i h
    exact val_map k d k' kvs h
  · rename_i h
    exact val_app k d k' kvs h
/-- a dict of pairs of keys and what stands there -/
theorem val_merge_no (k' : Key) : ∀ (l acc : List (Key × D)), ¬ k' ∈ l.map Prod.fst → valD (mergeD acc l) k' = valD acc k'
  | [], acc, _ => rfl
  | (a, x) :: l, acc, h => by
    show valD (mergeD (putD acc a x) l) k' = _
    have h2 : ¬ a = k' := fun z => h (by rw [z]; exact List.mem_cons_self)
    rw [val_merge_no k' l (putD acc a x) fun z => h (List.mem_cons_of_mem _ z), val_put, if_neg h2]
theorem val_merge (kvs : List (Key × D)) (k' : Key) : ∀ (l acc : List (Key × D)), (∀ p ∈ l, valD kvs p.1 = some p.2) → k' ∈ l.map Prod.fst → valD (mergeD acc l) k' = valD kvs k'
  | [], acc, _, h => by cases h
  | (a, x) :: l, acc, h, hk => by
    have hx : valD kvs a = some x := h (a, x) List.mem_cons_self
    show valD (mergeD (putD acc a x) l) k' = _
    by_cases h1 : k' ∈ l.map Prod.fst
    · exact val_merge kvs k' l (putD acc a x) (fun p hp => h p (List.mem_cons_of_mem _ hp)) h1
    · rw [val_merge_no k' l (putD acc a x) h1, val_put]
      rcases List.mem_cons.mp hk with z | z
      · have z : k' = a := z
        rw [if_pos z.symm, z, hx]
      · exact absurd z h1
theorem val_none {kvs : List (Key × D)} {k : Key} (h : ¬ k ∈ kvs.map Prod.fst) : valD kvs k = none := by
  unfold valD
  rw [List.find?_eq_none.mpr]
  · rfl
  · intro kv hkv z
    exact h (by rw [← of_decide_eq_true z]; exact List.mem_map_of_mem hkv)
theorem look_turned (kvs : List (Key × D)) {l : List (Key × D)} (h : ∀ p ∈ l, valD kvs p.1 = some p.2) (hk : ∀ k, k ∈ kvs.map Prod.fst → k ∈ l.map Prod.fst) : lookF (mergeD [] l) = lookF kvs := by
  funext s
  unfold lookF
  by_cases z : (Sum.inr s : Key) ∈ l.map Prod.fst
  · rw [val_merge kvs _ l [] h z]
  · rw [val_merge_no _ l [] z, val_none (kvs := kvs) fun y => z (hk _ y)]
    rfl
theorem rok_and {d : D} {P : Prop} (h : rokB d = true) (k : P) : rokB d = true ∧ P := ⟨h, k⟩

end Nv

set_option Elab.async false
set_option linter.all false
set_option maxRecDepth 100000
set_option maxHeartbeats 1000000
namespace Nv
open PySem L2 PyProof.Rows PySem.Spec
local macro_rules | `(tactic| walk_at "n") => `(tactic| try simp only [List.set_cons_zero, List.set_cons_succ, List.map_cons, List.map_nil, List.cons_append, List.nil_append, List.replicate, Nat.reduceSub])
local macro_rules | `(tactic| walk_at "s") => `(tactic| first
  | with_reducible refine wp_seq ?_ | with_reducible refine wk_nx ?_ | with_reducible refine wk_rt ?_ | with_reducible refine wt_nx ?_ | with_reducible refine wt_rt ?_ | with_reducible refine wt_bk ?_ | with_reducible refine wt_ct ?_ | with_reducible refine wk_bk ?_ | with_reducible refine wk_ct ?_
  | with_reducible refine wp_if ?_ | with_reducible refine wp_ret ?_ | with_reducible refine wp_next ?_ | with_reducible refine wp_retN ?_ | with_reducible refine wp_set ?_ | with_reducible refine wp_own ?_ | with_reducible refine wp_drop ?_
  | ((with_reducible refine' wp_var ?_ ?_); rotate_left; rfl) | ((with_reducible refine' wp_varL ?_ ?_); rotate_left; rfl) | ((with_reducible refine' wp_app ?_ ?_); rotate_left; rfl) | ((with_reducible refine' wp_lget ?_ ?_ ?_); rotate_left 2; (· rfl); (· rfl)) | with_reducible refine wp_lput ?_ | ((with_reducible refine' wp_lown ?_ ?_ ?_); rotate_left; (· rfl); (· rfl)) | ((with_reducible refine' wp_fown ?_ ?_ ?_); rotate_left; (· rfl); (· rfl)) | with_reducible refine wp_c ?_ | with_reducible refine wp_op ?_ | with_reducible refine wp_un ?_ | with_reducible refine wp_cb ?_ | with_reducible refine wp_cons ?_ | with_reducible refine wp_nil ?_
  | with_reducible refine wp_bl ?_ | with_reducible refine wp_tru ?_ | with_reducible refine wp_not ?_ | with_reducible refine wp_and ?_ | with_reducible refine wp_or ?_ | with_reducible refine wp_andV ?_ | with_reducible refine wp_orV ?_ | with_reducible refine wp_notV ?_
  | with_reducible refine wp_chain ?_ | with_reducible refine wp_sz ?_ | with_reducible refine wp_lst ?_ | with_reducible refine wp_tup ?_ | with_reducible refine wp_is ?_ | with_reducible refine wp_onone ?_ | with_reducible refine wp_osome ?_ | with_reducible refine wp_sl ?_ | with_reducible refine wp_m1 ?_
  | with_reducible refine wp_all ?_ | with_reducible refine wp_repr ?_ | with_reducible refine wp_peek ?_ | with_reducible refine wp_peekT ?_ | with_reducible refine wp_addF ?_ | with_reducible refine wp_ilist ?_ | with_reducible refine wp_itup ?_ | with_reducible refine wp_istr ?_ | with_reducible refine wp_irng ?_ | with_reducible refine wp_list ?_ | with_reducible refine wp_listS ?_
  | with_reducible refine wp_for ?_ | with_reducible refine wp_call ?_ | with_reducible refine wp_callK ?_ | with_reducible refine wp_lnil ?_ | with_reducible refine wp_ldat ?_ | with_reducible refine wp_callL ?_ | with_reducible refine wp_flast ?_ | with_reducible refine wp_fdat ?_ | with_reducible refine wp_callF ?_
  | with_reducible refine ⟨_, (by assumption : _ = some _), ?_⟩
  | ((with_reducible refine' call_and ?_ ?_ ?_); rotate_left 2; (· rfl); (· assumption)) | ((with_reducible refine' callk_and ?_ ?_ ?_); rotate_left 2; (· exact ⟨rfl, rfl⟩); (· assumption))
  | refine ite_t ?_ | refine ite_f ?_ | refine ite_nt ?_ | refine ite_nf ?_
  | with_reducible refine ⟨_, add_int, ?_⟩ | with_reducible refine ⟨_, iadd_int, ?_⟩ | with_reducible refine ⟨_, sub_int, ?_⟩ | with_reducible refine ⟨_, lt_int, ?_⟩ | with_reducible refine ⟨_, le_int, ?_⟩ | with_reducible refine ⟨_, gt_int, ?_⟩ | with_reducible refine ⟨_, ge_int, ?_⟩ | with_reducible refine ⟨_, eq_int, ?_⟩
  | with_reducible refine ⟨_, len_lst, ?_⟩ | with_reducible refine ⟨_, len_tup, ?_⟩ | with_reducible refine ⟨_, tru_bl, ?_⟩ | with_reducible refine ⟨_, int_int _, ?_⟩ | with_reducible refine ⟨_, int_bl _, ?_⟩
  | with_reducible refine ⟨_, rfl, ?_⟩ | ((with_reducible refine free_and ?_ ?_); (· first | rfl | assumption); walk_at "n") | with_reducible refine rok_and (by assumption) ?_ | ((with_reducible refine kind_and ?_ ?_); (· first | rfl | assumption)) | ((with_reducible refine size_and ?_ ?_); (· simp only [List.length_cons, List.length_nil, sizeLine_eq]; omega))
  | with_reducible refine ite_y (by assumption) ?_ | with_reducible refine ite_n (by assumption) ?_ | with_reducible refine ite_ny (by assumption) ?_ | with_reducible refine ite_nn (by assumption) ?_ | with_reducible refine ite_bt (by assumption) ?_ | with_reducible refine ite_bf (by assumption) ?_ | with_reducible refine ite_nbt (by assumption) ?_ | with_reducible refine ite_nbf (by assumption) ?_)
local macro_rules | `(tactic| walk_at "r") => `(tactic| repeat walk_at "s")
local macro_rules | `(tactic| walk_at "f") => `(tactic| (refine ⟨rfl, ?_⟩; walk_at "n"))
local macro_rules | `(tactic| walk_at "d") => `(tactic| (with_reducible refine wp_draw' (by assumption) (by omega) (by decide) ?_; intro _ _ _ _ _))
/-! Fi11: the law's filled_right. -/
theorem key_kD (k : Key) : keyD (kD k) = some k := by cases k <;> rfl
def trF (kvs : List (Key × D)) (d : D) : D := match keyD d with
  | some k => .tup [d, (valD kvs k).getD .non]
  | none => .non
theorem trF_k (kvs : List (Key × D)) (k : Key) : trF kvs (kD k) = .tup [kD k, (valD kvs k).getD .non] := by
  unfold trF
  rw [key_kD]
theorem pairs_of (g : Key × D → D) : ∀ ks : List (Key × D), pairsOf (ks.map fun kv => D.tup [kD kv.1, g kv]) = some (ks.map fun kv => (kv.1, g kv))
  | [] => rfl
  | (k, d) :: ks => by
    show (keyD (kD k)).bind _ = _
    rw [key_kD]
    show (pairsOf (ks.map fun kv => D.tup [kD kv.1, g kv])).bind _ = _
    rw [pairs_of g ks]
    rfl
theorem val_some : ∀ {kvs : List (Key × D)} {k : Key}, k ∈ kvs.map Prod.fst → ∃ d, valD kvs k = some d
  | [], _, h => by cases h
  | (a, x) :: r, k, h => by
    by_cases ha : a = k
    · subst ha
      exact ⟨x, val_cons_eq a x r⟩
    · rw [val_cons_ne _ _ ha]
      rcases List.mem_cons.mp h with z | z
      · exact absurd z.symm ha
      · exact val_some z
def turnL (kvs : List (Key × D)) : List (Key × D) := kvs.reverse.map fun kv => (kv.1, (valD kvs kv.1).getD .non)
theorem turn_pairs (kvs : List (Key × D)) : ((kvs.map fun kv => kD kv.1).reverse.map (trF kvs)) = kvs.reverse.map fun kv => D.tup [kD kv.1, (valD kvs kv.1).getD .non] := by
  rw [← List.map_reverse, List.map_map]
  refine List.map_congr_left fun kv _ => ?_
  exact trF_k kvs kv.1
theorem look_turn (kvs : List (Key × D)) : lookF (mergeD [] (turnL kvs)) = lookF kvs := by
  refine look_turned kvs (fun p hp => ?_) fun k hk => ?_
  · obtain ⟨kv, h1, rfl⟩ := List.mem_map.mp hp
    obtain ⟨d, hd⟩ := val_some (kvs := kvs) (k := kv.1) (List.mem_map_of_mem (List.mem_reverse.mp h1))
    show valD kvs kv.1 = some ((valD kvs kv.1).getD .non)
    rw [hd]
    rfl
  · obtain ⟨kv, h1, rfl⟩ := List.mem_map.mp hk
    exact List.mem_map.mpr ⟨_, List.mem_map.mpr ⟨kv, List.mem_reverse.mpr h1, rfl⟩, rfl⟩
theorem eq_str (a : Str) : eqXD (.str a) (.str a) = some (.bl true) := by
  show some (D.bl (decide (a = a))) = _
  rw [decide_eq_true rfl]
theorem rep_three {x : D} : repD (.lst [x]) (.int 3) = some (.lst [x, x, x]) := rfl
theorem e_right (k : Nat) {n : Nat} {t : D} (ht : Tre 19 n t) (hn : n ≤ 40) (hl : (pre t).length ≤ 200) {kvs : List (Key × D)} (h : SwapD kvs) : cs (k + n + 4) 220 [.d t, .d (.dct kvs)] = some (.bl true, [.d t, .d (.dct kvs)]) := by
  refine eq_of_wc ?_
  refine (show Wc (defM 2 7 (m__law_filled_right (cs (k + n + 3)))) _ _ from ?_)
  refine wc_def rfl rfl ?_; walk_at "n"
  have hs : sizeLine = 16777216 := sizeLine_eq
  have look := look_all (P := fun d => Tre 19 5 d ∧ (pre d).length ≤ 9) (kvs := kvs) (fun kv hkv => (h.each kv hkv).2) fun s hs => ⟨.leaf hs, by rw [pre_str]; show 1 ≤ 9; omega⟩
  have tF : Tre 19 (n + 5) (fillD (lookF kvs) t) := tre_fill (fun s hs => (look s hs).1) ht
  have zF : (pre (fillD (lookF kvs) t)).length ≤ 9 * (pre t).length := fill_size (by omega) (fun s hs => (look s hs).2) ht
  have h41 := e_lfilled kvs n (k + 2) ht
  rw [show k + 2 + n + 1 = k + n + 3 by omega] at h41
  have h39 := e_filled (k + n + 1) ht.tt (by omega) kvs
  have h39t := e_filled (k + n + 1) ht.tt (by omega) (mergeD [] (turnL kvs))
  rw [look_turn] at h39t
  have rL := h.rokL ht (by omega) (by omega)
  have rF := rok_tre tF (by omega) (by omega)
  have r3 : rokB (.lst [fillD (lookF kvs) t, fillD (lookF kvs) t, fillD (lookF kvs) t]) = true := rok_lst (n := n + 5) (fun x hx => by
    simp only [List.mem_cons, List.not_mem_nil, or_false] at hx
    rcases hx with rfl | rfl | rfl <;> exact tF) (by omega) (by
      show (pre _ ++ (pre _ ++ (pre _ ++ []))).length ≤ _
      rw [List.length_append, List.length_append, List.length_append, List.length_nil]
      omega)
  have few := h.few
  unfold m__law_filled_right
  generalize cs (k + n + 3) 41 = c41 at h41
  rw [show k + n + 1 + 2 = k + n + 3 by omega] at h39 h39t
  generalize cs (k + n + 3) 39 = c39 at h39 h39t
  generalize fillD (lookF kvs) t = F at h41 h39 h39t rF r3
  refine wp_seq (wp_set (wp_reprL (wp_cons (wp_var (d := t) rfl (wp_cons (wp_var (d := .dct kvs) rfl (wp_nil ⟨rL, rfl, ?_⟩)))))))
  walk_at "n"
  walk_at "r"
  refine wp_lcmap (j := 6) (f := trF kvs) (ds := (kvs.map fun kv => kD kv.1).reverse) (e1 := [.d t, .d (.dct kvs), .d (.str (D.lst [t, .dct kvs]).py.shown), .d (.str F.py.shown), .no, .no, .no]) ?_ rfl (by rw [List.length_reverse, List.length_map]; omega) (fun d hd => ?_) ?_
  · rfl
  · obtain ⟨kv, hkv, rfl⟩ := List.mem_map.mp (List.mem_reverse.mp hd)
    obtain ⟨v, hv⟩ := val_some (kvs := kvs) (k := kv.1) (List.mem_map_of_mem hkv)
    have ht := trF_k kvs kv.1
    rw [hv] at ht
    have ht : trF kvs (kD kv.1) = .tup [kD kv.1, v] := ht
    rw [ht]
    refine wp_tup (wp_cons (wp_var (d := kD kv.1) rfl (wp_cons (wp_dix (wp_var (d := .dct kvs) rfl ⟨kvs, rfl, wp_var (d := kD kv.1) rfl ⟨kv.1, v, key_kD _, hv, wp_nil ⟨by rw [List.length_cons, List.length_cons, List.length_nil]; omega, rfl, rfl⟩⟩⟩)))))
  · rw [turn_pairs]
    have hp : dictPD [.lst (kvs.reverse.map fun kv => D.tup [kD kv.1, (valD kvs kv.1).getD .non])] = some (.dct (mergeD [] (turnL kvs))) := by
      show (pairsOf _).bind _ = _
      rw [pairs_of fun kv => (valD kvs kv.1).getD .non]
      rfl
    walk_at "r"
    refine ⟨r3, _, eq_str _, true, rfl, ite_t ?_⟩
    have i0 : ixD (.lst [F, F, F]) (.int 0) = some F := rfl
    refine wp_andV (wp_op (wp_repr (wp_cons (wp_op (wp_var (d := .lst [F, F, F]) rfl (wp_c ⟨F, i0, wp_nil ⟨F, rfl, rF, wp_var (d := .str F.py.shown) rfl ⟨_, eq_str _, true, rfl, ite_t ?_⟩⟩⟩))))))
    refine wp_op (wp_reprL (wp_cons (wp_var (d := t) rfl (wp_cons (wp_var (d := .dct kvs) rfl (wp_nil ⟨rL, wp_var (d := .str (D.lst [t, .dct kvs]).py.shown) rfl ⟨_, eq_str _, rfl, rfl⟩⟩))))))

end Nv

set_option Elab.async false
set_option linter.all false
set_option maxRecDepth 100000
set_option maxHeartbeats 1000000
namespace Nv
open PySem L2 PyProof.Rows PySem.Spec
local macro_rules | `(tactic| walk_at "n") => `(tactic| try simp only [List.set_cons_zero, List.set_cons_succ, List.map_cons, List.map_nil, List.cons_append, List.nil_append, List.replicate, Nat.reduceSub])
local macro_rules | `(tactic| walk_at "s") => `(tactic| first
  | with_reducible refine wp_seq ?_ | with_reducible refine wk_nx ?_ | with_reducible refine wk_rt ?_ | with_reducible refine wt_nx ?_ | with_reducible refine wt_rt ?_ | with_reducible refine wt_bk ?_ | with_reducible refine wt_ct ?_ | with_reducible refine wk_bk ?_ | with_reducible refine wk_ct ?_
  | with_reducible refine wp_if ?_ | with_reducible refine wp_ret ?_ | with_reducible refine wp_next ?_ | with_reducible refine wp_retN ?_ | with_reducible refine wp_set ?_ | with_reducible refine wp_own ?_ | with_reducible refine wp_drop ?_
  | ((with_reducible refine' wp_var ?_ ?_); rotate_left; rfl) | ((with_reducible refine' wp_varL ?_ ?_); rotate_left; rfl) | ((with_reducible refine' wp_app ?_ ?_); rotate_left; rfl) | ((with_reducible refine' wp_lget ?_ ?_ ?_); rotate_left 2; (· rfl); (· rfl)) | with_reducible refine wp_lput ?_ | ((with_reducible refine' wp_lown ?_ ?_ ?_); rotate_left; (· rfl); (· rfl)) | ((with_reducible refine' wp_fown ?_ ?_ ?_); rotate_left; (· rfl); (· rfl)) | with_reducible refine wp_c ?_ | with_reducible refine wp_op ?_ | with_reducible refine wp_un ?_ | with_reducible refine wp_cb ?_ | with_reducible refine wp_cons ?_ | with_reducible refine wp_nil ?_
  | with_reducible refine wp_bl ?_ | with_reducible refine wp_tru ?_ | with_reducible refine wp_not ?_ | with_reducible refine wp_and ?_ | with_reducible refine wp_or ?_ | with_reducible refine wp_andV ?_ | with_reducible refine wp_orV ?_ | with_reducible refine wp_notV ?_
  | with_reducible refine wp_chain ?_ | with_reducible refine wp_sz ?_ | with_reducible refine wp_lst ?_ | with_reducible refine wp_tup ?_ | with_reducible refine wp_is ?_ | with_reducible refine wp_onone ?_ | with_reducible refine wp_osome ?_ | with_reducible refine wp_sl ?_ | with_reducible refine wp_m1 ?_
  | with_reducible refine wp_all ?_ | with_reducible refine wp_repr ?_ | with_reducible refine wp_peek ?_ | with_reducible refine wp_peekT ?_ | with_reducible refine wp_addF ?_ | with_reducible refine wp_ilist ?_ | with_reducible refine wp_itup ?_ | with_reducible refine wp_istr ?_ | with_reducible refine wp_irng ?_ | with_reducible refine wp_list ?_ | with_reducible refine wp_listS ?_
  | with_reducible refine wp_for ?_ | with_reducible refine wp_call ?_ | with_reducible refine wp_callK ?_ | with_reducible refine wp_lnil ?_ | with_reducible refine wp_ldat ?_ | with_reducible refine wp_callL ?_ | with_reducible refine wp_flast ?_ | with_reducible refine wp_fdat ?_ | with_reducible refine wp_callF ?_
  | with_reducible refine ⟨_, (by assumption : _ = some _), ?_⟩
  | ((with_reducible refine' call_and ?_ ?_ ?_); rotate_left 2; (· rfl); (· assumption)) | ((with_reducible refine' callk_and ?_ ?_ ?_); rotate_left 2; (· exact ⟨rfl, rfl⟩); (· assumption))
  | refine ite_t ?_ | refine ite_f ?_ | refine ite_nt ?_ | refine ite_nf ?_
  | with_reducible refine ⟨_, add_int, ?_⟩ | with_reducible refine ⟨_, iadd_int, ?_⟩ | with_reducible refine ⟨_, sub_int, ?_⟩ | with_reducible refine ⟨_, lt_int, ?_⟩ | with_reducible refine ⟨_, le_int, ?_⟩ | with_reducible refine ⟨_, gt_int, ?_⟩ | with_reducible refine ⟨_, ge_int, ?_⟩ | with_reducible refine ⟨_, eq_int, ?_⟩
  | with_reducible refine ⟨_, len_lst, ?_⟩ | with_reducible refine ⟨_, len_tup, ?_⟩ | with_reducible refine ⟨_, tru_bl, ?_⟩ | with_reducible refine ⟨_, int_int _, ?_⟩ | with_reducible refine ⟨_, int_bl _, ?_⟩
  | with_reducible refine ⟨_, rfl, ?_⟩ | ((with_reducible refine free_and ?_ ?_); (· first | rfl | assumption); walk_at "n") | with_reducible refine rok_and (by assumption) ?_ | ((with_reducible refine kind_and ?_ ?_); (· first | rfl | assumption)) | ((with_reducible refine size_and ?_ ?_); (· simp only [List.length_cons, List.length_nil, sizeLine_eq]; omega))
  | with_reducible refine ite_y (by assumption) ?_ | with_reducible refine ite_n (by assumption) ?_ | with_reducible refine ite_ny (by assumption) ?_ | with_reducible refine ite_nn (by assumption) ?_ | with_reducible refine ite_bt (by assumption) ?_ | with_reducible refine ite_bf (by assumption) ?_ | with_reducible refine ite_nbt (by assumption) ?_ | with_reducible refine ite_nbf (by assumption) ?_)
local macro_rules | `(tactic| walk_at "r") => `(tactic| repeat walk_at "s")
local macro_rules | `(tactic| walk_at "f") => `(tactic| (refine ⟨rfl, ?_⟩; walk_at "n"))
local macro_rules | `(tactic| walk_at "d") => `(tactic| (with_reducible refine wp_draw' (by assumption) (by omega) (by decide) ?_; intro _ _ _ _ _))
/-! Fi12: fills that are drawn. -/
def PairOk (kv : Key × D) : Prop := (∃ s, kv.1 = .inr s ∧ Shs 4 (.str s)) ∧ Tre 19 5 kv.2 ∧ (pre kv.2).length ≤ 9
theorem put_pairs {kvs : List (Key × D)} {k : Key} {d : D} (h : ∀ kv ∈ kvs, PairOk kv) (hd : PairOk (k, d)) : ∀ kv ∈ putD kvs k d, PairOk kv := by
  unfold putD
  split
  · intro kv hkv
    obtain ⟨x, hx, rfl⟩ := List.mem_map.mp hkv
    split
    · exact ⟨(h x hx).1, hd.2⟩
    · exact h x hx
  · intro kv hkv
    rcases List.mem_append.mp hkv with z | z
    · exact h kv z
    · rw [List.mem_singleton.mp z]
      exact hd
theorem pair_leaf {s : Str} {d : D} (hs : Shs 4 (.str s)) (hd : Shs 4 d) : PairOk (.inr s, d) := by
  obtain ⟨z, rfl, a, b⟩ := hd
  exact ⟨⟨s, rfl, hs⟩, .leaf ⟨z, rfl, a, b⟩, show 1 ≤ 9 by omega⟩
def swBody (c : Nat → Fm) : MS := (mIf (mBl (mOp eqXD (mVar 3) (mC (.int 0)))) (mDPutK 4 (mOp ixD (mVar 2) (mVar 5)) (mOp ixD (mVar 2) (mOp (intD fun i j => if 0 < j then some (.int (i % j)) else none) (mCb intOfD (mCons (mOp addD (mVar 5) (mC (.int 1))) mNil)) (mCb lenD (mCons (mVar 2) mNil))))) (mIf (mOr (mBl (mOp eqXD (mVar 3) (mC (.int 1)))) (mBl (mOp eqXD (mCallP 2 0 (c 8) (mCons (mC (.int 2)) mNil)) (mC (.int 0))))) (mDPutK 4 (mOp ixD (mVar 2) (mVar 5)) (mCallF 5 (c 11) (mFOwn 0 (mFDat (mVar 1) (mFDat (mVar 2) (mFDat (mC (.int 5)) (mFLast (mSz (mCons (mC (.int 9)) mNil))))))))) mNext))
theorem sw_turn (k : Nat) {ws ls : List D} (hws : lex ws) (hls : lets ls) {xs : List Int} {N : Int} {K : List (Key × D)} {w : Int} {i : Nat} {kvs : List (Key × D)} {R : Out → Env → Prop} {P : Env → Prop} (hp : PenAt xs N K) (hN : N + 243 ≤ 4000000) (hi : i < ls.length) (hk : kvs.length ≤ 100) (hv : ∀ kv ∈ kvs, PairOk kv)
    (q : ∀ K' kvs', PenAt xs (N + 243) K' → kvs'.length ≤ kvs.length + 1 → (∀ kv ∈ kvs', PairOk kv) → P [.pd K', .d (.lst ws), .d (.lst ls), .d (.int w), .od kvs', .d (.int (i : Int))]) :
    Wp (swBody (cs (k + 6))) [.pd K, .d (.lst ws), .d (.lst ls), .d (.int w), .od kvs, .d (.int (i : Int))] (turnK P R) := by
  have hs : sizeLine = 16777216 := sizeLine_eq
  obtain ⟨l, el, hl⟩ := ix_at (xs := ls) (i := (i : Int)) (by omega) (by omega)
  obtain ⟨s, rfl, s1, s2⟩ := hls.2 l hl
  have hshs : Shs 4 (.str s) := ⟨s, rfl, s1, s2⟩
  -- what is put
  have put : ∀ (K1 : List (Key × D)) (N1 : Int) (v : D) (a : M D) (e : Env), PenAt xs N1 K1 → N1 ≤ N + 243 → PairOk (.inr s, v) → a e = some (v, [.pd K1, .d (.lst ws), .d (.lst ls), .d (.int w), .od kvs, .d (.int (i : Int))]) → Wp (mDPutK 4 (mOp ixD (mVar 2) (mVar 5)) a) e (turnK P R) := fun K1 N1 v a e hp1 hM hv1 ha => by
    refine wp_dputk (Wp.of ha ⟨⟨.od kvs, kvs, rfl, rfl⟩, wp_op (wp_var (d := .lst ls) rfl (wp_var (d := .int (i : Int)) rfl ⟨_, el, .inr s, .od kvs, kvs, rfl, rfl, rfl, by omega, wt_nx ?_⟩))⟩)
    exact q K1 (putD kvs (.inr s) v) (hp1.up hM) (putD_len _ _ _) (put_pairs hv hv1)
  unfold swBody
  refine wp_if (wp_bl (wp_op (wp_var (d := .int w) rfl (wp_c ⟨_, eq_int, _, rfl, ite_dec (fun z => ?_) fun z => ?_⟩))))
  · have hm : intD (fun i j => if 0 < j then some (D.int (i % j)) else none) (.int ((i : Int) + 1)) (.int (ls.length : Int)) = some (.int (((i : Int) + 1) % ls.length)) := if_pos (by omega)
    obtain ⟨l2, el2, hl2⟩ := ix_at (xs := ls) (i := ((i : Int) + 1) % ls.length) (Int.emod_nonneg _ (by omega)) (Int.emod_lt_of_pos _ (by omega))
    have w0 : Wp (mOp ixD (mVar 2) (mOp (intD fun i j => if 0 < j then some (.int (i % j)) else none) (mCb intOfD (mCons (mOp addD (mVar 5) (mC (.int 1))) mNil)) (mCb lenD (mCons (mVar 2) mNil)))) [.pd K, .d (.lst ws), .d (.lst ls), .d (.int w), .od kvs, .d (.int (i : Int))] fun x e => x = l2 ∧ e = [.pd K, .d (.lst ws), .d (.lst ls), .d (.int w), .od kvs, .d (.int (i : Int))] :=
      wp_op (wp_var (d := .lst ls) rfl (wp_op (wp_cb (wp_cons (wp_op (wp_var (d := .int (i : Int)) rfl (wp_c ⟨_, add_int, wp_nil ⟨_, int_int _, wp_cb (wp_cons (wp_var (d := .lst ls) rfl (wp_nil ⟨_, len_lst, _, hm, _, el2, rfl, rfl⟩)))⟩⟩)))))))
    obtain ⟨x, e, a, rfl, rfl⟩ := w0
    exact put K N x _ _ hp (by omega) (pair_leaf hshs (hls.2 x hl2)) a
  · -- a term, with a purse of its own
    have term : ∀ (K1 : List (Key × D)) (N1 : Int), PenAt xs N1 K1 → N1 ≤ N + 1 → Wp (mDPutK 4 (mOp ixD (mVar 2) (mVar 5)) (mCallF 5 (cs (k + 6) 11) (mFOwn 0 (mFDat (mVar 1) (mFDat (mVar 2) (mFDat (mC (.int 5)) (mFLast (mSz (mCons (mC (.int 9)) mNil))))))))) [.pd K1, .d (.lst ws), .d (.lst ls), .d (.int w), .od kvs, .d (.int (i : Int))] (turnK P R) := fun K1 N1 hp1 hM => by
      have e4 : (tc 4 : Int) = 242 := by decide
      have ht := e_term2 ws ls hws hls 4 k xs N1 K1 9 hp1 (by omega) (by decide)
      have w0 : Wp (mCallF 5 (cs (k + 6) 11) (mFOwn 0 (mFDat (mVar 1) (mFDat (mVar 2) (mFDat (mC (.int 5)) (mFLast (mSz (mCons (mC (.int 9)) mNil)))))))) [.pd K1, .d (.lst ws), .d (.lst ls), .d (.int w), .od kvs, .d (.int (i : Int))] fun x e => (Tre 19 5 x ∧ (pre x).length ≤ 9) ∧ ∃ K', e = [.pd K', .d (.lst ws), .d (.lst ls), .d (.int w), .od kvs, .d (.int (i : Int))] ∧ PenAt xs (N1 + 242) K' := by
        refine wp_callF (wp_fown (s0 := .pd K1) rfl rfl (wp_fdat (wp_var (d := .lst ws) rfl (wp_fdat (wp_var (d := .lst ls) rfl (wp_fdat (wp_c (wp_flast (wp_sz (wp_cons (wp_c (wp_nil ⟨by decide, ?_⟩))))))))))))
        refine ⟨⟨rfl, rfl⟩, _, rfl, ht.mono ?_⟩
        rintro d as' ⟨hd, K', p', rfl, hp', g0, gs⟩
        rw [e4] at hp'
        exact ⟨⟨hd, by omega⟩, K', rfl, hp'⟩
      obtain ⟨x, e, a, ⟨h1, h2⟩, K', rfl, h3⟩ := w0
      exact put K' _ x _ _ h3 (by omega) ⟨⟨s, rfl, hshs⟩, h1, h2⟩ a
    refine wp_if (wp_or (wp_bl (wp_op (wp_var (d := .int w) rfl (wp_c ⟨_, eq_int, _, rfl, ite_dec (fun y => ite_t ?_) fun y => ?_⟩)))))
    · exact term K N hp (by omega)
    · refine wp_bl (wp_op (wp_draw' hp (by omega) (by decide) fun j K' j0 j1 hp' => wp_c ⟨_, eq_int, _, rfl, ite_dec (fun y => ?_) fun y => wp_next (wt_nx ?_)⟩))
      · exact term K' (N + 1) hp' (by omega)
      · exact q K' kvs (hp'.up (by omega)) (by omega) hv

end Nv

set_option Elab.async false
set_option linter.all false
set_option maxRecDepth 100000
set_option maxHeartbeats 1000000
namespace Nv
open PySem L2 PyProof.Rows PySem.Spec
local macro_rules | `(tactic| walk_at "n") => `(tactic| try simp only [List.set_cons_zero, List.set_cons_succ, List.map_cons, List.map_nil, List.cons_append, List.nil_append, List.replicate, Nat.reduceSub])
local macro_rules | `(tactic| walk_at "s") => `(tactic| first
  | with_reducible refine wp_seq ?_ | with_reducible refine wk_nx ?_ | with_reducible refine wk_rt ?_ | with_reducible refine wt_nx ?_ | with_reducible refine wt_rt ?_ | with_reducible refine wt_bk ?_ | with_reducible refine wt_ct ?_ | with_reducible refine wk_bk ?_ | with_reducible refine wk_ct ?_
  | with_reducible refine wp_if ?_ | with_reducible refine wp_ret ?_ | with_reducible refine wp_next ?_ | with_reducible refine wp_retN ?_ | with_reducible refine wp_set ?_ | with_reducible refine wp_own ?_ | with_reducible refine wp_drop ?_
  | ((with_reducible refine' wp_var ?_ ?_); rotate_left; rfl) | ((with_reducible refine' wp_varL ?_ ?_); rotate_left; rfl) | ((with_reducible refine' wp_app ?_ ?_); rotate_left; rfl) | ((with_reducible refine' wp_lget ?_ ?_ ?_); rotate_left 2; (· rfl); (· rfl)) | with_reducible refine wp_lput ?_ | ((with_reducible refine' wp_lown ?_ ?_ ?_); rotate_left; (· rfl); (· rfl)) | ((with_reducible refine' wp_fown ?_ ?_ ?_); rotate_left; (· rfl); (· rfl)) | with_reducible refine wp_c ?_ | with_reducible refine wp_op ?_ | with_reducible refine wp_un ?_ | with_reducible refine wp_cb ?_ | with_reducible refine wp_cons ?_ | with_reducible refine wp_nil ?_
  | with_reducible refine wp_bl ?_ | with_reducible refine wp_tru ?_ | with_reducible refine wp_not ?_ | with_reducible refine wp_and ?_ | with_reducible refine wp_or ?_ | with_reducible refine wp_andV ?_ | with_reducible refine wp_orV ?_ | with_reducible refine wp_notV ?_
  | with_reducible refine wp_chain ?_ | with_reducible refine wp_sz ?_ | with_reducible refine wp_lst ?_ | with_reducible refine wp_tup ?_ | with_reducible refine wp_is ?_ | with_reducible refine wp_onone ?_ | with_reducible refine wp_osome ?_ | with_reducible refine wp_sl ?_ | with_reducible refine wp_m1 ?_
  | with_reducible refine wp_all ?_ | with_reducible refine wp_repr ?_ | with_reducible refine wp_peek ?_ | with_reducible refine wp_peekT ?_ | with_reducible refine wp_addF ?_ | with_reducible refine wp_ilist ?_ | with_reducible refine wp_itup ?_ | with_reducible refine wp_istr ?_ | with_reducible refine wp_irng ?_ | with_reducible refine wp_list ?_ | with_reducible refine wp_listS ?_
  | with_reducible refine wp_for ?_ | with_reducible refine wp_call ?_ | with_reducible refine wp_callK ?_ | with_reducible refine wp_lnil ?_ | with_reducible refine wp_ldat ?_ | with_reducible refine wp_callL ?_ | with_reducible refine wp_flast ?_ | with_reducible refine wp_fdat ?_ | with_reducible refine wp_callF ?_
  | with_reducible refine ⟨_, (by assumption : _ = some _), ?_⟩
  | ((with_reducible refine' call_and ?_ ?_ ?_); rotate_left 2; (· rfl); (· assumption)) | ((with_reducible refine' callk_and ?_ ?_ ?_); rotate_left 2; (· exact ⟨rfl, rfl⟩); (· assumption))
  | refine ite_t ?_ | refine ite_f ?_ | refine ite_nt ?_ | refine ite_nf ?_
  | with_reducible refine ⟨_, add_int, ?_⟩ | with_reducible refine ⟨_, iadd_int, ?_⟩ | with_reducible refine ⟨_, sub_int, ?_⟩ | with_reducible refine ⟨_, lt_int, ?_⟩ | with_reducible refine ⟨_, le_int, ?_⟩ | with_reducible refine ⟨_, gt_int, ?_⟩ | with_reducible refine ⟨_, ge_int, ?_⟩ | with_reducible refine ⟨_, eq_int, ?_⟩
  | with_reducible refine ⟨_, len_lst, ?_⟩ | with_reducible refine ⟨_, len_tup, ?_⟩ | with_reducible refine ⟨_, tru_bl, ?_⟩ | with_reducible refine ⟨_, int_int _, ?_⟩ | with_reducible refine ⟨_, int_bl _, ?_⟩
  | with_reducible refine ⟨_, rfl, ?_⟩ | ((with_reducible refine free_and ?_ ?_); (· first | rfl | assumption); walk_at "n") | with_reducible refine rok_and (by assumption) ?_ | ((with_reducible refine kind_and ?_ ?_); (· first | rfl | assumption)) | ((with_reducible refine size_and ?_ ?_); (· simp only [List.length_cons, List.length_nil, sizeLine_eq]; omega))
  | with_reducible refine ite_y (by assumption) ?_ | with_reducible refine ite_n (by assumption) ?_ | with_reducible refine ite_ny (by assumption) ?_ | with_reducible refine ite_nn (by assumption) ?_ | with_reducible refine ite_bt (by assumption) ?_ | with_reducible refine ite_bf (by assumption) ?_ | with_reducible refine ite_nbt (by assumption) ?_ | with_reducible refine ite_nbf (by assumption) ?_)
local macro_rules | `(tactic| walk_at "r") => `(tactic| repeat walk_at "s")
local macro_rules | `(tactic| walk_at "f") => `(tactic| (refine ⟨rfl, ?_⟩; walk_at "n"))
local macro_rules | `(tactic| walk_at "d") => `(tactic| (with_reducible refine wp_draw' (by assumption) (by omega) (by decide) ?_; intro _ _ _ _ _))
/-! Fi13: swap, wood. -/
theorem e_swap (k : Nat) {ws ls : List D} (hws : lex ws) (hls : lets ls) (h5 : ls.length = 5) : Draws (cs (k + 7) 48) 1300 [.d (.lst ws), .d (.lst ls)] (fun d => ∃ kvs, d = .dct kvs ∧ SwapD kvs) := fun xs N K hp hN => by
  refine (show Wc (defM 3 6 (m__law_swap (cs (k + 6)))) _ _ from ?_)
  refine wc_def rfl rfl ?_; walk_at "n"
  have hs : sizeLine = 16777216 := sizeLine_eq
  have hll : lenD [.lst ls] = some (.int 5) := by rw [len_lst, h5]; rfl
  unfold m__law_swap
  refine wp_seq (wp_set (wp_draw' hp (by omega) (by decide) fun w K1 w0 w1 p1 => ⟨rfl, ?_⟩))
  walk_at "n"
  refine wk_nx (wp_seq (wp_ownD rfl ?_))
  walk_at "n"
  refine wk_nx (wp_seq (wp_for (wp_irng (wp_cons (wp_cb (wp_cons (wp_var (d := .lst ls) rfl (wp_nil ⟨_, hll, wp_nil ⟨(5 : Int), rfl, by decide, ?_⟩⟩))))))))
  show Wp (forGo 5 (swBody (cs (k + 6))) (upto 5)) _ _
  refine for_inv (fun i e => ∃ K' kvs x5, e = [.pd K', .d (.lst ws), .d (.lst ls), .d (.int w), .od kvs, x5] ∧ PenAt xs (N + 1 + i * 243) K' ∧ kvs.length ≤ i ∧ (∀ kv ∈ kvs, PairOk kv) ∧ Plain x5) (upto 5) 0 _ ⟨K1, [], .no, rfl, p1.up (by omega), Nat.le_refl _, (fun kv h => by cases h), .no⟩ ?_ ?_
  · rintro i y e hy ⟨K', kvs, x5, rfl, hp', hl, hv, h5'⟩
    obtain ⟨rfl, hi⟩ := upto_get hy
    rw [Nat.zero_add] at hp' hl ⊢
    have f5 : freeB [.pd K', .d (.lst ws), .d (.lst ls), .d (.int w), .od kvs, x5] 5 = true := by rcases h5' with rfl | ⟨y, rfl⟩ <;> rfl
    refine ⟨f5, ?_⟩
    walk_at "n"
    refine sw_turn k hws hls hp' (by omega) (by omega) (by omega) hv fun K2 kvs' p2 l2 v2 => ?_
    exact ⟨K2, kvs', _, rfl, p2.up (by omega), by omega, v2, .d _⟩
  · rintro e ⟨K', kvs, x5, rfl, hp', hl, hv, h5'⟩
    rw [Nat.zero_add, upto_length] at hp' hl
    obtain ⟨w0', ew, hw⟩ := ix_at (xs := ws) (i := 0) (by decide) (by have := hws.1; omega)
    refine wk_nx (wp_seq (wp_if (wp_bl (wp_op (wp_var (d := .int w) rfl (wp_c ⟨_, eq_int, _, rfl, ite_dec (fun z => ?_) fun z => ?_⟩))))))
    · refine wp_ret (wp_c (wk_rt ?_))
      exact ⟨⟨[], rfl, by decide, fun kv h => by cases h⟩, K', rfl, hp'.up (by omega)⟩
    · refine wp_next (wk_nx (wp_seq (wp_dputk (wp_tup (wp_cons (wp_op (wp_var (d := .lst ws) rfl (wp_c ⟨_, ew, wp_nil ⟨by rw [List.length_cons, List.length_nil]; omega, ⟨.od kvs, kvs, rfl, rfl⟩, ?_⟩⟩))))))))
      refine wp_op (wp_c (wp_cb (wp_cons (wp_draw' hp' (by omega) (by decide) fun j K2 j0 j1 p2 => wp_nil ?_))))
      obtain ⟨n, rfl⟩ : ∃ n : Nat, j = (n : Int) := ⟨j.toNat, by omega⟩
      have hq : ((List.range 9).all fun n => strB (("Q" : Str) ++ fmtI (n : Int)) && decide ((("Q" : Str) ++ fmtI (n : Int)).length ≤ 4) && decide ((n : Int).natAbs.log2 < 1920)) = true := by decide +kernel
      have hq := List.all_eq_true.mp hq n (List.mem_range.mpr (by omega))
      rw [Bool.and_eq_true, Bool.and_eq_true] at hq
      have q2 := of_decide_eq_true hq.1.2
      have hst : strOfD [.int (n : Int)] = some (.str (fmtI (n : Int))) := if_pos (of_decide_eq_true hq.2)
      have had : addD (.str "Q") (.str (fmtI (n : Int))) = some (.str (("Q" : Str) ++ fmtI (n : Int))) := if_pos (by
        have z : (("Q" : Str) ++ fmtI (n : Int)).length = ("Q" : Str).length + (fmtI (n : Int)).length := strLen_append _ _
        omega)
      refine ⟨_, hst, _, had, .inr _, .od kvs, kvs, rfl, rfl, rfl, by omega, ?_⟩
      walk_at "n"
      refine wk_nx (wp_ret (wp_varO (kvs := putD kvs (.inr (("Q" : Str) ++ fmtI (n : Int))) (.tup [w0'])) rfl ?_))
      have hl2 := putD_len kvs (.inr (("Q" : Str) ++ fmtI (n : Int))) (.tup [w0'])
      refine ⟨⟨_, rfl, by omega, put_pairs hv ⟨⟨_, rfl, _, rfl, hq.1.1, q2⟩, .node (hws.2.2 _ hw) (by decide) (fun _ z => by cases z), show 1 ≤ 9 by omega⟩⟩, K2, rfl, p2.up (by omega)⟩

end Nv

set_option Elab.async false
set_option linter.all false
set_option maxRecDepth 100000
set_option maxHeartbeats 1000000
namespace Nv
open PySem L2 PyProof.Rows PySem.Spec
local macro_rules | `(tactic| walk_at "n") => `(tactic| try simp only [List.set_cons_zero, List.set_cons_succ, List.map_cons, List.map_nil, List.cons_append, List.nil_append, List.replicate, Nat.reduceSub])
local macro_rules | `(tactic| walk_at "s") => `(tactic| first
  | with_reducible refine wp_seq ?_ | with_reducible refine wk_nx ?_ | with_reducible refine wk_rt ?_ | with_reducible refine wt_nx ?_ | with_reducible refine wt_rt ?_ | with_reducible refine wt_bk ?_ | with_reducible refine wt_ct ?_ | with_reducible refine wk_bk ?_ | with_reducible refine wk_ct ?_
  | with_reducible refine wp_if ?_ | with_reducible refine wp_ret ?_ | with_reducible refine wp_next ?_ | with_reducible refine wp_retN ?_ | with_reducible refine wp_set ?_ | with_reducible refine wp_own ?_ | with_reducible refine wp_drop ?_
  | ((with_reducible refine' wp_var ?_ ?_); rotate_left; rfl) | ((with_reducible refine' wp_varL ?_ ?_); rotate_left; rfl) | ((with_reducible refine' wp_app ?_ ?_); rotate_left; rfl) | ((with_reducible refine' wp_lget ?_ ?_ ?_); rotate_left 2; (· rfl); (· rfl)) | with_reducible refine wp_lput ?_ | ((with_reducible refine' wp_lown ?_ ?_ ?_); rotate_left; (· rfl); (· rfl)) | ((with_reducible refine' wp_fown ?_ ?_ ?_); rotate_left; (· rfl); (· rfl)) | with_reducible refine wp_c ?_ | with_reducible refine wp_op ?_ | with_reducible refine wp_un ?_ | with_reducible refine wp_cb ?_ | with_reducible refine wp_cons ?_ | with_reducible refine wp_nil ?_
  | with_reducible refine wp_bl ?_ | with_reducible refine wp_tru ?_ | with_reducible refine wp_not ?_ | with_reducible refine wp_and ?_ | with_reducible refine wp_or ?_ | with_reducible refine wp_andV ?_ | with_reducible refine wp_orV ?_ | with_reducible refine wp_notV ?_
  | with_reducible refine wp_chain ?_ | with_reducible refine wp_sz ?_ | with_reducible refine wp_lst ?_ | with_reducible refine wp_tup ?_ | with_reducible refine wp_is ?_ | with_reducible refine wp_onone ?_ | with_reducible refine wp_osome ?_ | with_reducible refine wp_sl ?_ | with_reducible refine wp_m1 ?_
  | with_reducible refine wp_all ?_ | with_reducible refine wp_repr ?_ | with_reducible refine wp_peek ?_ | with_reducible refine wp_peekT ?_ | with_reducible refine wp_addF ?_ | with_reducible refine wp_ilist ?_ | with_reducible refine wp_itup ?_ | with_reducible refine wp_istr ?_ | with_reducible refine wp_irng ?_ | with_reducible refine wp_list ?_ | with_reducible refine wp_listS ?_
  | with_reducible refine wp_for ?_ | with_reducible refine wp_call ?_ | with_reducible refine wp_callK ?_ | with_reducible refine wp_lnil ?_ | with_reducible refine wp_ldat ?_ | with_reducible refine wp_callL ?_ | with_reducible refine wp_flast ?_ | with_reducible refine wp_fdat ?_ | with_reducible refine wp_callF ?_
  | with_reducible refine ⟨_, (by assumption : _ = some _), ?_⟩
  | ((with_reducible refine' call_and ?_ ?_ ?_); rotate_left 2; (· rfl); (· assumption)) | ((with_reducible refine' callk_and ?_ ?_ ?_); rotate_left 2; (· exact ⟨rfl, rfl⟩); (· assumption))
  | refine ite_t ?_ | refine ite_f ?_ | refine ite_nt ?_ | refine ite_nf ?_
  | with_reducible refine ⟨_, add_int, ?_⟩ | with_reducible refine ⟨_, iadd_int, ?_⟩ | with_reducible refine ⟨_, sub_int, ?_⟩ | with_reducible refine ⟨_, lt_int, ?_⟩ | with_reducible refine ⟨_, le_int, ?_⟩ | with_reducible refine ⟨_, gt_int, ?_⟩ | with_reducible refine ⟨_, ge_int, ?_⟩ | with_reducible refine ⟨_, eq_int, ?_⟩
  | with_reducible refine ⟨_, len_lst, ?_⟩ | with_reducible refine ⟨_, len_tup, ?_⟩ | with_reducible refine ⟨_, tru_bl, ?_⟩ | with_reducible refine ⟨_, int_int _, ?_⟩ | with_reducible refine ⟨_, int_bl _, ?_⟩
  | with_reducible refine ⟨_, rfl, ?_⟩ | ((with_reducible refine free_and ?_ ?_); (· first | rfl | assumption); walk_at "n") | with_reducible refine rok_and (by assumption) ?_ | ((with_reducible refine kind_and ?_ ?_); (· first | rfl | assumption)) | ((with_reducible refine size_and ?_ ?_); (· simp only [List.length_cons, List.length_nil, sizeLine_eq]; omega))
  | with_reducible refine ite_y (by assumption) ?_ | with_reducible refine ite_n (by assumption) ?_ | with_reducible refine ite_ny (by assumption) ?_ | with_reducible refine ite_nn (by assumption) ?_ | with_reducible refine ite_bt (by assumption) ?_ | with_reducible refine ite_bf (by assumption) ?_ | with_reducible refine ite_nbt (by assumption) ?_ | with_reducible refine ite_nbf (by assumption) ?_)
local macro_rules | `(tactic| walk_at "r") => `(tactic| repeat walk_at "s")
local macro_rules | `(tactic| walk_at "f") => `(tactic| (refine ⟨rfl, ?_⟩; walk_at "n"))
local macro_rules | `(tactic| walk_at "d") => `(tactic| (with_reducible refine wp_draw' (by assumption) (by omega) (by decide) ?_; intro _ _ _ _ _))
/-! Fi14: wood. -/
def pz : Nat → Nat
  | 0 => 1
  | n + 1 => 1 + 3 * pz n
theorem preL_few {b : Nat} : ∀ {r : List D}, (∀ x ∈ r, (pre x).length ≤ b) → (preL r).length ≤ r.length * b
  | [], _ => Nat.zero_le _
  | d :: r, h => by
    have a := h d List.mem_cons_self
    have c := preL_few fun x hx => h x (List.mem_cons_of_mem _ hx)
    rw [preL_cons, List.length_append, List.length_cons, Nat.add_mul]
    omega
theorem pz_pos : ∀ n, 1 ≤ pz n
  | 0 => Nat.le_refl _
  | n + 1 => by show 1 ≤ 1 + 3 * pz n; omega
theorem tre_pz {L n : Nat} {d : D} (h : Tre L n d) : (pre d).length ≤ pz n := by
  induction h with
  | leaf h =>
    obtain ⟨s, rfl, _⟩ := h
    exact pz_pos _
  | @node n w r hw hl hr ih =>
    have a := preL_few ih
    have b : r.length * pz n ≤ 3 * pz n := Nat.mul_le_mul_right _ hl
    rw [pre_tup, List.length_cons]
    show (preL r).length + 1 ≤ 1 + 3 * pz n
    omega
def alphW : Str := "ABCDEFGHIJKLMNOPQRSTUVWXYZ"
theorem alphW_ok : strB alphW = true ∧ alphW.length = 26 := by decide +kernel
theorem digits : ((List.range 12).all fun n => strB (fmtI (n : Int)) && decide ((fmtI (n : Int)).length ≤ 2) && decide ((n : Int).natAbs.log2 < 1920)) = true := by decide +kernel
theorem many_of {m : Nat} (h : m ≤ 3) : ixD (.lst [.int 1, .int 3, .int 9, .int 27]) (.int (m : Int)) = some (.int ((3 ^ m : Nat) : Int)) := by
  have : m = 0 ∨ m = 1 ∨ m = 2 ∨ m = 3 := by omega
  rcases this with rfl | rfl | rfl | rfl <;> rfl
theorem e_wood : ∀ (n k s : Nat), n ≤ 4 → s + 3 ^ n ≤ 300 → Wc (cs (k + n + 1) 44) [.d (.int ((n + 1 : Nat) : Int)), .d (.int (s : Int))] fun d as' => Tre 19 n d ∧ as' = [.d (.int ((n + 1 : Nat) : Int)), .d (.int (s : Int))]
  | 0, k, s, hn, hb => by
    refine (show Wc (defM 2 4 (m__law_wood (cs k))) _ _ from ?_)
    refine wc_def rfl rfl ?_; walk_at "n"
    have hs : sizeLine = 16777216 := sizeLine_eq
    have hb : s + 1 ≤ 300 := hb
    unfold m__law_wood
    have hm : intD (fun i j => if 0 < j then some (D.int (i % j)) else none) (.int (s : Int)) (.int 26) = some (.int ((s : Int) % 26)) := rfl
    obtain ⟨z, ez, hz⟩ := shs_ix (s := alphW) alphW_ok.1 (i := (s : Int) % 26) (Int.emod_nonneg _ (by decide)) (by rw [alphW_ok.2]; exact Int.emod_lt_of_pos _ (by decide))
    have hd : intD (fun i j => if CDiv i j then some (D.int (i / j)) else none) (.int (s : Int)) (.int 26) = some (.int ((s : Int) / 26)) := (fdiv_int _ _).trans (if_pos ⟨by decide, by decide⟩)
    obtain ⟨q, hq⟩ : ∃ q : Nat, (s : Int) / 26 = (q : Int) := ⟨s / 26, by omega⟩
    have hq9 : q < 12 := by omega
    have dg := List.all_eq_true.mp digits q (List.mem_range.mpr hq9)
    rw [Bool.and_eq_true, Bool.and_eq_true] at dg
    have hst : strOfD [.int (q : Int)] = some (.str (fmtI (q : Int))) := if_pos (of_decide_eq_true dg.2)
    obtain ⟨y, ey, hy⟩ := Shs.add hz (⟨fmtI (q : Int), rfl, dg.1.1, of_decide_eq_true dg.1.2⟩ : Shs 2 (.str (fmtI (q : Int)))) (by decide)
    rw [hq] at hd
    refine wp_seq (wp_if (wp_bl (wp_op (wp_var (d := .int ((0 + 1 : Nat) : Int)) rfl (wp_c ⟨_, eq_int, _, rfl, ite_y (show ((0 + 1 : Nat) : Int) = 1 from rfl) ?_⟩)))))
    refine wp_ret (wp_op (wp_op (wp_c (wp_op (wp_cb (wp_cons (wp_var (d := .int (s : Int)) rfl (wp_nil ⟨_, int_int _, wp_c ⟨_, hm, _, ez, wp_cb (wp_cons (wp_op (wp_var (d := .int (s : Int)) rfl (wp_c ⟨_, hd, wp_nil ⟨_, hst, _, ey, wk_rt ?_⟩⟩))))⟩⟩))))))))
    exact ⟨.leaf (hy.up (by decide)), rfl⟩
  | n + 1, k, s, hn, hb => by
    have ih := e_wood n k
    refine (show Wc (defM 2 4 (m__law_wood (cs (k + n + 1)))) _ _ from ?_)
    refine wc_def rfl rfl ?_; walk_at "n"
    have hs : sizeLine = 16777216 := sizeLine_eq
    have hb : s + 3 ^ n * 3 ≤ 300 := hb
    have e2 : ((n + 1 + 1 : Nat) : Int) - 2 = (n : Int) := by omega
    have e1 : ((n + 1 + 1 : Nat) : Int) - 1 = ((n + 1 : Nat) : Int) := by omega
    have hmany := many_of (m := n) (by omega)
    generalize 3 ^ n = m at hb ih hmany
    have cm : ∀ i : Int, CMul i (m : Int) := fun i => .inr ⟨by omega, by omega⟩
    have hmul : ∀ i : Int, intD (fun i j => if CMul i j then some (D.int (i * j)) else none) (.int i) (.int (m : Int)) = some (.int (i * (m : Int))) := fun i => (mul_int _ _).trans (if_pos (cm _))
    unfold m__law_wood
    generalize cs (k + n + 1) 44 = c44 at ih
    refine wp_seq (wp_if (wp_bl (wp_op (wp_var (d := .int ((n + 1 + 1 : Nat) : Int)) rfl (wp_c ⟨_, eq_int, _, rfl, ite_n (show ¬ ((n + 1 + 1 : Nat) : Int) = 1 by omega) (wp_next (wk_nx ?_))⟩)))))
    refine wp_seq (wp_set (wp_op (wp_lst (wp_sz (wp_cons (wp_c (wp_cons (wp_c (wp_cons (wp_c (wp_cons (wp_c (wp_nil ⟨(show 4 ≤ sizeLine by rw [hs]; decide), wp_op (wp_var (d := .int ((n + 1 + 1 : Nat) : Int)) rfl (wp_c ⟨_, sub_int, ?_⟩))⟩)))))))))))))
    rw [e2]
    refine ⟨_, hmany, rfl, ?_⟩
    walk_at "n"
    refine wk_nx (wp_ret (wp_op (wp_tup (wp_cons (wp_c (wp_nil ⟨(show 1 ≤ sizeLine by rw [hs]; decide), wp_cb (wp_cons (wp_lst (wp_lcsame (j := 3) (T := Tre 19 n) (e1 := [.d (.int ((n + 1 + 1 : Nat) : Int)), .d (.int (s : Int)), .d (.int (m : Int)), .no]) rfl (wp_irng (wp_cons (wp_c (wp_nil ⟨(3 : Int), rfl, by decide, rfl, by rw [upto_length, hs]; decide, fun i x hx => ?_, fun rs hl hT => wp_nil ⟨_, tup_lst rs, ?_⟩⟩)))))))⟩))))))
    · obtain ⟨rfl, hi⟩ := upto_get hx
      have hi : i < 3 := hi
      walk_at "n"
      have hc := ih (s + i * m) (by omega) (by
        have : i * m ≤ 2 * m := Nat.mul_le_mul_right _ (by omega)
        omega)
      have ec : (s : Int) + (i : Int) * (m : Int) = ((s + i * m : Nat) : Int) := by
        rw [Int.natCast_add, Int.natCast_mul]
      refine wp_call (wp_cons (wp_op (wp_var (d := .int ((n + 1 + 1 : Nat) : Int)) rfl (wp_c ⟨_, sub_int, wp_cons (wp_op (wp_var (d := .int (s : Int)) rfl (wp_op (wp_var (d := .int (i : Int)) rfl (wp_var (d := .int (m : Int)) rfl ⟨_, hmul _, _, add_int, wp_nil ⟨rfl, ?_⟩⟩)))))⟩))))
      rw [e1, ec]
      exact hc.mono fun x e' h => ⟨h.1, rfl⟩
    · have hl : rs.length = 3 := hl
      have ha : addD (.tup [.str "a.b"]) (.tup rs) = some (.tup (.str "a.b" :: rs)) := if_pos (by rw [List.length_cons, List.length_nil]; omega)
      refine ⟨_, ha, ?_⟩
      exact ⟨.node (shs_c "a.b" 19 (by decide) (by decide)) (by omega) hT, rfl⟩

end Nv

set_option Elab.async false
set_option linter.all false
set_option maxRecDepth 100000
set_option maxHeartbeats 1000000
namespace Nv
open PySem L2 PyProof.Rows PySem.Spec
local macro_rules | `(tactic| walk_at "n") => `(tactic| try simp only [List.set_cons_zero, List.set_cons_succ, List.map_cons, List.map_nil, List.cons_append, List.nil_append, List.replicate, Nat.reduceSub])
local macro_rules | `(tactic| walk_at "s") => `(tactic| first
  | with_reducible refine wp_seq ?_ | with_reducible refine wk_nx ?_ | with_reducible refine wk_rt ?_ | with_reducible refine wt_nx ?_ | with_reducible refine wt_rt ?_ | with_reducible refine wt_bk ?_ | with_reducible refine wt_ct ?_ | with_reducible refine wk_bk ?_ | with_reducible refine wk_ct ?_
  | with_reducible refine wp_if ?_ | with_reducible refine wp_ret ?_ | with_reducible refine wp_next ?_ | with_reducible refine wp_retN ?_ | with_reducible refine wp_set ?_ | with_reducible refine wp_own ?_ | with_reducible refine wp_drop ?_
  | ((with_reducible refine' wp_var ?_ ?_); rotate_left; rfl) | ((with_reducible refine' wp_varL ?_ ?_); rotate_left; rfl) | ((with_reducible refine' wp_app ?_ ?_); rotate_left; rfl) | ((with_reducible refine' wp_lget ?_ ?_ ?_); rotate_left 2; (· rfl); (· rfl)) | with_reducible refine wp_lput ?_ | ((with_reducible refine' wp_lown ?_ ?_ ?_); rotate_left; (· rfl); (· rfl)) | ((with_reducible refine' wp_fown ?_ ?_ ?_); rotate_left; (· rfl); (· rfl)) | with_reducible refine wp_c ?_ | with_reducible refine wp_op ?_ | with_reducible refine wp_un ?_ | with_reducible refine wp_cb ?_ | with_reducible refine wp_cons ?_ | with_reducible refine wp_nil ?_
  | with_reducible refine wp_bl ?_ | with_reducible refine wp_tru ?_ | with_reducible refine wp_not ?_ | with_reducible refine wp_and ?_ | with_reducible refine wp_or ?_ | with_reducible refine wp_andV ?_ | with_reducible refine wp_orV ?_ | with_reducible refine wp_notV ?_
  | with_reducible refine wp_chain ?_ | with_reducible refine wp_sz ?_ | with_reducible refine wp_lst ?_ | with_reducible refine wp_tup ?_ | with_reducible refine wp_is ?_ | with_reducible refine wp_onone ?_ | with_reducible refine wp_osome ?_ | with_reducible refine wp_sl ?_ | with_reducible refine wp_m1 ?_
  | with_reducible refine wp_all ?_ | with_reducible refine wp_repr ?_ | with_reducible refine wp_peek ?_ | with_reducible refine wp_peekT ?_ | with_reducible refine wp_addF ?_ | with_reducible refine wp_ilist ?_ | with_reducible refine wp_itup ?_ | with_reducible refine wp_istr ?_ | with_reducible refine wp_irng ?_ | with_reducible refine wp_list ?_ | with_reducible refine wp_listS ?_
  | with_reducible refine wp_for ?_ | with_reducible refine wp_call ?_ | with_reducible refine wp_callK ?_ | with_reducible refine wp_lnil ?_ | with_reducible refine wp_ldat ?_ | with_reducible refine wp_callL ?_ | with_reducible refine wp_flast ?_ | with_reducible refine wp_fdat ?_ | with_reducible refine wp_callF ?_
  | with_reducible refine ⟨_, (by assumption : _ = some _), ?_⟩
  | ((with_reducible refine' call_and ?_ ?_ ?_); rotate_left 2; (· rfl); (· assumption)) | ((with_reducible refine' callk_and ?_ ?_ ?_); rotate_left 2; (· exact ⟨rfl, rfl⟩); (· assumption))
  | refine ite_t ?_ | refine ite_f ?_ | refine ite_nt ?_ | refine ite_nf ?_
  | with_reducible refine ⟨_, add_int, ?_⟩ | with_reducible refine ⟨_, iadd_int, ?_⟩ | with_reducible refine ⟨_, sub_int, ?_⟩ | with_reducible refine ⟨_, lt_int, ?_⟩ | with_reducible refine ⟨_, le_int, ?_⟩ | with_reducible refine ⟨_, gt_int, ?_⟩ | with_reducible refine ⟨_, ge_int, ?_⟩ | with_reducible refine ⟨_, eq_int, ?_⟩
  | with_reducible refine ⟨_, len_lst, ?_⟩ | with_reducible refine ⟨_, len_tup, ?_⟩ | with_reducible refine ⟨_, tru_bl, ?_⟩ | with_reducible refine ⟨_, int_int _, ?_⟩ | with_reducible refine ⟨_, int_bl _, ?_⟩
  | with_reducible refine ⟨_, rfl, ?_⟩ | ((with_reducible refine free_and ?_ ?_); (· first | rfl | assumption); walk_at "n") | with_reducible refine rok_and (by assumption) ?_ | ((with_reducible refine kind_and ?_ ?_); (· first | rfl | assumption)) | ((with_reducible refine size_and ?_ ?_); (· simp only [List.length_cons, List.length_nil, sizeLine_eq]; omega))
  | with_reducible refine ite_y (by assumption) ?_ | with_reducible refine ite_n (by assumption) ?_ | with_reducible refine ite_ny (by assumption) ?_ | with_reducible refine ite_nn (by assumption) ?_ | with_reducible refine ite_bt (by assumption) ?_ | with_reducible refine ite_bf (by assumption) ?_ | with_reducible refine ite_nbt (by assumption) ?_ | with_reducible refine ite_nbf (by assumption) ?_)
local macro_rules | `(tactic| walk_at "r") => `(tactic| repeat walk_at "s")
local macro_rules | `(tactic| walk_at "f") => `(tactic| (refine ⟨rfl, ?_⟩; walk_at "n"))
local macro_rules | `(tactic| walk_at "d") => `(tactic| (with_reducible refine wp_draw' (by assumption) (by omega) (by decide) ?_; intro _ _ _ _ _))
/-! Fi15: the pen in the law's own slot. -/
theorem wp_pen1 {f : Fm} {n : Nat} {r : M (List D)} {x0 : Sl} {K : List (Key × D)} {e : Env} {Q : D → Env → Prop}
    (h : Wp r (x0 :: .od K :: e) fun ds e1 => ds.length + 1 = n ∧ ∃ (xs : List Int) (N : Int) (c : Nat) (G : D → Prop) (K1 : List (Key × D)) (e' : Env), e1 = x0 :: .od K1 :: e' ∧ PenAt xs N K1 ∧ N + c ≤ 4000000 ∧ Draws f c (ds.map .d) G ∧ ∀ d K', G d → PenAt xs (N + c) K' → Q d (x0 :: .od K' :: e')) : Wp (mCallP n 1 f r) (x0 :: .od K :: e) Q := by
  refine wp_callP (s0 := .od K) rfl rfl (h.mono ?_)
  rintro ds e1 ⟨hl, xs, N, c, G, K1, e', rfl, hp, hN, hd, k⟩
  refine ⟨.od K1, rfl, rfl, hl, (hd xs N K1 hp hN).mono ?_⟩
  rintro d as' ⟨hG, K', rfl, hp'⟩
  exact ⟨.pd K', rfl, k d K' hG hp'⟩
theorem wp_draw1 {k : Nat} {m : Int} {xs : List Int} {N : Int} {x0 : Sl} {K : List (Key × D)} {e : Env} {Q : D → Env → Prop} (hp : PenAt xs N K) (hN : N + 1 ≤ 4000000) (hm : 0 < m ∧ m ≤ 100)
    (h : ∀ (i : Int) K', 0 ≤ i → i < m → PenAt xs (N + 1) K' → Q (.int i) (x0 :: .od K' :: e)) : Wp (mCallP 2 1 (cs (k + 1) 8) (mCons (mC (.int m)) mNil)) (x0 :: .od K :: e) Q := by
  refine wp_pen1 (wp_cons (wp_c (wp_nil ⟨rfl, xs, N, 1, _, K, e, rfl, hp, hN, draws_draw k hm, ?_⟩)))
  rintro d K' ⟨i, rfl, h0, h1⟩ hp'
  exact h i K' h0 h1 hp'
theorem wp_term1 {k : Nat} {ws ls : List D} (hws : lex ws) (hls : lets ls) {xs : List Int} {N : Int} {x0 : Sl} {K : List (Key × D)} {e : Env} {Q : D → Env → Prop} (hp : PenAt xs N K) (hN : N + 728 ≤ 4000000)
    (q : ∀ d K', Tre 19 6 d → (pre d).length ≤ 40 → PenAt xs (N + 728) K' → Q d (x0 :: .od K' :: .d (.lst ws) :: .d (.lst ls) :: e)) :
    Wp (mCallF 5 (cs (k + 7) 11) (mFOwn 1 (mFDat (mVar 2) (mFDat (mVar 3) (mFDat (mC (.int 6)) (mFLast (mSz (mCons (mC (.int 40)) mNil)))))))) (x0 :: .od K :: .d (.lst ws) :: .d (.lst ls) :: e) Q := by
  have ht := e_term2 ws ls hws hls 5 k xs N K 40 hp hN (by decide)
  refine wp_callF (wp_fown (s0 := .od K) rfl rfl (wp_fdat (wp_var (d := .lst ws) rfl (wp_fdat (wp_var (d := .lst ls) rfl (wp_fdat (wp_c (wp_flast (wp_sz (wp_cons (wp_c (wp_nil ⟨by decide, ?_⟩))))))))))))
  refine ⟨⟨rfl, rfl⟩, _, rfl, ht.mono ?_⟩
  rintro d as' ⟨hd, K', p', rfl, hp', g0, gs⟩
  exact q d K' hd (by omega) hp'
theorem wp_lcpen1 {j : Nat} {it : M (List D)} {m : M D} {T : D → Prop} {xs : List Int} {c : Nat} {x0 : Sl} {K : List (Key × D)} {e0 e1 : Env} {Q : List D → Env → Prop} (hj : e1[j]? = some .no)
    (step : ∀ (N : Int) (K : List (Key × D)) (x : D), PenAt xs N K → N + c ≤ 4000000 → Wp m (x0 :: .od K :: e1.set j (.d x)) fun d e2 => T d ∧ ∃ K', e2 = x0 :: .od K' :: e1.set j (.d x) ∧ PenAt xs (N + c) K')
    (h : Wp it (x0 :: .od K :: e0) fun ds e2 => ∃ (N1 : Int) (K1 : List (Key × D)), e2 = x0 :: .od K1 :: e1 ∧ PenAt xs N1 K1 ∧ N1 + ds.length * c ≤ 4000000 ∧ ds.length ≤ 1000 ∧ ∀ rs K', rs.length = ds.length → (∀ r ∈ rs, T r) → PenAt xs (N1 + ds.length * c) K' → Q rs (x0 :: .od K' :: e1)) :
    Wp (mLc it mYes m (j + 2)) (x0 :: .od K :: e0) Q := by
  refine wp_lc (h.mono ?_)
  rintro ds e2 ⟨N1, K1, rfl, hp, hN, hl, k⟩
  refine ⟨hj, ?_⟩
  have hs : ∀ i d acc e, ds[i]? = some d → (∃ K', e = x0 :: .od K' :: e1 ∧ PenAt xs (N1 + (0 + i : Nat) * c) K' ∧ acc.length = 0 + i ∧ ∀ r ∈ acc, T r) → Wp mYes (e.set (j + 2) (.d d)) fun b e1' => if b = true then Wp m e1' fun y e2 => (∃ K', e2.set (j + 2) .no = x0 :: .od K' :: e1 ∧ PenAt xs (N1 + (0 + i + 1 : Nat) * c) K' ∧ (acc ++ [y]).length = 0 + i + 1 ∧ ∀ r ∈ acc ++ [y], T r) else (∃ K', e1'.set (j + 2) .no = x0 :: .od K' :: e1 ∧ PenAt xs (N1 + (0 + i + 1 : Nat) * c) K' ∧ acc.length = 0 + i + 1 ∧ ∀ r ∈ acc, T r) := by
    rintro i d acc e hd ⟨K2, rfl, hp2, hlen, hT⟩
    have hi : i < ds.length := (List.getElem?_eq_some_iff.mp hd).1
    have hm : (i + 1) * c ≤ ds.length * c := Nat.mul_le_mul_right c hi
    rw [Nat.zero_add] at hp2 hlen ⊢
    have e1' : ((i + 1 : Nat) : Int) * c = (i : Int) * c + c := by rw [Int.natCast_add, Int.add_mul]; omega
    have hm' : ((i + 1 : Nat) : Int) * c ≤ (ds.length : Int) * c := by exact_mod_cast hm
    refine ⟨true, x0 :: .od K2 :: e1.set j (.d d), rfl, ?_⟩
    refine ite_t ((step (N1 + i * c) K2 d hp2 (by omega)).mono ?_)
    rintro y e2 ⟨hy, K3, rfl, hp3⟩
    refine ⟨K3, ?_, hp3.up (by omega), by rw [List.length_append, hlen]; rfl, fun r hr => ?_⟩
    · show x0 :: Sl.od K3 :: (e1.set j (.d d)).set j .no = _
      rw [set_no' hj]
    · rcases List.mem_append.mp hr with z | z
      · exact hT r z
      · rw [List.mem_singleton.mp z]; exact hy
  obtain ⟨rs, e3, a, K', rfl, p, b, t⟩ := lc_inv (j := j + 2) (t := mYes) (a := m) (fun i acc e => ∃ K', e = x0 :: .od K' :: e1 ∧ PenAt xs (N1 + i * c) K' ∧ acc.length = i ∧ ∀ r ∈ acc, T r) ds [] 0 (x0 :: .od K1 :: e1) ⟨K1, rfl, by simpa using hp, rfl, fun _ z => by cases z⟩ (by rw [List.length_nil, sizeLine_eq]; omega) hs
  rw [Nat.zero_add] at p b
  exact ⟨rs, _, a, k rs K' b t p⟩
theorem pen0_pk (ns : List Int) : pen0 (ns.map D.int) = pk (ns.take 63) 0 0 := by
  unfold pen0 pk
  rw [List.map_take]
theorem ne_str (a : Str) : neXD (.str a) (.str a) = some (.bl false) := by
  show some (D.bl (!decide (a = a))) = _
  rw [decide_eq_true rfl]
  rfl
theorem cut_mem {xs : List D} {lo hi : Option Int} : (∀ x ∈ cut xs lo hi, x ∈ xs) ∧ (cut xs lo hi).length ≤ xs.length := by
  unfold cut
  refine ⟨fun x hx => List.mem_of_mem_drop (List.mem_of_mem_take hx), ?_⟩
  rw [List.length_take, List.length_drop]
  omega

end Nv

set_option Elab.async false
set_option linter.all false
set_option maxRecDepth 100000
set_option maxHeartbeats 1000000
namespace Nv
open PySem L2 PyProof.Rows PySem.Spec
local macro_rules | `(tactic| walk_at "n") => `(tactic| try simp only [List.set_cons_zero, List.set_cons_succ, List.map_cons, List.map_nil, List.cons_append, List.nil_append, List.replicate, Nat.reduceSub])
local macro_rules | `(tactic| walk_at "s") => `(tactic| first
  | with_reducible refine wp_seq ?_ | with_reducible refine wk_nx ?_ | with_reducible refine wk_rt ?_ | with_reducible refine wt_nx ?_ | with_reducible refine wt_rt ?_ | with_reducible refine wt_bk ?_ | with_reducible refine wt_ct ?_ | with_reducible refine wk_bk ?_ | with_reducible refine wk_ct ?_
  | with_reducible refine wp_if ?_ | with_reducible refine wp_ret ?_ | with_reducible refine wp_next ?_ | with_reducible refine wp_retN ?_ | with_reducible refine wp_set ?_ | with_reducible refine wp_own ?_ | with_reducible refine wp_drop ?_
  | ((with_reducible refine' wp_var ?_ ?_); rotate_left; rfl) | ((with_reducible refine' wp_varL ?_ ?_); rotate_left; rfl) | ((with_reducible refine' wp_app ?_ ?_); rotate_left; rfl) | ((with_reducible refine' wp_lget ?_ ?_ ?_); rotate_left 2; (· rfl); (· rfl)) | with_reducible refine wp_lput ?_ | ((with_reducible refine' wp_lown ?_ ?_ ?_); rotate_left; (· rfl); (· rfl)) | ((with_reducible refine' wp_fown ?_ ?_ ?_); rotate_left; (· rfl); (· rfl)) | with_reducible refine wp_c ?_ | with_reducible refine wp_op ?_ | with_reducible refine wp_un ?_ | with_reducible refine wp_cb ?_ | with_reducible refine wp_cons ?_ | with_reducible refine wp_nil ?_
  | with_reducible refine wp_bl ?_ | with_reducible refine wp_tru ?_ | with_reducible refine wp_not ?_ | with_reducible refine wp_and ?_ | with_reducible refine wp_or ?_ | with_reducible refine wp_andV ?_ | with_reducible refine wp_orV ?_ | with_reducible refine wp_notV ?_
  | with_reducible refine wp_chain ?_ | with_reducible refine wp_sz ?_ | with_reducible refine wp_lst ?_ | with_reducible refine wp_tup ?_ | with_reducible refine wp_is ?_ | with_reducible refine wp_onone ?_ | with_reducible refine wp_osome ?_ | with_reducible refine wp_sl ?_ | with_reducible refine wp_m1 ?_
  | with_reducible refine wp_all ?_ | with_reducible refine wp_repr ?_ | with_reducible refine wp_peek ?_ | with_reducible refine wp_peekT ?_ | with_reducible refine wp_addF ?_ | with_reducible refine wp_ilist ?_ | with_reducible refine wp_itup ?_ | with_reducible refine wp_istr ?_ | with_reducible refine wp_irng ?_ | with_reducible refine wp_list ?_ | with_reducible refine wp_listS ?_
  | with_reducible refine wp_for ?_ | with_reducible refine wp_call ?_ | with_reducible refine wp_callK ?_ | with_reducible refine wp_lnil ?_ | with_reducible refine wp_ldat ?_ | with_reducible refine wp_callL ?_ | with_reducible refine wp_flast ?_ | with_reducible refine wp_fdat ?_ | with_reducible refine wp_callF ?_
  | with_reducible refine ⟨_, (by assumption : _ = some _), ?_⟩
  | ((with_reducible refine' call_and ?_ ?_ ?_); rotate_left 2; (· rfl); (· assumption)) | ((with_reducible refine' callk_and ?_ ?_ ?_); rotate_left 2; (· exact ⟨rfl, rfl⟩); (· assumption))
  | refine ite_t ?_ | refine ite_f ?_ | refine ite_nt ?_ | refine ite_nf ?_
  | with_reducible refine ⟨_, add_int, ?_⟩ | with_reducible refine ⟨_, iadd_int, ?_⟩ | with_reducible refine ⟨_, sub_int, ?_⟩ | with_reducible refine ⟨_, lt_int, ?_⟩ | with_reducible refine ⟨_, le_int, ?_⟩ | with_reducible refine ⟨_, gt_int, ?_⟩ | with_reducible refine ⟨_, ge_int, ?_⟩ | with_reducible refine ⟨_, eq_int, ?_⟩
  | with_reducible refine ⟨_, len_lst, ?_⟩ | with_reducible refine ⟨_, len_tup, ?_⟩ | with_reducible refine ⟨_, tru_bl, ?_⟩ | with_reducible refine ⟨_, int_int _, ?_⟩ | with_reducible refine ⟨_, int_bl _, ?_⟩
  | with_reducible refine ⟨_, rfl, ?_⟩ | ((with_reducible refine free_and ?_ ?_); (· first | rfl | assumption); walk_at "n") | with_reducible refine rok_and (by assumption) ?_ | ((with_reducible refine kind_and ?_ ?_); (· first | rfl | assumption)) | ((with_reducible refine size_and ?_ ?_); (· simp only [List.length_cons, List.length_nil, sizeLine_eq]; omega))
  | with_reducible refine ite_y (by assumption) ?_ | with_reducible refine ite_n (by assumption) ?_ | with_reducible refine ite_ny (by assumption) ?_ | with_reducible refine ite_nn (by assumption) ?_ | with_reducible refine ite_bt (by assumption) ?_ | with_reducible refine ite_bf (by assumption) ?_ | with_reducible refine ite_nbt (by assumption) ?_ | with_reducible refine ite_nbf (by assumption) ?_)
local macro_rules | `(tactic| walk_at "r") => `(tactic| repeat walk_at "s")
local macro_rules | `(tactic| walk_at "f") => `(tactic| (refine ⟨rfl, ?_⟩; walk_at "n"))
local macro_rules | `(tactic| walk_at "d") => `(tactic| (with_reducible refine wp_draw' (by assumption) (by omega) (by decide) ?_; intro _ _ _ _ _))
/-! Fi16: the law's turns. -/
def ltBody (c : Nat → Fm) : MS := (mSeq (mSet 8 (mRepr (mCons (mCall 1 (c 221) (mCons (mVar 7) mNil)) mNil)))
    (mIf (mOr (mBl (mOp neXD (mRepr (mCons (mCall 1 (c 55) (mCons (mVar 7) mNil)) mNil)) (mVar 8))) (mBl (mOp neXD (mRepr (mCons (mCallK 1 1 [0] (c 55) (mCons (mVar 7) mNil)) mNil)) (mVar 8)))) (mRet (mC (.bl false))) mNext))
theorem both (n : Nat) (hn : n ≤ 20) {ts : List D} (h : ∀ t ∈ ts, Tre 19 n t) (hl : (preL ts).length < 1000) : ∃ F, cs 30 221 [.d (.tup ts)] = some (F, [.d (.tup ts)]) ∧ cs 30 55 [.d (.tup ts)] = some (F, [.d (.tup ts)]) ∧ rokB F = true := by
  have a := e_lrenamed n (27 - n) h hl
  rw [show 27 - n + n + 3 = 30 by omega] at a
  have mem : ∀ t ∈ ts, (pre t).length < 1000 := fun t ht => by
    obtain ⟨u, v, rfl⟩ := List.append_of_mem ht
    rw [preL_app, List.length_append, preL_cons, List.length_append] at hl
    omega
  have b := e_renamed 26 (fun t ht => ⟨(h t ht).tt, mem t ht⟩) hl
  refine ⟨_, a, b, (ren_tre h hl).resolve_right (by omega)⟩
theorem lt_turn {ts : List D} (h : ∀ t ∈ ts, Tre 19 6 t) (hl : (preL ts).length < 1000) {x0 x1 x2 x3 x4 x5 x6 x8 x9 xa xb : Sl} (h8 : Plain x8) {P : Env → Prop} {R : Out → Env → Prop}
    (q : ∀ y8, Plain y8 → P [x0, x1, x2, x3, x4, x5, x6, .d (.tup ts), y8, x9, xa, xb]) : Wp (ltBody (cs 30)) [x0, x1, x2, x3, x4, x5, x6, .d (.tup ts), x8, x9, xa, xb] (turnK P R) := by
  obtain ⟨F, a, b, c⟩ := both 6 (by decide) h hl
  have f8 : freeB [x0, x1, x2, x3, x4, x5, x6, .d (.tup ts), x8, x9, xa, xb] 8 = true := by rcases h8 with rfl | ⟨y, rfl⟩ <;> rfl
  unfold ltBody
  generalize cs 30 221 = c1 at a
  generalize cs 30 55 = c2 at b
  refine wp_seq (wp_set (wp_repr (wp_cons (wp_call (wp_cons (wp_var (d := .tup ts) rfl (wp_nil ⟨rfl, wc_eq a (wp_nil ⟨F, rfl, c, f8, wk_nx ?_⟩)⟩)))))))
  show Wp _ [x0, x1, x2, x3, x4, x5, x6, .d (.tup ts), .d (.str F.py.shown), x9, xa, xb] _
  refine wp_if (wp_or (wp_bl (wp_op (wp_repr (wp_cons (wp_call (wp_cons (wp_var (d := .tup ts) rfl (wp_nil ⟨rfl, wc_eq b (wp_nil ⟨F, rfl, c, wp_var (d := .str F.py.shown) rfl ⟨_, ne_str _, _, rfl, ite_f ?_⟩⟩)⟩)))))))))
  refine wp_bl (wp_op (wp_repr (wp_cons (wp_callK (wp_cons (wp_var (d := .tup ts) rfl (wp_nil ⟨⟨rfl, rfl⟩, wc_eq b (wp_nil ⟨F, rfl, c, wp_var (d := .str F.py.shown) rfl ⟨_, ne_str _, _, rfl, ite_f ?_⟩⟩)⟩)))))))
  exact wp_next (wt_nx (q _ (.d _)))
def trBody (c : Nat → Fm) : MS := (mIf (mNot (mTru (mCall 2 (c 220) (mCons (mVar 6) (mCons (mCallP 3 1 (c 48) (mCons (mVar 2) (mCons (mVar 3) mNil))) mNil))))) (mRet (mC (.bl false))) mNext)
theorem tr_turn {ws ls : List D} (hws : lex ws) (hls : lets ls) (h5 : ls.length = 5) {xs : List Int} {N : Int} {K : List (Key × D)} (hp : PenAt xs N K) (hN : N + 1300 ≤ 4000000) {t : D} (ht : Tre 19 6 t) (hl : (pre t).length ≤ 200) {x0 x4 x5 x7 x8 x9 xa xb : Sl} {P : Env → Prop} {R : Out → Env → Prop}
    (q : ∀ K', PenAt xs (N + 1300) K' → P [x0, .od K', .d (.lst ws), .d (.lst ls), x4, x5, .d t, x7, x8, x9, xa, xb]) : Wp (trBody (cs 30)) [x0, .od K, .d (.lst ws), .d (.lst ls), x4, x5, .d t, x7, x8, x9, xa, xb] (turnK P R) := by
  have sw := e_swap 23 hws hls h5
  have rt := fun {kvs : List (Key × D)} (h : SwapD kvs) => e_right 20 ht (by decide) hl h
  rw [show cs (23 + 7) = cs 30 from rfl] at sw
  have rt : ∀ {kvs : List (Key × D)}, SwapD kvs → cs 30 220 [.d t, .d (.dct kvs)] = some (.bl true, [.d t, .d (.dct kvs)]) := fun h => rt h
  unfold trBody
  generalize cs 30 48 = c1 at sw
  generalize cs 30 220 = c2 at rt
  refine wp_if (wp_not (wp_tru (wp_call (wp_cons (wp_var (d := t) rfl (wp_cons (wp_pen1 (wp_cons (wp_var (d := .lst ws) rfl (wp_cons (wp_var (d := .lst ls) rfl (wp_nil ⟨rfl, xs, N, 1300, _, K, _, rfl, hp, hN, sw, ?_⟩))))))))))))
  rintro d K' ⟨kvs, rfl, hk⟩ hp'
  exact wp_nil ⟨rfl, wc_eq (rt hk) ⟨_, tru_bl, ite_nt (wp_next (wt_nx (q K' hp')))⟩⟩

end Nv

set_option Elab.async false
set_option linter.all false
set_option maxRecDepth 100000
set_option maxHeartbeats 1000000
namespace Nv
open PySem L2 PyProof.Rows PySem.Spec
local macro_rules | `(tactic| walk_at "n") => `(tactic| try simp only [List.set_cons_zero, List.set_cons_succ, List.map_cons, List.map_nil, List.cons_append, List.nil_append, List.replicate, Nat.reduceSub])
local macro_rules | `(tactic| walk_at "s") => `(tactic| first
  | with_reducible refine wp_seq ?_ | with_reducible refine wk_nx ?_ | with_reducible refine wk_rt ?_ | with_reducible refine wt_nx ?_ | with_reducible refine wt_rt ?_ | with_reducible refine wt_bk ?_ | with_reducible refine wt_ct ?_ | with_reducible refine wk_bk ?_ | with_reducible refine wk_ct ?_
  | with_reducible refine wp_if ?_ | with_reducible refine wp_ret ?_ | with_reducible refine wp_next ?_ | with_reducible refine wp_retN ?_ | with_reducible refine wp_set ?_ | with_reducible refine wp_own ?_ | with_reducible refine wp_drop ?_
  | ((with_reducible refine' wp_var ?_ ?_); rotate_left; rfl) | ((with_reducible refine' wp_varL ?_ ?_); rotate_left; rfl) | ((with_reducible refine' wp_app ?_ ?_); rotate_left; rfl) | ((with_reducible refine' wp_lget ?_ ?_ ?_); rotate_left 2; (· rfl); (· rfl)) | with_reducible refine wp_lput ?_ | ((with_reducible refine' wp_lown ?_ ?_ ?_); rotate_left; (· rfl); (· rfl)) | ((with_reducible refine' wp_fown ?_ ?_ ?_); rotate_left; (· rfl); (· rfl)) | with_reducible refine wp_c ?_ | with_reducible refine wp_op ?_ | with_reducible refine wp_un ?_ | with_reducible refine wp_cb ?_ | with_reducible refine wp_cons ?_ | with_reducible refine wp_nil ?_
  | with_reducible refine wp_bl ?_ | with_reducible refine wp_tru ?_ | with_reducible refine wp_not ?_ | with_reducible refine wp_and ?_ | with_reducible refine wp_or ?_ | with_reducible refine wp_andV ?_ | with_reducible refine wp_orV ?_ | with_reducible refine wp_notV ?_
  | with_reducible refine wp_chain ?_ | with_reducible refine wp_sz ?_ | with_reducible refine wp_lst ?_ | with_reducible refine wp_tup ?_ | with_reducible refine wp_is ?_ | with_reducible refine wp_onone ?_ | with_reducible refine wp_osome ?_ | with_reducible refine wp_sl ?_ | with_reducible refine wp_m1 ?_
  | with_reducible refine wp_all ?_ | with_reducible refine wp_repr ?_ | with_reducible refine wp_peek ?_ | with_reducible refine wp_peekT ?_ | with_reducible refine wp_addF ?_ | with_reducible refine wp_ilist ?_ | with_reducible refine wp_itup ?_ | with_reducible refine wp_istr ?_ | with_reducible refine wp_irng ?_ | with_reducible refine wp_list ?_ | with_reducible refine wp_listS ?_
  | with_reducible refine wp_for ?_ | with_reducible refine wp_call ?_ | with_reducible refine wp_callK ?_ | with_reducible refine wp_lnil ?_ | with_reducible refine wp_ldat ?_ | with_reducible refine wp_callL ?_ | with_reducible refine wp_flast ?_ | with_reducible refine wp_fdat ?_ | with_reducible refine wp_callF ?_
  | with_reducible refine ⟨_, (by assumption : _ = some _), ?_⟩
  | ((with_reducible refine' call_and ?_ ?_ ?_); rotate_left 2; (· rfl); (· assumption)) | ((with_reducible refine' callk_and ?_ ?_ ?_); rotate_left 2; (· exact ⟨rfl, rfl⟩); (· assumption))
  | refine ite_t ?_ | refine ite_f ?_ | refine ite_nt ?_ | refine ite_nf ?_
  | with_reducible refine ⟨_, add_int, ?_⟩ | with_reducible refine ⟨_, iadd_int, ?_⟩ | with_reducible refine ⟨_, sub_int, ?_⟩ | with_reducible refine ⟨_, lt_int, ?_⟩ | with_reducible refine ⟨_, le_int, ?_⟩ | with_reducible refine ⟨_, gt_int, ?_⟩ | with_reducible refine ⟨_, ge_int, ?_⟩ | with_reducible refine ⟨_, eq_int, ?_⟩
  | with_reducible refine ⟨_, len_lst, ?_⟩ | with_reducible refine ⟨_, len_tup, ?_⟩ | with_reducible refine ⟨_, tru_bl, ?_⟩ | with_reducible refine ⟨_, int_int _, ?_⟩ | with_reducible refine ⟨_, int_bl _, ?_⟩
  | with_reducible refine ⟨_, rfl, ?_⟩ | ((with_reducible refine free_and ?_ ?_); (· first | rfl | assumption); walk_at "n") | with_reducible refine rok_and (by assumption) ?_ | ((with_reducible refine kind_and ?_ ?_); (· first | rfl | assumption)) | ((with_reducible refine size_and ?_ ?_); (· simp only [List.length_cons, List.length_nil, sizeLine_eq]; omega))
  | with_reducible refine ite_y (by assumption) ?_ | with_reducible refine ite_n (by assumption) ?_ | with_reducible refine ite_ny (by assumption) ?_ | with_reducible refine ite_nn (by assumption) ?_ | with_reducible refine ite_bt (by assumption) ?_ | with_reducible refine ite_bf (by assumption) ?_ | with_reducible refine ite_nbt (by assumption) ?_ | with_reducible refine ite_nbf (by assumption) ?_)
local macro_rules | `(tactic| walk_at "r") => `(tactic| repeat walk_at "s")
local macro_rules | `(tactic| walk_at "f") => `(tactic| (refine ⟨rfl, ?_⟩; walk_at "n"))
local macro_rules | `(tactic| walk_at "d") => `(tactic| (with_reducible refine wp_draw' (by assumption) (by omega) (by decide) ?_; intro _ _ _ _ _))
/-! Fi17: a turn of the law. -/
def tnBody (c : Nat → Fm) : MS := (mSeq (mOwn 5 (mLc (mIRng (mCons (mCallP 2 1 (c 8) (mCons (mC (.int 4)) mNil)) mNil)) mYes (mCallF 5 (c 11) (mFOwn 1 (mFDat (mVar 2) (mFDat (mVar 3) (mFDat (mC (.int 6)) (mFLast (mSz (mCons (mC (.int 40)) mNil)))))))) 11))
    (mSeq (mApp 5 (mCallP 4 1 (c 15) (mCons (mVar 2) (mCons (mVar 3) (mCons (mOp addD (mC (.int 1)) (mCallP 2 1 (c 8) (mCons (mC (.int 4)) mNil))) mNil)))))
    (mSeq (mFor (mIList (mVar 5)) 6 (trBody c))
    (mFor (mITup (mTup (mCons (mTup mNil) (mCons (mCb tupOfD (mCons (mSl (mVar 5) mONone (mOSome (mC (.int 1)))) mNil)) (mCons (mCb tupOfD (mCons (mSl (mVar 5) (mOSome (mUn negD (mC (.int 2)))) mONone) mNil)) (mCons (mCb tupOfD (mCons (mSl (mVar 5) mONone (mOSome (mC (.int 3)))) mNil)) mNil)))))) 7 (ltBody c)))))
theorem fc_le {n : Nat} (h : n ≤ 3) : (fc n : Int) ≤ 40 := by
  have : n = 0 ∨ n = 1 ∨ n = 2 ∨ n = 3 := by omega
  rcases this with rfl | rfl | rfl | rfl <;> decide
theorem pz_le {n : Nat} (h : n ≤ 4) : pz n ≤ 121 := by
  have : n = 0 ∨ n = 1 ∨ n = 2 ∨ n = 3 ∨ n = 4 := by omega
  rcases this with rfl | rfl | rfl | rfl | rfl <;> decide
theorem tn_turn {ws ls : List D} (hws : lex ws) (hls : lets ls) (h5 : ls.length = 5) {xs : List Int} {N : Int} {K : List (Key × D)} (hp : PenAt xs N K) (hN : N + 7500 ≤ 4000000) {x0 x4 x5 x6 x7 x8 : Sl} (g5 : Plain x5) (g6 : Plain x6) (g7 : Plain x7) (g8 : Plain x8) {P : Env → Prop} {R : Out → Env → Prop}
    (q : ∀ K' y5 y6 y7 y8, PenAt xs (N + 7500) K' → Plain y5 → Plain y6 → Plain y7 → Plain y8 → P [x0, .od K', .d (.lst ws), .d (.lst ls), x4, y5, y6, y7, y8, .no, .no, .no]) : Wp (tnBody (cs 30)) [x0, .od K, .d (.lst ws), .d (.lst ls), x4, x5, x6, x7, x8, .no, .no, .no] (turnK P R) := by
  have hs : sizeLine = 16777216 := sizeLine_eq
  have hT := @tr_turn ws ls hws hls h5
  have hL := @lt_turn
  unfold tnBody
  generalize trBody (cs 30) = TB at hT
  generalize ltBody (cs 30) = LB at hL
  refine wp_seq (wp_own (wp_lcpen1 (j := 9) (T := fun d => Tre 19 6 d ∧ (pre d).length ≤ 40) (xs := xs) (c := 728) (e1 := [.d (.lst ws), .d (.lst ls), x4, x5, x6, x7, x8, .no, .no, .no]) rfl (fun N K x hp hN => ?_) ?_))
  · exact wp_term1 (k := 23) hws hls hp hN fun d K' a b p => ⟨⟨a, b⟩, K', rfl, p⟩
  refine wp_irng (wp_cons (wp_draw1 (k := 29) hp (by omega) (by decide) fun i K1 i0 i1 p1 => wp_nil ⟨i, rfl, by omega, N + 1, K1, rfl, p1, by rw [upto_length]; omega, by rw [upto_length]; omega, fun rs K2 hl hR p2 => ?_⟩))
  rw [upto_length] at hl p2
  have f5 : freeB [x0, .od K2, .d (.lst ws), .d (.lst ls), x4, x5, x6, x7, x8, .no, .no, .no] 5 = true := by rcases g5 with rfl | ⟨y, rfl⟩ <;> rfl
  refine ⟨f5, wk_nx ?_⟩
  show Wp _ [x0, .od K2, .d (.lst ws), .d (.lst ls), x4, .ol rs, x6, x7, x8, .no, .no, .no] _
  have p2 := p2.up (M := N + 2185) (by omega)
  refine wp_seq (wp_app (ys := rs) rfl (wp_pen1 (wp_cons (wp_var (d := .lst ws) rfl (wp_cons (wp_var (d := .lst ls) rfl (wp_cons (wp_op (wp_c (wp_draw1 (k := 29) p2 (by omega) (by decide) fun j K3 j0 j1 p3 => ⟨_, add_int, wp_nil ?_⟩))))))))))
  obtain ⟨n, rfl⟩ : ∃ n : Nat, j = (n : Int) := ⟨j.toNat, by omega⟩
  have e1 : (1 : Int) + (n : Int) = ((n + 1 : Nat) : Int) := by omega
  have fn := fc_le (n := n) (by omega)
  have full := e_full ws ls hws hls n (28 - n)
  rw [show 28 - n + n + 2 = 30 by omega] at full
  rw [e1]
  refine ⟨rfl, xs, _, fc n, _, K3, _, rfl, p3, by omega, full, ?_⟩
  rintro d K4 ⟨hd, _⟩ p4
  refine ⟨rs, rfl, by omega, wk_nx ?_⟩
  show Wp _ [x0, .od K4, .d (.lst ws), .d (.lst ls), x4, .ol (rs ++ [d]), x6, x7, x8, .no, .no, .no] _
  have p4 := p4.up (M := N + 2226) (by omega)
  have pd := tre_pz hd
  have pn := pz_le (n := n + 1) (by omega)
  have all : ∀ t ∈ rs ++ [d], Tre 19 6 t ∧ (pre t).length ≤ 121 := fun t ht => by
    rcases List.mem_append.mp ht with z | z
    · exact ⟨(hR t z).1, by have := (hR t z).2; omega⟩
    · rw [List.mem_singleton.mp z]
      exact ⟨hd.up (by omega), by omega⟩
  have la : (rs ++ [d]).length ≤ 4 := by rw [List.length_append, List.length_cons, List.length_nil]; omega
  generalize rs ++ [d] = some at all la ⊢
  refine wp_seq (wp_for (wp_ilist (wp_varL (xs := some) rfl ⟨some, rfl, ?_⟩)))
  refine for_inv (fun i e => ∃ K' y6, e = [x0, .od K', .d (.lst ws), .d (.lst ls), x4, .d (.lst some), y6, x7, x8, .no, .no, .no] ∧ PenAt xs (N + 2226 + i * 1300) K' ∧ Plain y6) some 0 _ ⟨K4, x6, rfl, p4.up (by omega), g6⟩ ?_ ?_
  · rintro i y e hy ⟨K', y6, rfl, hp', h6⟩
    have hi : i < some.length := (List.getElem?_eq_some_iff.mp hy).1
    rw [Nat.zero_add] at hp' ⊢
    have f6 : freeB [x0, .od K', .d (.lst ws), .d (.lst ls), x4, .d (.lst some), y6, x7, x8, .no, .no, .no] 6 = true := by rcases h6 with rfl | ⟨y, rfl⟩ <;> rfl
    refine ⟨f6, ?_⟩
    have ay := all y (List.mem_of_getElem? hy)
    exact hT hp' (by omega) ay.1 (by omega) fun K5 p5 => ⟨K5, _, rfl, p5.up (by omega), .d _⟩
  rintro e ⟨K', y6, rfl, hp', h6⟩
  rw [Nat.zero_add] at hp'
  have hp' := hp'.up (M := N + 7500) (by omega)
  have s1 : slD (.lst some) none (Option.some 1) = Option.some (.lst (cut some none (Option.some 1))) := rfl
  have s2 : slD (.lst some) (Option.some (-2)) none = Option.some (.lst (cut some (Option.some (-2)) none)) := rfl
  have s3 : slD (.lst some) none (Option.some 3) = Option.some (.lst (cut some none (Option.some 3))) := rfl
  have c1 := cut_mem (xs := some) (lo := none) (hi := Option.some 1)
  have c2 := cut_mem (xs := some) (lo := Option.some (-2)) (hi := none)
  have c3 := cut_mem (xs := some) (lo := none) (hi := Option.some 3)
  have t1 := tup_lst (cut some none (Option.some 1))
  have t2 := tup_lst (cut some (Option.some (-2)) none)
  have t3 := tup_lst (cut some none (Option.some 3))
  generalize cut some none (Option.some 1) = l1 at *
  generalize cut some (Option.some (-2)) none = l2 at *
  generalize cut some none (Option.some 3) = l3 at *
  have lots : ∀ l ∈ [D.tup [], .tup l1, .tup l2, .tup l3], ∃ ts, l = .tup ts ∧ (∀ t ∈ ts, t ∈ some) ∧ ts.length ≤ some.length := fun l hl => by
    simp only [List.mem_cons, List.not_mem_nil, or_false] at hl
    rcases hl with rfl | rfl | rfl | rfl
    · exact ⟨[], rfl, (fun _ z => by cases z), Nat.zero_le _⟩
    · exact ⟨_, rfl, c1⟩
    · exact ⟨_, rfl, c2⟩
    · exact ⟨_, rfl, c3⟩
  have ng : negD (.int 2) = Option.some (.int (-2)) := rfl
  walk_at "r"
  refine for_inv (fun i e => ∃ y7 y8, e = [x0, .od K', .d (.lst ws), .d (.lst ls), x4, .d (.lst some), y6, y7, y8, .no, .no, .no] ∧ Plain y7 ∧ Plain y8) [D.tup [], .tup l1, .tup l2, .tup l3] 0 _ ⟨x7, x8, rfl, g7, g8⟩ ?_ ?_
  · rintro i y e hy ⟨y7, y8, rfl, h7, h8⟩
    obtain ⟨ts, rfl, hm, hl⟩ := lots y (List.mem_of_getElem? hy)
    have f7 : freeB [x0, .od K', .d (.lst ws), .d (.lst ls), x4, .d (.lst some), y6, y7, y8, .no, .no, .no] 7 = true := by rcases h7 with rfl | ⟨y, rfl⟩ <;> rfl
    refine ⟨f7, ?_⟩
    have pl : (preL ts).length ≤ ts.length * 121 := preL_few fun x hx => (all x (hm x hx)).2
    have pm : ts.length * 121 ≤ 4 * 121 := Nat.mul_le_mul_right _ (by omega)
    exact hL (fun t ht => (all t (hm t ht)).1) (by omega) h8 fun y8' g => ⟨_, y8', rfl, .d _, g⟩
  · rintro e ⟨y7, y8, rfl, h7, h8⟩
    exact wt_nx (q K' _ y6 y7 y8 hp' (.d _) h6 h7 h8)

end Nv

set_option Elab.async false
set_option linter.all false
set_option maxRecDepth 100000
set_option maxHeartbeats 1000000
namespace Nv
open PySem L2 PyProof.Rows PySem.Spec
local macro_rules | `(tactic| walk_at "n") => `(tactic| try simp only [List.set_cons_zero, List.set_cons_succ, List.map_cons, List.map_nil, List.cons_append, List.nil_append, List.replicate, Nat.reduceSub])
local macro_rules | `(tactic| walk_at "s") => `(tactic| first
  | with_reducible refine wp_seq ?_ | with_reducible refine wk_nx ?_ | with_reducible refine wk_rt ?_ | with_reducible refine wt_nx ?_ | with_reducible refine wt_rt ?_ | with_reducible refine wt_bk ?_ | with_reducible refine wt_ct ?_ | with_reducible refine wk_bk ?_ | with_reducible refine wk_ct ?_
  | with_reducible refine wp_if ?_ | with_reducible refine wp_ret ?_ | with_reducible refine wp_next ?_ | with_reducible refine wp_retN ?_ | with_reducible refine wp_set ?_ | with_reducible refine wp_own ?_ | with_reducible refine wp_drop ?_
  | ((with_reducible refine' wp_var ?_ ?_); rotate_left; rfl) | ((with_reducible refine' wp_varL ?_ ?_); rotate_left; rfl) | ((with_reducible refine' wp_app ?_ ?_); rotate_left; rfl) | ((with_reducible refine' wp_lget ?_ ?_ ?_); rotate_left 2; (· rfl); (· rfl)) | with_reducible refine wp_lput ?_ | ((with_reducible refine' wp_lown ?_ ?_ ?_); rotate_left; (· rfl); (· rfl)) | ((with_reducible refine' wp_fown ?_ ?_ ?_); rotate_left; (· rfl); (· rfl)) | with_reducible refine wp_c ?_ | with_reducible refine wp_op ?_ | with_reducible refine wp_un ?_ | with_reducible refine wp_cb ?_ | with_reducible refine wp_cons ?_ | with_reducible refine wp_nil ?_
  | with_reducible refine wp_bl ?_ | with_reducible refine wp_tru ?_ | with_reducible refine wp_not ?_ | with_reducible refine wp_and ?_ | with_reducible refine wp_or ?_ | with_reducible refine wp_andV ?_ | with_reducible refine wp_orV ?_ | with_reducible refine wp_notV ?_
  | with_reducible refine wp_chain ?_ | with_reducible refine wp_sz ?_ | with_reducible refine wp_lst ?_ | with_reducible refine wp_tup ?_ | with_reducible refine wp_is ?_ | with_reducible refine wp_onone ?_ | with_reducible refine wp_osome ?_ | with_reducible refine wp_sl ?_ | with_reducible refine wp_m1 ?_
  | with_reducible refine wp_all ?_ | with_reducible refine wp_repr ?_ | with_reducible refine wp_peek ?_ | with_reducible refine wp_peekT ?_ | with_reducible refine wp_addF ?_ | with_reducible refine wp_ilist ?_ | with_reducible refine wp_itup ?_ | with_reducible refine wp_istr ?_ | with_reducible refine wp_irng ?_ | with_reducible refine wp_list ?_ | with_reducible refine wp_listS ?_
  | with_reducible refine wp_for ?_ | with_reducible refine wp_call ?_ | with_reducible refine wp_callK ?_ | with_reducible refine wp_lnil ?_ | with_reducible refine wp_ldat ?_ | with_reducible refine wp_callL ?_ | with_reducible refine wp_flast ?_ | with_reducible refine wp_fdat ?_ | with_reducible refine wp_callF ?_
  | with_reducible refine ⟨_, (by assumption : _ = some _), ?_⟩
  | ((with_reducible refine' call_and ?_ ?_ ?_); rotate_left 2; (· rfl); (· assumption)) | ((with_reducible refine' callk_and ?_ ?_ ?_); rotate_left 2; (· exact ⟨rfl, rfl⟩); (· assumption))
  | refine ite_t ?_ | refine ite_f ?_ | refine ite_nt ?_ | refine ite_nf ?_
  | with_reducible refine ⟨_, add_int, ?_⟩ | with_reducible refine ⟨_, iadd_int, ?_⟩ | with_reducible refine ⟨_, sub_int, ?_⟩ | with_reducible refine ⟨_, lt_int, ?_⟩ | with_reducible refine ⟨_, le_int, ?_⟩ | with_reducible refine ⟨_, gt_int, ?_⟩ | with_reducible refine ⟨_, ge_int, ?_⟩ | with_reducible refine ⟨_, eq_int, ?_⟩
  | with_reducible refine ⟨_, len_lst, ?_⟩ | with_reducible refine ⟨_, len_tup, ?_⟩ | with_reducible refine ⟨_, tru_bl, ?_⟩ | with_reducible refine ⟨_, int_int _, ?_⟩ | with_reducible refine ⟨_, int_bl _, ?_⟩
  | with_reducible refine ⟨_, rfl, ?_⟩ | ((with_reducible refine free_and ?_ ?_); (· first | rfl | assumption); walk_at "n") | with_reducible refine rok_and (by assumption) ?_ | ((with_reducible refine kind_and ?_ ?_); (· first | rfl | assumption)) | ((with_reducible refine size_and ?_ ?_); (· simp only [List.length_cons, List.length_nil, sizeLine_eq]; omega))
  | with_reducible refine ite_y (by assumption) ?_ | with_reducible refine ite_n (by assumption) ?_ | with_reducible refine ite_ny (by assumption) ?_ | with_reducible refine ite_nn (by assumption) ?_ | with_reducible refine ite_bt (by assumption) ?_ | with_reducible refine ite_bf (by assumption) ?_ | with_reducible refine ite_nbt (by assumption) ?_ | with_reducible refine ite_nbf (by assumption) ?_)
local macro_rules | `(tactic| walk_at "r") => `(tactic| repeat walk_at "s")
local macro_rules | `(tactic| walk_at "f") => `(tactic| (refine ⟨rfl, ?_⟩; walk_at "n"))
local macro_rules | `(tactic| walk_at "d") => `(tactic| (with_reducible refine wp_draw' (by assumption) (by omega) (by decide) ?_; intro _ _ _ _ _))
/-! Fi18: the whole law. -/
theorem law_c (c : Nat → Fm) : m_law c = (mSeq (mPen 0 1)
    (mSeq (mSet 2 (mCallP 1 1 (c 16) mNil))
    (mSeq (mSet 3 (mCallP 1 1 (c 17) mNil))
    (mSeq (mFor (mIRng (mCons (mC (.int 4)) mNil)) 4 (tnBody c))
    (mSeq (mSet 9 (mOp addD (mC (.int 1)) (mCallP 2 1 (c 8) (mCons (mC (.int 5)) mNil))))
    (mSeq (mSet 10 (mCb tupOfD (mCons (mLst (mLc (mIRng (mCons (mC (.int 3)) mNil)) mYes (mCall 2 (c 44) (mCons (mVar 9) (mCons (mOp (intD fun i j => if CMul i j then some (.int (i * j)) else none) (mVar 11) (mOp ixD (mLst (mSz (mCons (mC (.int 1)) (mCons (mC (.int 3)) (mCons (mC (.int 9)) (mCons (mC (.int 27)) (mCons (mC (.int 81)) mNil))))))) (mOp (intD fun i j => some (.int (i - j))) (mVar 9) (mC (.int 1))))) mNil))) 11)) mNil)))
    (mRet (mOp eqXD (mRepr (mCons (mCall 1 (c 55) (mCons (mVar 10) mNil)) mNil)) (mRepr (mCons (mCall 1 (c 221) (mCons (mVar 10) mNil)) mNil)))))))))) := rfl
theorem many5 {m : Nat} (h : m ≤ 4) : ixD (.lst [.int 1, .int 3, .int 9, .int 27, .int 81]) (.int (m : Int)) = some (.int ((3 ^ m : Nat) : Int)) := by
  have : m = 0 ∨ m = 1 ∨ m = 2 ∨ m = 3 ∨ m = 4 := by omega
  rcases this with rfl | rfl | rfl | rfl | rfl <;> rfl
theorem pow_le {m : Nat} (h : m ≤ 4) : 3 ^ m ≤ 81 := by
  have : m = 0 ∨ m = 1 ∨ m = 2 ∨ m = 3 ∨ m = 4 := by omega
  rcases this with rfl | rfl | rfl | rfl | rfl <;> decide
theorem law_true (ns : List Int) (h : ns.length ≤ 63) : ∃ as, lawF [.d (.frl (ns.map .int))] = some (.bl true, as) := by
  have hp : PenAt (ns.take 63) 0 (pk (ns.take 63) 0 0) := ⟨0, 0, rfl, by decide, by decide, by decide⟩
  have hs : sizeLine = 16777216 := sizeLine_eq
  suffices hh : Wc lawF [.d (.frl (ns.map .int))] fun d _ => d = .bl true by
    obtain ⟨d, as, a, rfl⟩ := hh
    exact ⟨as, a⟩
  refine wc_def rfl rfl ?_; walk_at "n"
  have g2 := e_words 27
  have g3 := e_letters 28
  have hT := @tn_turn
  have hW : ∀ n s : Nat, n ≤ 4 → s + 3 ^ n ≤ 300 → Wc (cs 30 44) [.d (.int ((n + 1 : Nat) : Int)), .d (.int (s : Int))] fun d as' => Tre 19 n d ∧ as' = [.d (.int ((n + 1 : Nat) : Int)), .d (.int (s : Int))] := fun n s hn hb => by
    have := e_wood n (29 - n) s hn hb
    rw [show 29 - n + n + 1 = 30 by omega] at this
    exact this
  have hB := @both
  rw [law_c]
  rw [show cs (27 + 3) = cs 30 from rfl] at g2
  rw [show cs (28 + 2) = cs 30 from rfl] at g3
  generalize tnBody (cs 30) = TB at hT ⊢
  generalize cs 30 16 = c16 at g2 ⊢
  generalize cs 30 17 = c17 at g3 ⊢
  generalize cs 30 44 = c44 at hW ⊢
  generalize cs 30 55 = c55 at hB ⊢
  generalize cs 30 221 = c221 at hB ⊢
  with_reducible refine wp_seq ?_
  refine ⟨.nx, [.d (.frl (ns.map .int)), .od (pk (ns.take 63) 0 0), .no, .no, .no, .no, .no, .no, .no, .no, .no, .no], ?_, ?_⟩
  · show some (Out.nx, [Sl.d (.frl (ns.map .int)), Sl.od (pen0 (ns.map D.int)), .no, .no, .no, .no, .no, .no, .no, .no, .no, .no]) = _
    rw [pen0_pk]
  generalize pk (ns.take 63) 0 0 = K at hp ⊢
  generalize D.frl (ns.map .int) = fr
  refine wk_nx (wp_seq (wp_set (wp_pen1 (wp_nil ⟨rfl, _, _, _, _, _, _, rfl, hp, by decide, g2, ?_⟩))))
  rintro d K1 ⟨ws, rfl, l1, l2, hw⟩ p1
  have hws : lex ws := ⟨by omega, by omega, hw⟩
  refine ⟨rfl, wk_nx (wp_seq (wp_set (wp_pen1 (wp_nil ⟨rfl, _, _, _, _, _, _, rfl, p1, by decide, g3, ?_⟩))))⟩
  rintro d K2 ⟨ls, rfl, l3, hl⟩ p2
  have hls : lets ls := ⟨by omega, hl⟩
  refine ⟨rfl, wk_nx ?_⟩
  show Wp _ [.d fr, .od K2, .d (.lst ws), .d (.lst ls), .no, .no, .no, .no, .no, .no, .no, .no] _
  have p2 := p2.up (M := 62) (by decide)
  refine wp_seq (wp_for (wp_irng (wp_cons (wp_c (wp_nil ⟨(4 : Int), rfl, by decide, ?_⟩)))))
  refine for_inv (fun i e => ∃ K' y4 y5 y6 y7 y8, e = [.d fr, .od K', .d (.lst ws), .d (.lst ls), y4, y5, y6, y7, y8, .no, .no, .no] ∧ PenAt (ns.take 63) (62 + i * 7500) K' ∧ Plain y4 ∧ Plain y5 ∧ Plain y6 ∧ Plain y7 ∧ Plain y8) (upto 4) 0 _ ⟨K2, .no, .no, .no, .no, .no, rfl, p2.up (by decide), .no, .no, .no, .no, .no⟩ ?_ ?_
  · rintro i y e hy ⟨K', y4, y5, y6, y7, y8, rfl, hp', g4, g5, g6, g7, g8⟩
    obtain ⟨rfl, hi⟩ := upto_get hy
    rw [Nat.zero_add] at hp' ⊢
    have f4 : freeB [.d fr, .od K', .d (.lst ws), .d (.lst ls), y4, y5, y6, y7, y8, .no, .no, .no] 4 = true := by rcases g4 with rfl | ⟨y, rfl⟩ <;> rfl
    refine ⟨f4, ?_⟩
    exact hT hws hls l3 hp' (by omega) g5 g6 g7 g8 fun K3 z5 z6 z7 z8 p3 k5 k6 k7 k8 => ⟨K3, _, z5, z6, z7, z8, rfl, p3.up (by omega), .d _, k5, k6, k7, k8⟩
  rintro e ⟨K', y4, y5, y6, y7, y8, rfl, hp', g4, g5, g6, g7, g8⟩
  rw [Nat.zero_add, upto_length] at hp'
  have hp' := hp'.up (M := 40000) (by omega)
  refine wk_nx (wp_seq (wp_set (wp_op (wp_c (wp_draw1 (k := 29) hp' (by decide) (by decide) fun j K3 j0 j1 p3 => ⟨_, add_int, rfl, wk_nx ?_⟩)))))
  obtain ⟨n, rfl⟩ : ∃ n : Nat, j = (n : Int) := ⟨j.toNat, by omega⟩
  have hn : n ≤ 4 := by omega
  have e1 : (1 : Int) + (n : Int) = ((n + 1 : Nat) : Int) := by omega
  have e2 : ((n + 1 : Nat) : Int) - 1 = (n : Int) := by omega
  rw [e1]
  show Wp _ [.d fr, .od K3, .d (.lst ws), .d (.lst ls), y4, y5, y6, y7, y8, .d (.int ((n + 1 : Nat) : Int)), .no, .no] _
  have m5 := many5 hn
  have pw := pow_le hn
  have hW := fun s => hW n s hn
  generalize 3 ^ n = m at m5 pw hW
  have cm : ∀ i : Int, intD (fun i j => if CMul i j then some (D.int (i * j)) else none) (.int i) (.int (m : Int)) = some (.int (i * (m : Int))) := fun i => (mul_int _ _).trans (if_pos (.inr ⟨by omega, by omega⟩))
  refine wp_seq (wp_set (wp_cb (wp_cons (wp_lst (wp_lcsame (j := 11) (T := Tre 19 n) (e1 := [.d fr, .od K3, .d (.lst ws), .d (.lst ls), y4, y5, y6, y7, y8, .d (.int ((n + 1 : Nat) : Int)), .no, .no]) rfl (wp_irng (wp_cons (wp_c (wp_nil ⟨(3 : Int), rfl, by decide, rfl, by rw [upto_length, hs]; decide, fun i x hx => ?_, fun rs hl hR => wp_nil ⟨_, tup_lst rs, rfl, wk_nx ?_⟩⟩)))))))))
  · obtain ⟨rfl, hi⟩ := upto_get hx
    have hi : i < 3 := hi
    walk_at "n"
    have im : i * m ≤ 2 * m := Nat.mul_le_mul_right _ (by omega)
    have hc := hW (i * m) (by omega)
    have ec : (i : Int) * (m : Int) = ((i * m : Nat) : Int) := by rw [Int.natCast_mul]
    have h4 : ([D.int 1, D.int 3, D.int 9, D.int 27, D.int 81] : List D).length ≤ sizeLine := by rw [hs]; decide
    refine wp_call (wp_cons (wp_var (d := .int ((n + 1 : Nat) : Int)) rfl (wp_cons (wp_op (wp_var (d := .int (i : Int)) rfl (wp_op (wp_lst (wp_sz (wp_cons (wp_c (wp_cons (wp_c (wp_cons (wp_c (wp_cons (wp_c (wp_cons (wp_c (wp_nil ⟨h4, wp_op (wp_var (d := .int ((n + 1 : Nat) : Int)) rfl (wp_c ⟨_, sub_int, ?_⟩))⟩)))))))))))))))))))
    rw [e2]
    refine ⟨_, m5, _, cm _, wp_nil ⟨rfl, ?_⟩⟩
    rw [ec]
    exact hc.mono fun x e' h => ⟨h.1, rfl⟩
  · have hl : rs.length = 3 := hl
    show Wp _ [.d fr, .od K3, .d (.lst ws), .d (.lst ls), y4, y5, y6, y7, y8, .d (.int ((n + 1 : Nat) : Int)), .d (.tup rs), .no] _
    have pl : (preL rs).length ≤ rs.length * pz n := preL_few fun x hx => tre_pz (hR x hx)
    have pn := pz_le hn
    have pm : rs.length * pz n ≤ rs.length * 121 := Nat.mul_le_mul_left _ pn
    obtain ⟨F, a, b, c⟩ := hB n (by omega) hR (by omega)
    refine wp_ret (wp_op (wp_repr (wp_cons (wp_call (wp_cons (wp_var (d := .tup rs) rfl (wp_nil ⟨rfl, wc_eq b (wp_nil ⟨F, rfl, c, wp_repr (wp_cons (wp_call (wp_cons (wp_var (d := .tup rs) rfl (wp_nil ⟨rfl, wc_eq a (wp_nil ⟨F, rfl, c, _, eq_str _, ?_⟩)⟩)))))⟩)⟩)))))))
    rfl

end Nv

set_option Elab.async false
set_option linter.all false
set_option maxRecDepth 100000
set_option maxHeartbeats 4000000
namespace Nv
open PySem L2 PyProof.Rows PySem.Spec
theorem sp_law (K : PySem.W.Frag) (H : Hp) (a : Addr) (ns : List Int) (hl : ns.length ≤ 63) (hS : SqL K H a (ns.map V.int)) : SpD ⟨K, fun _ => 0⟩ 1 (PhiF lawF) [.ref a] H (fun v _ => v = .bl true) E0 := by
  obtain ⟨as, ha⟩ := law_true ns hl
  refine ⟨H, [.d (.frl (ns.map .int))], fun d _ => d = .bl true, rfl, ?_, args_ok (ds := [.frl (ns.map .int)]), ⟨_, _, ha, rfl⟩, fun v d G' H' as' S T r e => ?_⟩
  · exact St.data (vs := [.ref a]) (ds := [.frl (ns.map .int)]) (Same.refl H) (.cons (.frl hS (RpAll.ints ns)) .nil)
  · subst e
    exact r.bl_inv
end Nv
open PySem PySem.W PyProof.Rows
set_option maxHeartbeats 0 in
theorem PySem.Challenge.cw_nevermet_k05_filled_and_renamed_holds : PySem.Challenge.rw_nevermet_k05_filled_and_renamed.Holds := by
  w_on; o_law; k_head; (case hw => w_witness2)
  k_fill
  refine Nv.walk_g (l := PySem.Challenge.rw_nevermet_k05_filled_and_renamed) (n := 63) (k := 31) (x := "_law_script") (sp := fun K => Nv.SpD ⟨K, fun _ => 0⟩ 1 (Nv.PhiF Nv.lawF)) rfl (by decide) rfl ⟨rfl, by decide, by decide⟩ (fun w h Y => PySem.W.kIn_of Y) ?F (fun K H a ns hl hS => Nv.sp_law K H a ns hl hS)
  case F =>
    intro w mg fa h KX G hmg
    refine' Nv.facts KX G hmg ?a_walk ?l_walk ?c_walk ?k_walk ?a_variables_in ?l_variables_in ?c_variables_in ?k_variables_in ?a_filled ?l_filled ?c_filled ?k_filled ?a_filled_all ?l_filled_all ?c_filled_all ?k_filled_all ?a_renamed ?l_renamed ?c_renamed ?k_renamed ?a__law_pen ?l__law_pen ?c__law_pen ?k__law_pen ?a__law_draw ?l__law_draw ?c__law_draw ?k__law_draw ?a__law_names ?l__law_names ?c__law_names ?k__law_names ?a__law_words ?l__law_words ?c__law_words ?k__law_words ?a__law_letters ?l__law_letters ?c__law_letters ?k__law_letters ?a__law_term ?l__law_term ?c__law_term ?k__law_term ?a__law_full ?l__law_full ?c__law_full ?k__law_full ?a__law_pieces ?l__law_pieces ?c__law_pieces ?k__law_pieces ?a__law_variables ?l__law_variables ?c__law_variables ?k__law_variables ?a__law_filled ?l__law_filled ?c__law_filled ?k__law_filled ?a__law_all_filled ?l__law_all_filled ?c__law_all_filled ?k__law_all_filled ?a__law_renamed ?l__law_renamed ?c__law_renamed ?k__law_renamed ?a__law_swap ?l__law_swap ?c__law_swap ?k__law_swap ?a__law_wood ?l__law_wood ?c__law_wood ?k__law_wood ?a__law_filled_right ?l__law_filled_right ?c__law_filled_right ?k__law_filled_right ?a_law ?l_law ?c_law ?k_law ?z_list ?z_tuple ?z_range ?z_isinstance ?z_str ?z_repr ?z_dict ?z_int ?z_len ?z_abs ?z_enumerate
    (case a_walk => k_is); (case l_walk => k_is); (case c_walk => k_is); (case k_walk => k_is); (case a_variables_in => k_is); (case l_variables_in => k_is); (case c_variables_in => k_is); (case k_variables_in => k_is); (case a_filled => k_is); (case l_filled => k_is); (case c_filled => k_is); (case k_filled => k_is); (case a_filled_all => k_is); (case l_filled_all => k_is); (case c_filled_all => k_is); (case k_filled_all => k_is); (case a_renamed => k_is); (case l_renamed => k_is); (case c_renamed => k_is); (case k_renamed => k_is); (case a__law_pen => k_is); (case l__law_pen => k_is); (case c__law_pen => k_is); (case k__law_pen => k_is); (case a__law_draw => k_is); (case l__law_draw => k_is); (case c__law_draw => k_is); (case k__law_draw => k_is); (case a__law_names => k_is); (case l__law_names => k_is); (case c__law_names => k_is); (case k__law_names => k_is); (case a__law_words => k_is); (case l__law_words => k_is); (case c__law_words => k_is); (case k__law_words => k_is); (case a__law_letters => k_is); (case l__law_letters => k_is); (case c__law_letters => k_is); (case k__law_letters => k_is); (case a__law_term => k_is); (case l__law_term => k_is); (case c__law_term => k_is); (case k__law_term => k_is); (case a__law_full => k_is); (case l__law_full => k_is); (case c__law_full => k_is); (case k__law_full => k_is); (case a__law_pieces => k_is); (case l__law_pieces => k_is); (case c__law_pieces => k_is); (case k__law_pieces => k_is); (case a__law_variables => k_is); (case l__law_variables => k_is); (case c__law_variables => k_is); (case k__law_variables => k_is); (case a__law_filled => k_is); (case l__law_filled => k_is); (case c__law_filled => k_is); (case k__law_filled => k_is); (case a__law_all_filled => k_is); (case l__law_all_filled => k_is); (case c__law_all_filled => k_is); (case k__law_all_filled => k_is); (case a__law_renamed => k_is); (case l__law_renamed => k_is); (case c__law_renamed => k_is); (case k__law_renamed => k_is); (case a__law_swap => k_is); (case l__law_swap => k_is); (case c__law_swap => k_is); (case k__law_swap => k_is); (case a__law_wood => k_is); (case l__law_wood => k_is); (case c__law_wood => k_is); (case k__law_wood => k_is); (case a__law_filled_right => k_is); (case l__law_filled_right => k_is); (case c__law_filled_right => k_is); (case k__law_filled_right => k_is); (case a_law => k_is); (case l_law => k_is); (case c_law => k_is); (case k_law => k_is); (case z_list => k_is); (case z_tuple => k_is); (case z_range => k_is); (case z_isinstance => k_is); (case z_str => k_is); (case z_repr => k_is); (case z_dict => k_is); (case z_int => k_is); (case z_len => k_is); (case z_abs => k_is); (case z_enumerate => k_is);

